import PyProof.Rows.All
import Wide.All
import OpenK.AllK
import Wide.FinOn
import Lean
import PyProof.EqAt
import PyProof.EqKinds
import PyProof.TupleCall
import PyProof.NeKinds
import PyProof.ZipIter
import PyProof.ListRange
import PyProof.TupleOfSeq
import PyProof.ConsumeWalk
import PyProof.IsRules
import PyProof.SetKind
import PyProof.SetRoads
import PyProof.Rows.SetFrom
import PyProof.Draws
import PyProof.EnumMake
import PyProof.DictCompW
import PyProof.ListMulRoad
import PyProof.Rows.SeqMore2
import PyProof.WalkInts
import PyProof.DictRoadsH
import PyProof.DictItems
import KE.KDictList
import KE.KDictOf
import PyProof.AttrMissHeap
import PySem.Challenge.RW_bringhome_k49_whole_folded_by_what_is_st
section
open PySem
abbrev Ya:=List (List Int)
abbrev Yb:=W.Frag
abbrev Yc:=Value->Shared->Prop
abbrev Yd:=List (Addr × Obj)
abbrev Ye:=List Int
abbrev Yf:=List Value
abbrev Yg:=List Addr
abbrev Yh:=Str->Option Value
abbrev Yi:=List Expr
abbrev Yj:=List Nat
abbrev Yk:=List Str
abbrev Yl:=Shared
abbrev Ym:=Program
abbrev Yn:=Around
abbrev Yo:=World
abbrev Yp:=Array Value
abbrev Yq:=List Int->Prop
abbrev Yr:=Value->Nat
abbrev Ys:=Option Int
abbrev Yt:=Addr
abbrev Yu:=Value
abbrev Yv:=List (Str × Addr)
abbrev Yw:=Array (Int × Value)
abbrev Yx:=Result->Shared->Prop
abbrev Yy:=List Stmt
abbrev Yz:=FuncData
abbrev Y0:=Scope
abbrev Y1:=List Int->List (List Int)
abbrev Y2:=Value->Value->Sem Value
end
namespace PySem.W.Fast
def tw106090524125057376:=0
def tw17677851212842101484:=0
def tw12503824589848632143:=0
def tw7387120791589820069:=0
def tw7411636888095033071:=0
def tw17255733235020828214:=0
def tw16938582908680377276:=0
def tw5647656376397749844:=0
def tw11055124580904077385:=0
def tw14045361735951850015:=0
def tw9911936257769393471:=0
def tw5793364597991762060:=0
def tw11032890655677946645:=0
def tw9313182017300756115:=0
def tw8363376116282701906:=0
def tw16555503692349405377:=0
def tw14854850641275173097:=0
def tw15206759884025012713:=0
def tw16959196708231728260:=0
def tw15873660395956893886:=0
def tw5041319602579600781:=0
def tw14702181806823640907:=0
def tw16874043877983971550:=0
def tw3465806044624100953:=0
def tw7192484391100842836:=0
def tw916401315500422532:=0
def tw16810718108816012454:=0
def tw3081782734472144445:=0
def tw10389868104884236529:=0
def tw5837038637617307755:=0
def tw11545576521963150804:=0
def tw14548339289147249308:=0
def tw115344753404246086:=0
def tw8845145643037066933:=0
def tw6841535527390933234:=0
def tw17087433157400324056:=0
def tw8732302732587162100:=0
def tw10628194178141509970:=0
def tw13341420908081951701:=0
def tw2702370876878707864:=0
def tw10722100953610960688:=0
def tw1337302495425900958:=0
def tw5656210864745826460:=0
def tw3404068174572139917:=0
def tw14129008288805390903:=0
def tw9631145709864425821:=0
def tw1721883472757069853:=0
def tw10684919380503847987:=0
end PySem.W.Fast
section
open PySem PySem.Spec PyProof.Rows
theorem zXn:type_of% @wpAny_bind:=@wpAny_bind
theorem zXo:type_of% @Heap.get?_push_of_some:=@Heap.get?_push_of_some
theorem zXp:type_of% @wpAny_pure:=@wpAny_pure
theorem zXq:type_of% @List.getElem?_eq_some_iff:=@List.getElem?_eq_some_iff
theorem zXr:type_of% @List.getElem?_eq_getElem:=@List.getElem?_eq_getElem
theorem zXs:type_of% @List.getD_eq_getElem?_getD:=@List.getD_eq_getElem?_getD
theorem zXt:type_of% @Nat.le_refl:=@Nat.le_refl
theorem zXu:type_of% @List.getElem?_append_left:=@List.getElem?_append_left
theorem zXv:type_of% @List.size_toArray:=@List.size_toArray
theorem zXw:type_of% @List.length_map:=@List.length_map
theorem zXx:type_of% @Heap.get?_push_size:=@Heap.get?_push_size
theorem zXy:type_of% @Heap.lt_size:=@Heap.lt_size
theorem zXz:type_of% @List.mem_cons:=@List.mem_cons
theorem zX0:type_of% @List.mem_cons_of_mem:=@List.mem_cons_of_mem
theorem zX1:type_of% @List.mem_cons_self:=@List.mem_cons_self
theorem zX2:type_of% @if_pos:=@if_pos
theorem zX3:type_of% @List.length_append:=@List.length_append
theorem zX4:type_of% @List.mem_map:=@List.mem_map
theorem zX5:type_of% @if_neg:=@if_neg
theorem zX6:type_of% @List.map_cons:=@List.map_cons
theorem zX7:type_of% @List.mem_append_right:=@List.mem_append_right
theorem zX8:type_of% @Nat.ne_of_lt:=@Nat.ne_of_lt
theorem zX9:type_of% @Bool.false_ne_true:=@Bool.false_ne_true
theorem zYA:type_of% @List.getElem?_map:=@List.getElem?_map
theorem zYB:type_of% @List.map_map:=@List.map_map
theorem zYC:type_of% @Nat.lt_of_lt_of_le:=@Nat.lt_of_lt_of_le
theorem zYD:type_of% @List.mem_append:=@List.mem_append
theorem zYE:type_of% @Nat.le_trans:=@Nat.le_trans
theorem zYF:type_of% @List.mem_singleton:=@List.mem_singleton
theorem zYG:type_of% @wpAny_newObj_type:=@wpAny_newObj_type
theorem zYH:type_of% @List.getElem?_set_ne:=@List.getElem?_set_ne
theorem zYI:type_of% @List.not_mem_nil:=@List.not_mem_nil
theorem zYJ:type_of% @wpAny_mono:=@wpAny_mono
theorem zYK:type_of% @List.length_cons:=@List.length_cons
theorem zYL:type_of% @List.getElem_mem:=@List.getElem_mem
theorem zYM:type_of% @decide_eq_false:=@decide_eq_false
theorem zYN:type_of% @Bool.and_eq_true:=@Bool.and_eq_true
theorem zYO:type_of% @List.all_eq_true:=@List.all_eq_true
theorem zYP:type_of% @wpAny_callSpecial?_slot:=@wpAny_callSpecial?_slot
theorem zYQ:type_of% @wpAny_call_entry:=@wpAny_call_entry
theorem zYR:type_of% @List.mem_range:=@List.mem_range
theorem zYS:type_of% @wpAny_field:=@wpAny_field
theorem zYT:type_of% @Heap.size_push:=@Heap.size_push
theorem zYU:type_of% @Heap.get?_update_other:=@Heap.get?_update_other
theorem zYV:type_of% @Nat.lt_irrefl:=@Nat.lt_irrefl
theorem zYW:type_of% @Array.length_toList:=@Array.length_toList
theorem zYX:type_of% @List.append_nil:=@List.append_nil
theorem zYY:type_of% @Array.getElem?_eq_getElem:=@Array.getElem?_eq_getElem
theorem zYZ:type_of% @Nat.zero_le:=@Nat.zero_le
theorem zYa:type_of% @Heap.get?_update_self:=@Heap.get?_update_self
theorem zYc:type_of% @Nat.lt_succ_of_lt:=@Nat.lt_succ_of_lt
theorem zYd:type_of% @wpAny_seqItems:=@wpAny_seqItems
theorem zYe:type_of% @List.mem_of_getElem?:=@List.mem_of_getElem?
theorem zYf:type_of% @List.map_append:=@List.map_append
theorem zYg:type_of% @wpAny_holding:=@wpAny_holding
theorem zYh:type_of% @List.getElem?_set_self:=@List.getElem?_set_self
theorem zYi:type_of% @Around.under_plainId:=@Around.under_plainId
theorem zYj:type_of% @of_decide_eq_true:=@of_decide_eq_true
theorem zYk:type_of% @Nat.lt_succ_self:=@Nat.lt_succ_self
theorem zYl:type_of% @wpAny_standAt:=@wpAny_standAt
theorem zYm:type_of% @PySem.W.mg_none_of:=@PySem.W.mg_none_of
theorem zYn:type_of% @Option.some.inj:=@Option.some.inj
theorem zYo:type_of% @Bool.false_eq_true:=@Bool.false_eq_true
theorem zYp:type_of% @PySem.mem_of_lookup:=@PySem.mem_of_lookup
theorem zYq:type_of% @Heap.SameBut.update:=@Heap.SameBut.update
theorem zYr:type_of% @List.cons.inj:=@List.cons.inj
theorem zYs:type_of% @codeAny_builtin:=@codeAny_builtin
theorem zYt:type_of% @List.append_assoc:=@List.append_assoc
theorem zYv:type_of% @decide_eq_true:=@decide_eq_true
theorem zYw:type_of% @List.getElem?_eq_none:=@List.getElem?_eq_none
theorem zYx:type_of% @List.getElem?_append_right:=@List.getElem?_append_right
theorem zYy:type_of% @List.mem_filter:=@List.mem_filter
theorem zYz:type_of% @wpAny_truthy_bool:=@wpAny_truthy_bool
theorem zY0:type_of% @decide_eq_true_eq:=@decide_eq_true_eq
theorem zY1:type_of% @List.nodup_append:=@List.nodup_append
theorem zY2:type_of% @List.mem_append_left:=@List.mem_append_left
theorem zY4:type_of% @Obj.data_mapFields:=@Obj.data_mapFields
theorem zY6:type_of% @List.replicate_succ:=@List.replicate_succ
theorem zY7:type_of% @List.nodup_cons:=@List.nodup_cons
theorem zY8:type_of% @or_false:=@or_false
theorem zY9:type_of% @Nat.lt_or_ge:=@Nat.lt_or_ge
theorem zZA:type_of% @wpAny_rule:=@wpAny_rule
theorem zZB:type_of% @List.length_take:=@List.length_take
theorem zZI:type_of% @Nat.ne_of_gt:=@Nat.ne_of_gt
theorem zZL:type_of% @PyProof.Rows.slot_tuple_getitem:=@PyProof.Rows.slot_tuple_getitem
theorem zZM:type_of% @List.getElem?_set:=@List.getElem?_set
theorem zZP:type_of% @Nat.mul_le_mul:=@Nat.mul_le_mul
theorem zZQ:type_of% @PySem.W.kia_one:=@PySem.W.kia_one
theorem zZT:type_of% @wpAny_pyIter_tuple:=@wpAny_pyIter_tuple
theorem zZV:type_of% @Nat.le_succ:=@Nat.le_succ
theorem zZZ:type_of% @List.find?_cons:=@List.find?_cons
theorem zZa:type_of% @congrArg:=@congrArg
theorem zZh:type_of% @wpAny_comprehension_free:=@wpAny_comprehension_free
theorem zZk:type_of% @List.length_range:=@List.length_range
theorem zZl:type_of% @List.foldl_append:=@List.foldl_append
theorem zZm:type_of% @List.flatten_cons:=@List.flatten_cons
theorem zZq:type_of% @List.getElem_of_mem:=@List.getElem_of_mem
theorem zZr:type_of% @List.getElem?_range:=@List.getElem?_range
theorem zZs:type_of% @List.lookup_cons:=@List.lookup_cons
theorem zZx:type_of% @List.pairwise_cons:=@List.pairwise_cons
theorem zZ7:type_of% @List.length_filter_le:=@List.length_filter_le
theorem zaA:type_of% @List.Pairwise.imp:=@List.Pairwise.imp
theorem zaX:type_of% @Int.toNat_natCast:=@Int.toNat_natCast
end
set_option Elab.async false
set_option linter.all false
set_option maxRecDepth 100000
set_option genSizeOf false
set_option genInjectivity false
set_option compiler.extract_closed false
noncomputable section
namespace L2
open PySem PySem.Spec PyProof.Rows
noncomputable abbrev Key:=Sum Int Str
noncomputable def zI4:Key->Value->Bool
 |.inl k,v=>Value.isInt k v
 |.inr x,v=>Value.isStrOf x v
noncomputable def zXL (w:Yo):Key->Int
 |.inl k=>hashInt k
 |.inr x=>hashStr w x
theorem zAd:∀ {k:Key} {v:Yu},zI4 k v=true->(∃ i t,k=Sum.inl i/\v=Value.int i t)\/(∃ x t,k=Sum.inr x/\v=Value.str x t)
 |.inl i,v,h=>by
  obtain ⟨t,e⟩:=Value.isInt_shape (k:=i) (v:=v) h;exact .inl ⟨i,t,rfl,e⟩
 |.inr x,v,h=>by
  obtain ⟨t,e⟩:=Value.isStrOf_shape (x:=x) (v:=v) h;exact .inr ⟨x,t,rfl,e⟩
theorem zPP (i:Int) (t:Tok):zI4 (.inl i) (.int i t)=true:=by simp[zI4,Value.isInt]
theorem zPR (x:Str) (t:Tok):zI4 (.inr x) (.str x t)=true:=by simp[zI4,Value.isStrOf]
theorem zUy (a b:Int):decide ((Sum.inl a:Key)=Sum.inl b)=(a==b):=by
 by_cases e:a=b
 .subst e;simp
 .have h:¬ (Sum.inl a:Key)=Sum.inl b:=λq=>e (Sum.inl.inj q);rw[zYM h];exact (beq_eq_false_iff_ne.mpr e).symm
theorem zU7 (a b:Str):decide ((Sum.inr a:Key)=Sum.inr b)=decide (a=b):=by
 by_cases e:a=b
 .subst e;simp
 .have h:¬ (Sum.inr a:Key)=Sum.inr b:=λq=>e (Sum.inr.inj q);rw[zYM h,zYM e]
theorem zUv (a:Int) (b:Str):decide ((Sum.inl a:Key)=Sum.inr b)=false:=zYM (λq=>nomatch q)
theorem zUa (a:Str) (b:Int):decide ((Sum.inr a:Key)=Sum.inl b)=false:=zYM (λq=>nomatch q)
noncomputable def zAQ (prog:Ym) (w:Yo):PySem.KeyKind prog w Key where
 is:=zI4
 hash:=zXL w
 inj:=λv a b ha hb=>by
  rcases zAd ha with ⟨i,t,rfl,rfl⟩|⟨x,t,rfl,rfl⟩
  .rcases zAd hb with ⟨j,u,rfl,e⟩|⟨y,u,rfl,e⟩
   .injection e with e1 _;rw[e1]
   .exact nomatch e
  .rcases zAd hb with ⟨j,u,rfl,e⟩|⟨y,u,rfl,e⟩
   .exact nomatch e
   .injection e with e1 _;rw[e1]
 byValue:=λk v h=>by
  rcases zAd h with ⟨i,t,rfl,rfl⟩|⟨x,t,rfl,rfl⟩ <;> rfl
 pyHash:=λhv h=>by
  rcases zAd hv with ⟨i,t,rfl,rfl⟩|⟨x,t,rfl,rfl⟩
  .exact wpAny_pyHash_int h
  .exact wpAny_pyHash_str h
 eqBool:=λhu hv h=>by
  rcases zAd hu with ⟨i,t,rfl,rfl⟩|⟨x,t,rfl,rfl⟩
  .rcases zAd hv with ⟨j,u,rfl,rfl⟩|⟨y,u,rfl,rfl⟩
   .rw[zUy]at h;exact wpAny_eqBool_int h
   .rw[zUv]at h;exact SeqAt.EqAt.int_str i t y u _ _ _ _ h
  .rcases zAd hv with ⟨j,u,rfl,rfl⟩|⟨y,u,rfl,rfl⟩
   .rw[zUa]at h;exact SeqAt.EqAt.str_int x t j u _ _ _ _ h
   .rw[zU7]at h;exact wpAny_eqBool_str h
 «strs»:=λk x t v h=>by
  rcases zAd h with ⟨i,u,rfl,e⟩|⟨y,u,rfl,e⟩
  .exact nomatch e
  .injection e with e1 _
   subst e1
   cases v <;> rfl
theorem zLI (prog:Ym) (w:Yo) (i:Int) (t:Tok):(zAQ prog w).is (.inl i) (.int i t)=true:=zPP i t
theorem zK1 (prog:Ym) (w:Yo) (x:Str) (t:Tok):(zAQ prog w).is (.inr x) (.str x t)=true:=zPR x t
set_option genInjectivity true in
inductive V where
 |non|bl (b:Bool)|int (i:Int)|str (x:Str)|byt (b:Array UInt8)|flt (b:UInt64)|ref (a:Yt)|ty (n:String)
 deriving DecidableEq
def zp:V->Value->Prop
 |.non,u=>u=Value.none
 |.bl b,u=>u=Value.bool b
 |.int i,u=>∃ t,u=Value.int i t
 |.str x,u=>∃ t,u=Value.str x t
 |.byt b,u=>∃ t,u=Value.bytes b t
 |.flt b,u=>∃ t,u=Value.float b t
 |.ref a,u=>u=Value.ref a
 |.ty n,u=>u=Value.type n
abbrev zb:List V->List Value->Prop:=Paired zp
theorem zb.length {xs:List V} {us:Yf} (r:zb xs us):xs.length=us.length:=Paired.length r
theorem zb.get:∀ {xs:List V} {us:Yf} {i:Nat} {x:V},zb xs us->xs[i]?=some x -> ∃ u,us[i]?=some u/\zp x u
 |_,_,_,_,.nil,e=>by simp at e
 |_,_,0,_,.cons r _,e=>by simp at e;subst e;exact ⟨_,rfl,r⟩
 |_,_,i+1,x,.cons _ t,e=>by
  obtain ⟨u,h1,h2⟩:=zb.get (i:=i) (x:=x) t (by simpa using e);exact ⟨u,by simpa using h1,h2⟩
theorem zb.set {x:V} {u:Yu} (r:zp x u):∀ {xs:List V} {us:Yf} (i:Nat),zb xs us->zb (xs.set i x) (us.set i u)
 |_,_,_,.nil=> .nil
 |_,_,0,.cons _ t=> .cons r t
 |_,_,i+1,.cons q t=> .cons q (zb.set r i t)
theorem zb.append:∀ {xs ys:List V} {us ws:Yf},zb xs us->zb ys ws->zb (xs++ys) (us++ws)
 |_,_,_,_,.nil,s=>s
 |_,_,_,_,.cons r t,s=> .cons r (zb.append t s)
theorem zb.take:∀ {xs:List V} {us:Yf} (n:Nat),zb xs us->zb (xs.take n) (us.take n)
 |_,_,0,_=> .nil
 |_,_,_+1,.nil=> .nil
 |_,_,n+1,.cons r t=> .cons r (zb.take n t)
theorem zb.drop:∀ {xs:List V} {us:Yf} (n:Nat),zb xs us->zb (xs.drop n) (us.drop n)
 |_,_,0,r=>r
 |_,_,_+1,.nil=> .nil
 |_,_,n+1,.cons _ t=>zb.drop n t
def zFl:Option V->Option Value->Prop
 |some v,some u=>zp v u
 |none,none=>True
 |_,_=>False
def KV {κ:Type}:List (κ × V)->List (κ × Value)->Prop:=Paired λ(p:κ × V) (q:κ × Value)=>p.1=q.1/\zp p.2 q.2
noncomputable def kV:Key->V
 |.inl i=> .int i
 |.inr x=> .str x
set_option genInjectivity true in
inductive HO where
 |lst (xs:List V)
 |tup (xs:List V)
 |dK (kvs:List (Key × V))|dT (kvs:List (List Key × V))
 |set (S:Int->Bool) (n:Nat)
 |ins (C dx:Yt) (fs:List (Str × V))
 |own (x:Yt)
 |xd (fs:List (Str × V))
 |met (f x:Yt)
 |rng (lo hi:Int)
 |frz (o:Obj) (u:HO)
 |tbl (ps:Yp)
 |ext (φ:Heap->Prop)
noncomputable abbrev Hp:=Addr->Option HO
noncomputable def upd (H:Hp) (a:Yt) (o:HO):Hp:=λb=>if b=a then some o else H b
theorem zAH {H:Hp} {a:Yt} {o:HO}:upd H a o a=some o:=by unfold upd;rw[zX2 rfl]
theorem zZ {H:Hp} {a b:Yt} {o:HO} (h:b≠a):upd H a o b=H b:=by unfold upd;rw[zX5 h]
theorem zJA {H:Hp} {a b:Yt} {o u:HO} (h:H a=some o) (h':H b=some u) (d:o≠u):a≠b:=by
 intro e;subst e;rw[h]at h';exact d (zYn h')
theorem zAL {H:Hp} {a b:Yt} {o:HO} (h:H a=some o) (h':H b=none):a≠b:=by
 intro e;subst e;rw[h]at h';cases h'
def zCM (h:Heap) (a:Addr) (items:Array Value):Prop:=∃ o,h.get? a=some o/\o.cls=.type "tuple" /\ (∃ n,o.data=.seq items n)/\o.dict=none
theorem zCM.tup {h:Heap} {a:Yt} {items:Yp} (x:zCM h a items):IsTup h a items:=let ⟨o,e,c,d,_⟩:=x;⟨o,e,c,d⟩
theorem zCM.lt {h:Heap} {a:Yt} {items:Yp} (x:zCM h a items):a<h.objs.size:=let ⟨_,e,_⟩:=x;zXy e
theorem zCM.new (h:Heap) (items:Array Value):zCM (h.push { cls:=.type "tuple", data:=.seq items }) h.objs.size items:=⟨_,zXx _ rfl,rfl,⟨_,rfl⟩,rfl⟩
section
variable (P:Ym) (w:Yo)
def zAU (H:Hp) (h:Heap) (a:Yt):HO->Prop
 |.lst xs=>xs.length<=sizeLine /\ ∃ (its:List Value) (n:Nat),zb xs its/\h.get? a=some { cls:=.type "list", data:=.seq its.toArray n }
 |.tup xs=>xs.length<=sizeLine /\ ∃ its:List Value,zb xs its/\zCM h a its.toArray
 |.dK kvs=>kvs.length<=sizeLine/\(a==sysModules)=false /\ ∃ vs,KV kvs vs/\h.DictOf (zAQ P w) a vs
 |.dT kvs=>kvs.length<=sizeLine/\(a==sysModules)=false /\ ∃ xs:List (List Key × Addr × Value),
   Paired (λ(p:List Key × V) (q:List Key × Addr × Value)=>p.1=q.1/\H q.2.1=some (.tup (p.1.map kV))/\zp p.2 q.2.2) kvs xs /\
   ∃ o es ep,h.get? a=some o/\o.ExactDict/\o.data=.dict es ep/\es.toList=xs.map (entryOfKey (tupleKind (zAQ P w)))/\(xs.map (·.1)).Nodup
 |.set S n=>h.SetOf (intKind P w) a S n
 |.ins C dx fs=>H dx=some (.own a)/\fs.length<=1000/\dx≠a/\h.get? a=some (PySem.W.instObj C dx) /\
   ∃ mA,h.Ns1 dx mA/\(∀ f,zFl (fs.lookup f) (mA f))/\PySem.Within mA (fs.map (·.1))
 |.own _=>∃ o,h.get? a=some o
 |.xd fs=>∃ mA,h.Ns1 a mA /\ ∀ f,zFl (fs.lookup f) (mA f)
 |.rng lo hi=>∃ t u v,h.get? a=some { cls:=.type "range", data:=.fields #[.int lo t,.int hi u,.int 1 v] }
 |.frz o u=>h.get? a=some o/\zAU H h a u
 |.tbl ps=>h.get? a=some { cls:=.none,data:=.fields ps }
 |.met f x=>h.get? a=some (PySem.W.methodObj (.ref f) (.ref x))
 |.ext φ=>φ h/\(∃ o,h.get? a=some o) /\ ∀ h1 h2:Heap,φ h1->(∀ o,h1.get? a=some o->h2.get? a=some o)->φ h2
def HOk (H:Hp) (h:Heap):Prop:=∀ a o,H a=some o->zAU P w H h a o
end
section
variable {P:Ym} {w:Yo} {H H':Hp} {h h':Heap} {a:Yt} {o:HO}
theorem zAU.lt (x:zAU P w H h a o):a<h.objs.size:=by
 cases o with
 |lst xs=>obtain ⟨_,_,_,_,e⟩:=x;exact zXy e
 |tup xs=>obtain ⟨_,_,_,p⟩:=x;exact p.lt
 |dK kvs=>obtain ⟨_,_,_,_,o,_,_,e,_⟩:=x;exact zXy e
 |dT kvs=>obtain ⟨_,_,_,_,o,_,_,e,_⟩:=x;exact zXy e
 |set S n=>obtain ⟨o,_,_,_,e,_⟩:=x;exact zXy e
 |ins C dx fs=>obtain ⟨_,_,_,e,_⟩:=x;exact zXy e
 |own y=>obtain ⟨_,e⟩:=x;exact zXy e
 |xd fs=>obtain ⟨_,⟨_,_,_,e,_⟩,_⟩:=x;exact zXy e
 |rng lo hi=>obtain ⟨_,_,_,e⟩:=x;exact zXy e
 |frz ob u=>obtain ⟨e,_⟩:=x;exact zXy e
 |tbl ps=>exact zXy (show h.get? a=some _ from x)
 |met f y=>exact zXy (show h.get? a=some _ from x)
 |ext φ=>obtain ⟨_,⟨_,e⟩,_⟩:=x;exact zXy e
theorem Paired.mapP {α β:Type} {F G:α->β->Prop}:∀ {l₁:List α} {l₂:List β},Paired F l₁ l₂->(∀ a b,F a b->G a b)->Paired G l₁ l₂
 |_,_,.nil,_=> .nil
 |_,_,.cons r t,f=> .cons (f _ _ r) (Paired.mapP t f)
theorem zAU.stay (x:zAU P w H h a o) (k:∀ b u,(b=a\/H b=some (.own a))->h.get? b=some u->h'.get? b=some u)
  (ho:∀ b,H b=some (.own a)->H' b=some (.own a)) (ht:∀ b xs,H b=some (.tup xs)->H' b=some (.tup xs)):zAU P w H' h' a o:=by
 induction o with
 |lst xs=>obtain ⟨z,its,n,r,e⟩:=x;exact ⟨z,its,n,r,k _ _ (.inl rfl) e⟩
 |tup xs=>obtain ⟨z,its,r,ob,e,c⟩:=x;exact ⟨z,its,r,ob,k _ _ (.inl rfl) e,c⟩
 |dK kvs=>obtain ⟨z,y,vs,r,ob,es,ep,e,c⟩:=x;exact ⟨z,y,vs,r,ob,es,ep,k _ _ (.inl rfl) e,c⟩
 |dT kvs=>
  obtain ⟨z,y,xs,r,ob,es,ep,e,c⟩:=x;exact ⟨z,y,xs,Paired.mapP r λp q z=>⟨z.1,ht _ _ z.2.1,z.2.2⟩,ob,es,ep,k _ _ (.inl rfl) e,c⟩
 |set S n=>obtain ⟨ob,es,ep,t,e,c⟩:=x;exact ⟨ob,es,ep,t,k _ _ (.inl rfl) e,c⟩
 |ins C dx fs=>
  obtain ⟨d,z,ne,e,mA,⟨od,es,ep,e2,c⟩,r⟩:=x;exact ⟨ho _ d,z,ne,k _ _ (.inl rfl) e,mA,⟨od,es,ep,k _ _ (.inr d) e2,c⟩,r⟩
 |own y=>obtain ⟨ob,e⟩:=x;exact ⟨ob,k _ _ (.inl rfl) e⟩
 |xd fs=>obtain ⟨mA,⟨od,es,ep,e,c⟩,r⟩:=x;exact ⟨mA,⟨od,es,ep,k _ _ (.inl rfl) e,c⟩,r⟩
 |rng lo hi=>obtain ⟨t,u,v,e⟩:=x;exact ⟨t,u,v,k _ _ (.inl rfl) e⟩
 |frz ob u ih=>obtain ⟨e,q⟩:=x;exact ⟨k _ _ (.inl rfl) e,ih q⟩
 |tbl ps=>
  have e:h.get? a=some { cls:=.none,data:=.fields ps }:=x;show h'.get? a=some { cls:=.none,data:=.fields ps };exact k a _ (.inl rfl) e
 |met f y=>
  have e:h.get? a=some (PySem.W.methodObj (.ref f) (.ref y)):=x;show h'.get? a=some (PySem.W.methodObj (.ref f) (.ref y));exact k a _ (.inl rfl) e
 |ext φ=>obtain ⟨p,⟨o,e⟩,st⟩:=x;exact ⟨st _ _ p λo q=>k _ _ (.inl rfl) q,⟨o,k _ _ (.inl rfl) e⟩,st⟩
theorem HOk.lt (x:HOk P w H h) (e:H a=some o):a<h.objs.size:=(x a o e).lt
theorem HOk.fresh (x:HOk P w H h) (e:h.objs.size<=a):H a=none:=by
 cases q:H a with
 |none=>rfl
 |some u=>exact absurd (zYC (x.lt q) e) (zYV _)
theorem HOk.kept (x:HOk P w H h) (k:∀ b u,h.get? b=some u->h'.get? b=some u):HOk P w H h':=λa o e=>
 (x a o e).stay (λb u _ q=>k b u q) (λ_ q=>q) λ_ _ q=>q
theorem HOk.laid (x:HOk P w H h) (k:∀ b u,h.get? b=some u->h'.get? b=some u) (hp:h.objs.size<=a) (new:zAU P w (upd H a o) h' a o):HOk P w (upd H a o) h':=λb u e=>by
 have hn:=x.fresh hp;by_cases hb:b=a
 .subst hb;rw[zAH]at e;cases e;exact new
 .rw[zZ hb]at e;exact (x b u e).stay (λc v _ q=>k c v q) (λc q=>by rw[zZ (zAL q hn)];exact q) λc xs q=>by rw[zZ (zAL q hn)];exact q
end
def Rd (H:Hp) (a:Yt) (u:HO):Prop:=H a=some u \/ ∃ o,H a=some (.frz o u)
theorem Rd.ok {P:Ym} {w:Yo} {H:Hp} {h:Heap} {a:Yt} {u:HO} (r:Rd H a u) (x:HOk P w H h):zAU P w H h a u:=by
 rcases r with r|⟨o,r⟩
 .exact x a u r
 .obtain ⟨_,q⟩:=x a _ r;exact q
def Mut:Option HO->Prop
 |some (.lst _)=>True
 |some (.dK _)=>True
 |some (.dT _)=>True
 |some (.set _ _)=>True
 |some (.ins _ _ _)=>True
 |some (.ext _)=>True
 |_=>False
section
variable {P:Ym} {w:Yo} {H:Hp} {h h':Heap} {x e:Yt} {o':HO}
theorem HOk.write (ok:HOk P w H h) (mu:Mut (H x)) (he:e=x\/H e=some (.own x)) (k:∀ b u,b≠e->h.get? b=some u->h'.get? b=some u) (heo:∃ u,h'.get? e=some u)
  (new:zAU P w (upd H x o') h' x o'):HOk P w (upd H x o') h':=λb u q=>by
 have nown:∀ c y,H c=some (.own y)->c≠x:=λc y r z=>by subst z;rw[r]at mu;exact mu
 have ntup:∀ c xs,H c=some (.tup xs)->c≠x:=λc xs r z=>by subst z;rw[r]at mu;exact mu
 by_cases hb:b=x
 .subst hb;rw[zAH]at q;cases q;exact new
 .rw[zZ hb]at q;by_cases hbe:b=e
  .have q':H b=some (.own x):=by
    rcases he with z|z
    .exact absurd (hbe.trans z) hb
    .rw[hbe];exact z
   rw[q]at q';cases q';obtain ⟨v,hv⟩:=heo;exact ⟨v,by rw[hbe];exact hv⟩
  .refine (ok b u q).stay (λc v hc r=>k c v ?_ r) (λc r=>by rw[zZ (nown c b r)];exact r) λc xs r=>by rw[zZ (ntup c xs r)];exact r
   rcases hc with rfl|hc
   .exact hbe
   .rintro rfl;rcases he with z|z
    .exact nown c b hc z
    .rw[hc]at z;cases z;exact hb rfl
end
structure Un (fs ex:Yg) (H H':Hp) (h h':Heap):Prop where
 keep:∀ b o,h.get? b=some o->H b=none->b∉fs->b∉ex->h'.get? b=some o
 slot:∀ b o,h.get? b=some o->H b=none->b∈fs->b∉ex -> ∃ sl,h'.get? b=some { o with slots:=sl }
 free:∀ b o,h.get? b=some o->H b=none->b∉ex->H' b=none
 there:∀ b o,h.get? b=some o->b∉ex -> ∃ o',h'.get? b=some o'
 tups:∀ b xs,H b=some (.tup xs)->H' b=some (.tup xs)
 frzs:∀ b o u,H b=some (.frz o u)->H' b=some (.frz o u)
 tbls:∀ b ps,H b=some (.tbl ps) -> ∃ more,H' b=some (.tbl (ps++more))
section
variable {fs fs' ex ex':Yg} {H H1 H2:Hp} {h h1 h2 h':Heap} {a x e:Yt} {o:HO}
theorem Un.any (u:Un fs ex H H1 h h1) {b:Yt} {ob:Obj} (q:h.get? b=some ob) (n:H b=none) (hx:b∉ex):∃ sl,h1.get? b=some { ob with slots:=sl }:=by
 by_cases hb:b∈fs
 .exact u.slot b ob q n hb hx
 .exact ⟨ob.slots,u.keep b ob q n hb hx⟩
theorem Un.kept (k:∀ b u,h.get? b=some u->h'.get? b=some u):Un fs ex H H h h' :=
 ⟨λb ob q _ _ _=>k b ob q,λb ob q _ _ _=>⟨ob.slots,k b ob q⟩,λ_ _ _ n _=>n,λb ob q _=>⟨ob,k b ob q⟩,λ_ _ q=>q,λ_ _ _ q=>q,λ_ ps q=>⟨#[],by rw[q];simp⟩⟩
theorem Un.refl:Un fs ex H H h h:=Un.kept λ_ _ q=>q
theorem Un.laid (k:∀ b u,h.get? b=some u->h'.get? b=some u) (hp:h.objs.size<=a) (hn:H a=none):Un fs ex H (upd H a o) h h' where
 keep:=λb u q _ _ _=>k b u q;slot:=λb u q _ _ _=>⟨u.slots,k b u q⟩;free:=λb u q n _=>by rw[zZ (zX8 (zYC (zXy q) hp))];exact n
 there:=λb u q _=>⟨u,k b u q⟩;tups:=λb xs q=>by rw[zZ (zAL q hn)];exact q
 frzs:=λb u xs q=>by rw[zZ (zAL q hn)];exact q
 tbls:=λb ps q=>⟨#[],by rw[zZ (zAL q hn),q];simp⟩
theorem Un.write (mu:Mut (H x)) (he:e=x\/H e=some (.own x)) (k:∀ b u,b≠e->h.get? b=some u->h'.get? b=some u) (heo:∃ u,h'.get? e=some u):Un fs ex H (upd H x o) h h':=by
 have hx:∀ b,H b=none->b≠x:=λb n z=>by subst z;rw[n]at mu;exact mu
 have hb:∀ b,H b=none->b≠e:=λb n z=>by
  subst z;rcases he with r|r
  .exact hx b n r
  .rw[n]at r;cases r
 have hm:∀ b u,H b=some u -> ¬ Mut (some u)->b≠x:=λb u q nm z=>by subst z;rw[q]at mu;exact nm mu
 refine ⟨λb u q n _ _=>k b u (hb b n) q,λb u q n _ _=>⟨u.slots,k b u (hb b n) q⟩,λb u q n _=>by rw[zZ (hx b n)];exact n,λb u q _=>?_,
  λb xs q=>by rw[zZ (hm b _ q λz=>z)];exact q,λb u xs q=>by rw[zZ (hm b _ q λz=>z)];exact q,λb ps q=>⟨#[],by rw[zZ (hm b _ q λz=>z),q];simp⟩⟩
 by_cases hbe:b=e
 .subst hbe;exact heo
 .exact ⟨u,k b u hbe q⟩
end
noncomputable def trk (h:Heap) (H:Hp):List Addr:=(List.range h.objs.size).filter λa=>(H a).isSome
noncomputable def zJz (h:Heap) (H:Hp):Heap:=PySem.W.hideAll h (trk h H)
theorem zOt (h:Heap) (H:Hp):(zJz h H).objs.size=h.objs.size:=PySem.W.hideAll_size _ _
theorem zQr {h:Heap} {H:Hp} {b:Yt} {o:Obj} (e:h.get? b=some o) (n:H b=none):(zJz h H).get? b=some o :=
 PySem.W.hideAll_get _ e λhm=>by
  have q:(H b).isSome=true:=(zYy.mp hm).2;rw[n]at q;simp at q
theorem zSQ {h:Heap} {H:Hp} {b:Yt} {o:Obj} (e:(zJz h H).get? b=some o):h.get? b=some o/\H b=none:=by
 have e':h.get? b=some o:=PySem.W.of_hideAll (trk h H) e;refine ⟨e',?_⟩;cases q:H b with
 |none=>rfl
 |some x=>
  have hm:b∈trk h H:=zYy.mpr ⟨zYR.mpr (zXy e'),by simp[q]⟩;have z:(zJz h H).get? b=none:=PySem.W.hideAll_none (trk h H) hm;rw[z]at e;cases e
structure Mod (K:Yb) (mg:Yh) (base:Heap):Prop where
 kin:K.In base
 glob:base.Ns mainGlobals mg
 blt:∃ mb,base.Ns builtinsNs mb /\ ∀ x:Str,x ≠ "__name__" -> mb x=bootBuiltins x
 nolimit:base.NoLimit
structure Cx where
 prog:Program
 w:World
 K:PySem.W.Frag
 mg:Str->Option Value
 base:Heap
 A:Around
 N:List Str
 s₀:Shared
 H₀:Hp
 env:Env
 outer:List Env
 stack:List Env
 ex:List Addr
 fn:Str->Bool
 calm:Bool
 pn:List (Addr × Obj)
 xe:Value->Shared->Prop
noncomputable def frs (l:List Env):List Addr:=l.filterMap (·.frame)
noncomputable abbrev Cx.fs (X:Cx):List Addr:=frs X.outer
def Vis (sc:Y0) (x:Str):Prop:=sc.names.lookup x=some .local\/sc.names.lookup x=some .cell\/sc.names.lookup x=some .free
def Loc (sc:Y0) (x:Str):Prop:=sc.names.lookup x=some .local\/sc.names.lookup x=some .cell
def zXV (env:Env) (h:Heap) (m:Yh) (x:Str) (u:Yu):Prop :=
 (env.kindOf x=some .local/\m x=some u)\/((env.kindOf x=some .cell\/env.kindOf x=some .free) /\ ∃ c,env.cells.lookup x=some c/\h.IsCell c (some u))
structure Cx.Ok (X:Cx):Prop where
 mod:Mod X.K X.mg X.base
 kind:X.env.scope.kind=.function
 glob:X.env.globals=mainGlobals
 blt:X.env.builtins=builtinsNs
 above:X.s₀.heap.objs.size<=X.env.locals
 inj:∀ x y c,X.env.cells.lookup x=some c->X.env.cells.lookup y=some c->x=y
 has:∀ x,(X.env.kindOf x=some .cell\/X.env.kindOf x=some .free) -> ∃ c,X.env.cells.lookup x=some c
 cab:∀ x c,X.fn x=true->X.env.cells.lookup x=some c->X.s₀.heap.objs.size<=c
 hd:X.calm=true->X.A.handled=none
 frames:X.A.frames=some X.stack
 stk:X.stack=X.outer\/(X.stack=X.env::X.outer/\X.env.frame=some X.env.locals)
 exf:∀ b∈X.ex,b≠X.env.locals /\ ∀ x c,X.env.cells.lookup x=some c->c≠b
 bs:∀ b o,X.base.get? b=some o->X.s₀.heap.get? b=some o/\X.H₀ b=none
 bsz:X.base.objs.size<=X.s₀.heap.objs.size
 noex:∀ b o,X.base.get? b=some o->b∉X.ex
 exfs:∀ b∈X.ex,b∉X.fs
 funs:X.s₀.heap.FunFrames X.base X.outer
 frf:∀ b∈X.fs,X.H₀ b=none
structure Inv (X:Cx) (zB:Yd) (σ:List (Option V)) (H:Hp) (s:Yl):Prop where
 ok:X.Ok
 os:s.os=X.s₀.os
 bare:AllBare s.gens
 base:Un X.fs X.ex X.H₀ H X.s₀.heap s.heap
 loc:∃ m,s.heap.Ns X.env.locals m /\ ∀ (i:Nat) (x:Str) (v:V),X.N[i]?=some x->σ[i]?=some (some v)->Vis X.env.scope x -> ∃ u,zp v u/\zXV X.env s.heap m x u
 cell:∀ x c,X.env.cells.lookup x=some c -> ∃ v,s.heap.IsCell c v
 free:H X.env.locals=none
 freeC:∀ x c,X.env.cells.lookup x=some c->H c=none
 pin:∀ p∈X.pn++zB,s.heap.get? p.1=some p.2/\H p.1=none/\p.1≠X.env.locals/\p.1∉X.fs /\ ∀ v,p.2.data≠.cell v
 hok:HOk X.prog X.w H s.heap
 len:σ.length=X.N.length
section
variable {X:Cx} {zB:Yd} {σ:List (Option V)} {H H':Hp} {s:Yl} {h':Heap}
theorem Cx.Ok.nofr (ok:X.Ok) {b:Yt} {o:Obj} (e:X.base.get? b=some o):b∉X.fs:=λhb=>by
 have:=(ok.funs.mem hb).1;rw[e]at this;cases this
theorem Inv.bs (I:Inv X zB σ H s):∀ b o,X.base.get? b=some o->s.heap.get? b=some o/\H b=none:=λb o e=>
 ⟨I.base.keep b o (I.ok.bs b o e).1 (I.ok.bs b o e).2 (I.ok.nofr e) (I.ok.noex b o e),I.base.free b o (I.ok.bs b o e).1 (I.ok.bs b o e).2 (I.ok.noex b o e)⟩
theorem Inv.bk (I:Inv X zB σ H s):∀ b o,X.base.get? b=some o->s.heap.get? b=some o:=λb o e=>(I.bs b o e).1
theorem Inv.mod (I:Inv X zB σ H s):Mod X.K X.mg X.base:=I.ok.mod
theorem Inv.kIn (I:Inv X zB σ H s):X.K.In s.heap:=I.ok.mod.kin.keeps I.bk
theorem Inv.lt (I:Inv X zB σ H s):X.env.locals<s.heap.objs.size:=let ⟨_,hn,_⟩:=I.loc;hn.lt
theorem Inv.sz (I:Inv X zB σ H s):X.s₀.heap.objs.size<=s.heap.objs.size:=zYE I.ok.above (Nat.le_of_lt I.lt)
theorem Inv.nofs (I:Inv X zB σ H s) {a:Yt} (h:s.heap.objs.size<=a):a∉X.fs:=λhb=>by
 obtain ⟨_,o,ho,_⟩:=I.ok.funs.mem hb;exact absurd (zYC (zXy ho) (zYE I.sz h)) (zYV _)
theorem Inv.cne (I:Inv X zB σ H s):∀ x c,X.env.cells.lookup x=some c->c≠X.env.locals:=λx c e z=>by
 obtain ⟨v,o,ho,hd⟩:=I.cell x c e;obtain ⟨m,⟨o',es,ep,ho',hd',_⟩,_⟩:=I.loc;rw[z,ho']at ho;cases ho;rw[hd']at hd;cases hd
theorem Inv.funs (I:Inv X zB σ H s):s.heap.FunFrames X.base X.outer:=by
 have all:∀ (l:List Env),(∀ b∈frs l,b∈X.fs)->X.s₀.heap.FunFrames X.base l->s.heap.FunFrames X.base l:=by
  intro l;induction l with
  |nil=>intro _ _;trivial
  |cons env r ih=>
   intro hs hl;obtain ⟨hk,⟨L,o,hf,hn,ho,hd⟩,hr⟩:=hl;have hL:L∈X.fs:=hs L (by unfold frs;rw[List.filterMap_cons,hf];exact zX1);obtain ⟨sl,e⟩:=I.base.slot L o ho (I.ok.frf L hL) hL λz=>I.ok.exfs L z hL;exact ⟨hk,⟨L,_,hf,hn,e,hd⟩,ih (λb hb=>hs b (by unfold frs;rw[List.filterMap_cons,hf];exact zX0 _ hb)) hr⟩
 exact all X.outer (λ_ hb=>hb) I.ok.funs
theorem Inv.stack (I:Inv X zB σ H s):s.heap.FunFrames X.base X.stack:=by
 rcases I.ok.stk with e|⟨e,hf⟩
 .rw[e];exact I.funs
 .rw[e];obtain ⟨m,hn,_⟩:=I.loc;refine .cons (by rw[I.ok.kind];decide) hf hn ?_ I.funs;exact Heap.get?_none_of_le (zYE I.ok.bsz I.ok.above)
theorem Inv.stkSub (I:Inv X zB σ H s):∀ b∈frs X.stack,b∈X.env.locals::X.fs:=λb hb=>by
 rcases I.ok.stk with e|⟨e,hf⟩
 .rw[e]at hb;exact zX0 _ hb
 .rw[e]at hb;unfold frs at hb;rw[List.filterMap_cons,hf]at hb;exact hb
theorem Inv.stkFree (I:Inv X zB σ H s):∀ b∈frs X.stack,H b=none:=λb hb=>by
 rcases zXz.mp (I.stkSub b hb)with e|hb
 .rw[e];exact I.free
 .obtain ⟨_,o,ho,_⟩:=I.ok.funs.mem hb;exact I.base.free b o ho (I.ok.frf b hb) λz=>I.ok.exfs b z hb
theorem Inv.step {g':Array GenState} {t':Nat} {d':Drawn} {ch:Yg} (I:Inv X zB σ H s)
  (hch:∀ b∈ch,(b∈X.ex\/X.s₀.heap.objs.size<=b)/\b≠X.env.locals/\(∀ x c,X.env.cells.lookup x=some c->c≠b) /\ ∀ p∈X.pn++zB,p.1≠b)
  (keep:∀ b o,b≠X.env.locals->b∉X.fs->b∉ch->s.heap.get? b=some o->H b=none->h'.get? b=some o)
  (slot:∀ b o,b≠X.env.locals->b∈X.fs->b∉ch->s.heap.get? b=some o->H b=none -> ∃ sl,h'.get? b=some { o with slots:=sl }) (free:∀ b o,b∉ch->s.heap.get? b=some o->H b=none->H' b=none)
  (there:∀ b o,b∉ch->s.heap.get? b=some o -> ∃ o',h'.get? b=some o')
  (tups:∀ b xs,H b=some (.tup xs)->H' b=some (.tup xs)) (frzs:∀ b o u,H b=some (.frz o u)->H' b=some (.frz o u)) (tbls:∀ b ps,H b=some (.tbl ps) -> ∃ more,H' b=some (.tbl (ps++more)))
  (ns:∀ m,s.heap.Ns X.env.locals m->h'.Ns X.env.locals m) (hok:HOk X.prog X.w H' h') (hg:AllBare g') :
  Inv X zB σ H' { s with heap:=h',gens:=g',drawn:=d',toks:=t' }:=by
 have neL:∀ b o,X.s₀.heap.get? b=some o->b≠X.env.locals:=λb o e=>zX8 (zYC (zXy e) I.ok.above);have neC:∀ b o,X.s₀.heap.get? b=some o->b∉X.ex->b∉ch:=λb o e hx hb=>by
  rcases (hch b hb).1 with z|z
  .exact hx z
  .exact absurd (zYC (zXy e) z) (zYV _)
 have cellK:∀ x c,X.env.cells.lookup x=some c -> ∀ v,s.heap.IsCell c v->h'.IsCell c v:=λx c e v ⟨o,ho,hd⟩=>by
  have nch:c∉ch:=λz=>(hch c z).2.2.1 x c e rfl;by_cases hc:c∈X.fs
  .obtain ⟨sl,q⟩:=slot c o (I.cne x c e) hc nch ho (I.freeC x c e);exact ⟨_,q,hd⟩
  .exact ⟨o,keep c o (I.cne x c e) hc nch ho (I.freeC x c e),hd⟩
 refine ⟨I.ok,I.os,hg,⟨λb o e n hb hx=>?_,λb o e n hb hx=>?_,λb o e n hx=>?_,λb o e hx=>?_,λb xs e=>tups b xs (I.base.tups b xs e),λb o xs e=>frzs b o xs (I.base.frzs b o xs e),λb ps e=>?_⟩,?_,λx c e=>?_,?_,λx c e=>?_,λp hp=>?_,hok,I.len⟩
 .exact keep b o (neL b o e) hb (neC b o e hx) (I.base.keep b o e n hb hx) (I.base.free b o e n hx)
 .obtain ⟨sl,e1⟩:=I.base.slot b o e n hb hx;obtain ⟨sl',e2⟩:=slot b _ (neL b o e) hb (neC b o e hx) e1 (I.base.free b o e n hx);exact ⟨sl',e2⟩
 .obtain ⟨o',e1⟩:=I.base.there b o e hx;exact free b o' (neC b o e hx) e1 (I.base.free b o e n hx)
 .obtain ⟨o',e1⟩:=I.base.there b o e hx;exact there b o' (neC b o e hx) e1
 .obtain ⟨m1,e1⟩:=I.base.tbls b ps e;obtain ⟨m2,e2⟩:=tbls b _ e1;exact ⟨m1++m2,by rw[e2,Array.append_assoc]⟩
 .obtain ⟨m,hn,hl⟩:=I.loc;refine ⟨m,ns m hn,λi x v e1 e2 e3=>?_⟩;obtain ⟨u,r,l⟩:=hl i x v e1 e2 e3;refine ⟨u,r,?_⟩;rcases l with l|⟨k,c,e,z⟩
  .exact .inl l
  .exact .inr ⟨k,c,e,cellK x c e _ z⟩
 .obtain ⟨v,z⟩:=I.cell x c e;exact ⟨v,cellK x c e v z⟩
 .obtain ⟨m,⟨o,_,_,ho,_⟩,_⟩:=I.loc;exact free _ o (λz=>(hch _ z).2.1 rfl) ho I.free
 .obtain ⟨v,o,ho,hd⟩:=I.cell x c e;exact free c o (λz=>(hch c z).2.2.1 x c e rfl) ho (I.freeC x c e)
 .obtain ⟨e,n,ne,nf,d⟩:=I.pin p hp;have nch:p.1∉ch:=λz=>(hch p.1 z).2.2.2 p hp rfl;exact ⟨keep p.1 p.2 ne nf nch e n,free p.1 p.2 nch e n,ne,nf,d⟩
theorem Inv.un {t':Nat} (I:Inv X zB σ H s) (u:Un X.fs [] H H' s.heap h') (hok:HOk X.prog X.w H' h'):Inv X zB σ H' { s with heap:=h',toks:=t' }:=by
 obtain ⟨m,⟨o,es,ep,ho,r⟩,_⟩:=id I.loc;obtain ⟨sl,hL⟩:=u.any ho I.free (by simp);exact I.step (g':=s.gens) (d':=s.drawn) (ch:=[]) (λ_ z=>nomatch z) (λb o _ hb _ e n=>u.keep b o e n hb (by simp)) (λb o _ hb _ e n=>u.slot b o e n hb (by simp)) (λb o _ e n=>u.free b o e n (by simp)) (λb o _ e=>u.there b o e (by simp)) u.tups u.frzs u.tbls (λm' hm=>by
  obtain ⟨o',es',ep',ho',r'⟩:=hm;rw[ho]at ho';cases ho';exact ⟨_,es',ep',hL,r'⟩) hok I.bare
theorem Inv.call {g':Array GenState} {t':Nat} {d':Drawn} {ch:Yg} (I:Inv X zB σ H s) (u:Un (frs X.stack) ch H H' s.heap h') (hok:HOk X.prog X.w H' h') (hg:AllBare g')
  (hch:∀ b∈ch,(b∈X.ex\/X.s₀.heap.objs.size<=b)/\b≠X.env.locals/\(∀ x c,X.env.cells.lookup x=some c->c≠b) /\ ∀ p∈X.pn++zB,p.1≠b) :
  Inv X zB σ H' { s with heap:=h',gens:=g',drawn:=d',toks:=t' }:=by
 obtain ⟨m,⟨o,es,ep,ho,r⟩,_⟩:=id I.loc;obtain ⟨sl,hL⟩:=u.any ho I.free λz=>(hch _ z).2.1 rfl;exact I.step (ch:=ch) hch (λb o hL hb hc e n=>u.keep b o e n (λz=>(zXz.mp (I.stkSub b z)).elim hL hb) hc) (λb o _ _ hc e n=>u.any e n hc) (λb o hc e n=>u.free b o e n hc) (λb o hc e=>u.there b o e hc) u.tups u.frzs u.tbls (λm' hm=>by
  obtain ⟨o',es',ep',ho',r'⟩:=hm;rw[ho]at ho';cases ho';exact ⟨_,es',ep',hL,r'⟩) hok hg
theorem Inv.turned {t':Nat} {it:Yt} (I:Inv X zB σ H s) (k:∀ b o,b≠it->s.heap.get? b=some o->h'.get? b=some o) (hn:H it=none) (hL:it≠X.env.locals)
  (h1:it∈X.ex\/X.s₀.heap.objs.size<=it) (h2:∀ x c,X.env.cells.lookup x=some c->c≠it) (h3:∀ p∈X.pn++zB,p.1≠it):Inv X zB σ H { s with heap:=h',toks:=t' }:=by
 have nit:∀ b u,H b=some u->b≠it:=λb u e z=>by rw[z,hn]at e;cases e
 refine I.step (g':=s.gens) (d':=s.drawn) (ch:=[it]) (λb hb=>?_) (λb o _ _ hc e _=>k b o (λz=>hc (by simp[z])) e) (λb o _ _ hc e _=>⟨o.slots,k b o (λz=>hc (by simp[z])) e⟩) (λ_ _ _ _ n=>n)
  (λb o hc e=>⟨o,k b o (λz=>hc (by simp[z])) e⟩) (λ_ _ e=>e) (λ_ _ _ e=>e) (λb ps e=>⟨#[],by rw[e];simp⟩) (λm hm=>?_) (λb u e=>?_) I.bare
 .have e:b=it:=by simpa using hb
  subst e;exact ⟨h1,hL,h2,h3⟩
 .obtain ⟨o,es,ep,ho,r⟩:=hm;exact ⟨o,es,ep,k _ o (Ne.symm hL) ho,r⟩
 .refine (I.hok b u e).stay (λc v hc q=>k c v ?_ q) (λ_ q=>q) λ_ _ q=>q;rcases hc with z|z
  .rw[z];exact nit b u e
  .exact nit c _ z
theorem Inv.tok (I:Inv X zB σ H s) (t:Nat):Inv X zB σ H { s with toks:=t }:=I.un (h':=s.heap) (t':=t) Un.refl I.hok
theorem Inv.kept {t':Nat} (I:Inv X zB σ H s) (k:∀ b u,s.heap.get? b=some u->h'.get? b=some u):Inv X zB σ H { s with heap:=h',toks:=t' }:=I.un (Un.kept k) (I.hok.kept k)
theorem Inv.laid {a:Yt} {o:HO} {t':Nat} (I:Inv X zB σ H s) (k:∀ b u,s.heap.get? b=some u->h'.get? b=some u) (hp:s.heap.objs.size<=a) (new:zAU X.prog X.w (upd H a o) h' a o) :
  Inv X zB σ (upd H a o) { s with heap:=h',toks:=t' }:=I.un (Un.laid k hp (I.hok.fresh hp)) (I.hok.laid k hp new)
theorem Inv.write {x e:Yt} {o:HO} {t':Nat} (I:Inv X zB σ H s) (mu:Mut (H x)) (he:e=x\/H e=some (.own x)) (k:∀ b u,b≠e->s.heap.get? b=some u->h'.get? b=some u) (heo:∃ u,h'.get? e=some u)
  (new:zAU X.prog X.w (upd H x o) h' x o):Inv X zB σ (upd H x o) { s with heap:=h',toks:=t' }:=I.un (Un.write mu he k heo) (I.hok.write mu he k heo new)
theorem Inv.weak {σ':List (Option V)} (I:Inv X zB σ H s) (hl:σ'.length=σ.length) (w:∀ (i:Nat) v,σ'[i]?=some (some v)->σ[i]?=some (some v)):Inv X zB σ' H s :=
 ⟨I.ok,I.os,I.bare,I.base,let ⟨m,hn,hl'⟩:=I.loc;⟨m,hn,λi x v e1 e2 e3=>hl' i x v e1 (w i v e2) e3⟩,I.cell,I.free,I.freeC,I.pin,I.hok,hl.trans I.len⟩
theorem Inv.pins_of {pins':Yd} (I:Inv X zB σ H s) (h:∀ p∈pins',s.heap.get? p.1=some p.2/\H p.1=none/\p.1≠X.env.locals/\p.1∉X.fs /\ ∀ v,p.2.data≠.cell v):Inv X pins' σ H s :=
 ⟨I.ok,I.os,I.bare,I.base,I.loc,I.cell,I.free,I.freeC,λp hp=>(zYD.mp hp).elim (λz=>I.pin p (zY2 _ z)) (h p),I.hok,I.len⟩
theorem zKs {N:Yk} (hN:N.Nodup) {i j:Nat} {x:Str} (a:N[i]?=some x) (b:N[j]?=some x):i=j:=by
 obtain ⟨h1,e1⟩:=zXq.mp a;obtain ⟨h2,e2⟩:=zXq.mp b;exact (List.getElem_inj hN).mp (e1.trans e2.symm)
theorem zOq {M:Model} {A:Yn} {E:Yc} {i:Nat} {x:Str} {v:V} {u:Yu} {Q:Unit->Shared->Prop} (I:Inv X zB σ H s) (hN:X.N.Nodup) (hi:X.N[i]?=some x) (hx:Loc X.env.scope x) (r:zp v u)
  (h:∀ s',Inv X zB (σ.set i (some v)) H s'->(∃ a,Heap.SameBut a s.heap s'.heap/\(a=X.env.locals\/X.env.cells.lookup x=some a))->Q () s') (hf:X.fn x=true\/X.env.scope.names.lookup x=some .local:=by first|exact .inl rfl|exact .inr rfl|assumption):wpAny M A (storeName X.env x u) Q E s:=by
 obtain ⟨m,hn,hl⟩:=id I.loc;have hcls:(X.env.scope.kind == .class||(X.env.scope.kind == .module&&X.env.locals != X.env.globals))=false:=by rw[I.ok.kind];rfl
 have hiσ:i<σ.length:=by rw[I.len];exact (zXq.mp hi).1
 have cne:=I.cne;have tracked:∀ {a:Yt} {h':Heap},(∃ o,s.heap.get? a=some o/\H a=none)->Heap.SameBut a s.heap h'->HOk X.prog X.w H h':=λ{a h'} ha hs b ob e=>by
  obtain ⟨_,_,hfree⟩:=ha;refine (I.hok b ob e).stay (λc w' hc q=>(hs.2 c ?_).trans q) (λ_ q=>q) λ_ _ q=>q;rintro rfl;rcases hc with rfl|hc
  .rw[hfree]at e;cases e
  .rw[hfree]at hc;cases hc
 rcases hx with hk|hk
 .refine wpAny_storeName_local hk hn (λh' hn' hs=>?_) hcls;obtain ⟨oL,_,_,hoL,_⟩:=id hn;refine h _ ⟨I.ok,I.os,I.bare,⟨λb o e n hb hx=>?_,λb o e n hb hx=>?_,I.base.free,λb o e hx=>?_,I.base.tups,I.base.frzs,I.base.tbls⟩,⟨_,hn',λj y v' e1 e2 e3=>?_⟩,λy c e=>?_,I.free,I.freeC,λp hp=>?_,tracked ⟨oL,hoL,I.free⟩ hs,by simpa using I.len⟩ ⟨_,hs,.inl rfl⟩
  .exact (hs.2 b (zX8 (zYC (zXy e) I.ok.above))).trans (I.base.keep b o e n hb hx)
  .obtain ⟨sl,e1⟩:=I.base.slot b o e n hb hx;exact ⟨sl,(hs.2 b (zX8 (zYC (zXy e) I.ok.above))).trans e1⟩
  .obtain ⟨o',e1⟩:=I.base.there b o e hx;exact ⟨o',(hs.2 b (zX8 (zYC (zXy e) I.ok.above))).trans e1⟩
  .by_cases hj:j=i
   .subst hj;rw[hi]at e1;cases e1;rw[zYh hiσ]at e2;cases e2;exact ⟨u,r,.inl ⟨hk,by simp⟩⟩
   .rw[zYH (Ne.symm hj)]at e2;obtain ⟨u',r',q⟩:=hl j y v' e1 e2 e3;refine ⟨u',r',?_⟩;rcases q with ⟨k,e⟩|⟨k,c,e,z⟩
    .refine .inl ⟨k,?_⟩;have:y≠x:=λe=>hj (zKs hN e1 (e▸hi));simp[this,e]
    .exact .inr ⟨k,c,e,z.sameBut hs (cne y c e)⟩
  .obtain ⟨w',z⟩:=I.cell y c e;exact ⟨w',z.sameBut hs (cne y c e)⟩
  .obtain ⟨e,n,ne,nf,d⟩:=I.pin p hp;exact ⟨(hs.2 p.1 ne).trans e,n,ne,nf,d⟩
 .have hfn:X.fn x=true:=by
   rcases hf with z|z
   .exact z
   .rw[z]at hk;cases hk
  obtain ⟨c,hc⟩:=I.ok.has x (.inl hk);obtain ⟨w',z⟩:=I.cell x c hc;refine wpAny_storeName_cell I.ok.kind hk hc z (λh' hc' hs=>?_);obtain ⟨oc,hoc,hocd⟩:=id z;refine h { s with heap:=h' } ⟨I.ok,I.os,I.bare,⟨λb o e n hb hx=>?_,λb o e n hb hx=>?_,I.base.free,λb o e hx=>?_,I.base.tups,I.base.frzs,I.base.tbls⟩,⟨m,hn.sameBut hs (Ne.symm (cne x c hc)),λj y v' e1 e2 e3=>?_⟩,λy c' e=>?_,I.free,I.freeC,λp hp=>?_,tracked ⟨oc,hoc,I.freeC x c hc⟩ hs,by simpa using I.len⟩ ⟨c,hs,.inr hc⟩
  .exact (hs.2 b (zX8 (zYC (zXy e) (I.ok.cab x c hfn hc)))).trans (I.base.keep b o e n hb hx)
  .obtain ⟨sl,e1⟩:=I.base.slot b o e n hb hx;exact ⟨sl,(hs.2 b (zX8 (zYC (zXy e) (I.ok.cab x c hfn hc)))).trans e1⟩
  .obtain ⟨o',e1⟩:=I.base.there b o e hx;exact ⟨o',(hs.2 b (zX8 (zYC (zXy e) (I.ok.cab x c hfn hc)))).trans e1⟩
  .by_cases hj:j=i
   .subst hj;rw[hi]at e1;cases e1;rw[zYh hiσ]at e2;cases e2;exact ⟨u,r,.inr ⟨.inl hk,c,hc,hc'⟩⟩
   .rw[zYH (Ne.symm hj)]at e2;obtain ⟨u',r',q⟩:=hl j y v' e1 e2 e3;refine ⟨u',r',?_⟩;rcases q with q|⟨k,c',e,z'⟩
    .exact .inl q
    .refine .inr ⟨k,c',e,z'.sameBut hs ?_⟩;rintro rfl;exact hj (zKs hN e1 (I.ok.inj _ _ _ e hc▸hi))
  .by_cases hcc:c'=c
   .subst hcc;exact ⟨_,hc'⟩
   .obtain ⟨w2,z2⟩:=I.cell y c' e;exact ⟨w2,z2.sameBut hs hcc⟩
  .obtain ⟨e,n,ne,nf,d⟩:=I.pin p hp;refine ⟨(hs.2 p.1 ?_).trans e,n,ne,nf,d⟩;intro q;rw[q,hoc]at e;have q':oc=p.2:=zYn e;exact d w' (by rw[<-q'];exact hocd)
theorem zLD {M:Model} {A:Yn} {E:Yc} {i:Nat} {x:Str} {v:V} {u:Yu} {Q:Unit->Shared->Prop} (I:Inv X zB σ H s) (hN:X.N.Nodup) (hi:X.N[i]?=some x) (hx:Loc X.env.scope x) (r:zp v u)
  (h:∀ s',Inv X zB (σ.set i (some v)) H s'->Q () s') (hf:X.fn x=true\/X.env.scope.names.lookup x=some .local:=by first|exact .inl rfl|exact .inr rfl|assumption):wpAny M A (storeName X.env x u) Q E s :=
 zOq I hN hi hx r (λs' I' _=>h s' I') hf
theorem Inv.call' {s':Yl} {ch:Yg} (I:Inv X zB σ H s) (ho:s'.os=s.os) (u:Un (frs X.stack) ch H H' s.heap s'.heap) (hok:HOk X.prog X.w H' s'.heap) (hg:AllBare s'.gens)
  (hch:∀ b∈ch,(b∈X.ex\/X.s₀.heap.objs.size<=b)/\b≠X.env.locals/\(∀ x c,X.env.cells.lookup x=some c->c≠b) /\ ∀ p∈X.pn++zB,p.1≠b):Inv X zB σ H' s':=by
 obtain ⟨h',g',d',t',o'⟩:=s';have e:o'=s.os:=ho;subst e;exact I.call (g':=g') (t':=t') (d':=d') u hok hg hch
end
noncomputable abbrev XK:=Value->Option Addr->Hp->Prop
noncomputable abbrev St:=List (Option V)
noncomputable abbrev VK:=V->Hp->Prop
noncomputable abbrev TE:=St->Hp->VK->Prop
noncomputable abbrev TT:=St->Hp->(Bool->Hp->Prop)->Prop
noncomputable abbrev TA:=St->Hp->(List V->Hp->Prop)->Prop
structure Ends where
 nx:St->Hp->Prop
 rt:VK
 bk:St->Hp->Prop:=λ_ _=>False
 ct:St->Hp->Prop:=λ_ _=>False
noncomputable abbrev TS:=Ends->St->Hp->Prop
def EP (X:Cx) (zB:Yd) (σ:St) (Q:VK) (u:Yu) (s':Yl):Prop:=∃ v H',Inv X zB σ H' s'/\zp v u/\Q v H'
def TP (X:Cx) (zB:Yd) (σ:St) (Q:Bool->Hp->Prop) (b:Bool) (s':Yl):Prop:=∃ H',Inv X zB σ H' s'/\Q b H'
def AP (X:Cx) (zB:Yd) (σ:St) (Q:List V->Hp->Prop) (us:Yf) (s':Yl):Prop:=∃ vs H',Inv X zB σ H' s'/\zb vs us/\Q vs H'
def SP (X:Cx) (zB:Yd) (D:Ends) (f:Flow) (s':Yl):Prop :=
 match f with
 |.next=>∃ σ' H',Inv X zB σ' H' s'/\D.nx σ' H'
 |.brk=>∃ σ' H',Inv X zB σ' H' s'/\D.bk σ' H'
 |.cont=>∃ σ' H',Inv X zB σ' H' s'/\D.ct σ' H'
 |.ret u=>∃ v σ' H',Inv X zB σ' H' s'/\zp v u/\D.rt v H'
def PE (X:Cx) (e:Expr) (t:TE):Prop :=
 ∀ (zB:Yd) (s:Yl) (σ:St) (H:Hp) (Q:VK),Inv X zB σ H s->t σ H Q->wpAny (model X.prog X.w) X.A (eval e X.env) (EP X zB σ Q) X.xe s
def PT (X:Cx) (e:Expr) (t:TT):Prop :=
 ∀ (zB:Yd) (s:Yl) (σ:St) (H:Hp) (Q:Bool->Hp->Prop),Inv X zB σ H s->t σ H Q->wpAny (model X.prog X.w) X.A (isTrue e X.env (eval e X.env)) (TP X zB σ Q) X.xe s
def PW (X:Cx) (e:Expr) (t:TT):Prop :=
 ∀ (whole:Sem Value) (zB:Yd) (s:Yl) (σ:St) (H:Hp) (Q:Bool->Hp->Prop),Inv X zB σ H s->t σ H Q->wpAny (model X.prog X.w) X.A (isTrue e X.env whole) (TP X zB σ Q) X.xe s
theorem PW.pt {X:Cx} {e:Expr} {t:TT} (h:PW X e t):PT X e t:=h _
def PA (X:Cx) (es:Yi) (t:TA):Prop :=
 ∀ (pos:Pos) (zB:Yd) (s:Yl) (σ:St) (H:Hp) (Q:List V->Hp->Prop),Inv X zB σ H s->t σ H Q->wpAny (model X.prog X.w) X.A (spliced (backTo pos (starEach es X.env))) (AP X zB σ Q) X.xe s
def PS (X:Cx) (st:Stmt) (t:TS):Prop :=
 ∀ (zB:Yd) (s:Yl) (σ:St) (H:Hp) (D:Ends),Inv X zB σ H s->t D σ H->wpAny (model X.prog X.w) X.A (exec st X.env) (SP X zB D) X.xe s
def PSs (X:Cx) (st:Yy) (t:TS):Prop :=
 ∀ (zB:Yd) (s:Yl) (σ:St) (H:Hp) (D:Ends),Inv X zB σ H s->t D σ H->wpAny (model X.prog X.w) X.A (execs st X.env) (SP X zB D) X.xe s
theorem thn {α:Type} {t:Sem α} {Q Q':α->Shared->Prop} {M:Model} {A:Yn} {E:Yc} {s:Yl} (h:wpAny M A t Q E s) (hQ:∀ a s,Q a s->Q' a s):wpAny M A t Q' E s:=zYJ h hQ λ_ _ x=>x
section
variable {X:Cx}
noncomputable def zVF (i:Nat):TE:=λσ H Q=>∃ v,σ[i]?=some (some v)/\Q v H
noncomputable def tC (v:V):TE:=λ_ H Q=>Q v H
theorem zUE {i:Nat} {x:Str} {pos:Pos} (hN:X.N[i]?=some x) (hv:Vis X.env.scope x) (hd:(x==("__debug__" : Str))=false:=by decide) (hcd:(x==("__classdict__" : Str))=false:=by decide):PE X (.Name x pos) (zVF i):=by
 intro zB s σ H Q I h;obtain ⟨v,e,h⟩:=h;obtain ⟨m,hn,hl⟩:=I.loc;obtain ⟨u,r,l⟩:=hl i x v hN e hv;have fin:EP X zB σ Q u s:=⟨v,H,I,r,h⟩;rcases l with ⟨hk,hm⟩|⟨hk,c,hc,hcell⟩
 .exact wpAny_Name (wpAny_loadName_local I.ok.kind hk hn hm fin) hd
 .rcases hk with hk|hk
  .exact wpAny_Name (wpAny_loadName_cell I.ok.kind hk hc hcell fin) hd
  .exact wpAny_Name (wpAny_loadName_free I.ok.kind hk hc hcell fin hcd) hd
theorem zUp {i j pos}:PE X (.Constant (.int i) j pos) (tC (.int i)):=λ_ _ _ H _ I h=>wpAny_Constant_int ⟨.int i,H,I.tok _,⟨_,rfl⟩,h⟩
theorem zWe {b j pos}:PE X (.Constant (.bool b) j pos) (tC (.bl b)):=λ_ _ _ H _ I h=>Constant_bool ⟨.bl b,H,I,rfl,h⟩
theorem zVd {j pos}:PE X (.Constant .none j pos) (tC .non):=λ_ _ _ H _ I h=>Constant_none ⟨.non,H,I,rfl,h⟩
theorem zU5 {x j pos}:PE X (.Constant (.str x) j pos) (tC (.str x)):=λ_ _ _ H _ I h=>Calls.Constant_str ⟨.str x,H,I.tok _,⟨_,rfl⟩,h⟩
def Gl (X:Cx) (x:Str):Prop:=X.env.kindOf x=some .globalImplicit
theorem zSM {E:Yc} {zB:Yd} {s:Yl} {σ:St} {H:Hp} {x:Str} {u:Yu} {pos:Pos} {Q:Yc} (I:Inv X zB σ H s) (hg:Gl X x) (hm:X.mg x=some u) (h:Q u s)
  (hd:(x==("__debug__" : Str))=false:=by decide):wpAny (model X.prog X.w) X.A (eval (.Name x pos) X.env) Q E s :=
 Calls.Name_function_global I.ok.kind hg (Calls.loadGlobal_global (by rw[I.ok.glob];exact I.mod.glob.keeps I.bk) hm h) hd
theorem zDV {E:Yc} {zB:Yd} {s:Yl} {σ:St} {H:Hp} {x:Str} {u:Yu} {pos:Pos} {Q:Yc} (I:Inv X zB σ H s) (hg:Gl X x) (hm:X.mg x=none) (hv:bootBuiltins x=some u) (h:Q u s)
  (hn:x ≠ "__name__" := by decide) (hd:(x==("__debug__" : Str))=false:=by decide):wpAny (model X.prog X.w) X.A (eval (.Name x pos) X.env) Q E s:=by
 obtain ⟨mb,h1,h2⟩:=I.mod.blt;exact Calls.Name_function_global I.ok.kind hg (Calls.loadGlobal_builtin (by rw[I.ok.glob];exact I.mod.glob.keeps I.bk) hm (by rw[I.ok.blt];exact h1.keeps I.bk) ((h2 x hn).trans hv) h) hd
theorem zST {x:Str} {v:V} {u:Value} {pos:Pos} (hg:Gl X x) (hm:X.mg x=none) (hv:bootBuiltins x=some u) (r:zp v u) (hn:x ≠ "__name__" := by decide) (hd:(x==("__debug__" : Str))=false:=by decide):PE X (.Name x pos) (tC v) :=
 λ_ _ _ H _ I h=>zDV I hg hm hv ⟨v,H,I,r,h⟩ hn hd
variable {a b:Expr} {ta tb:TE} {pos:Pos}
def PC (X:Cx) (op:CmpOp) (a b:Expr) (t:TE):Prop :=
 ∀ (zB:Yd) (s:Yl) (σ:St) (H:Hp) (Q:VK),Inv X zB σ H s->t σ H Q ->
  wpAny (model X.prog X.w) X.A (eval a X.env) (λv s₁=>wpAny (model X.prog X.w) X.A (eval b X.env) (λu s₂=>wpAny (model X.prog X.w) X.A (compareOp op v u) (EP X zB σ Q) X.xe s₂) X.xe s₁) X.xe s
noncomputable def tB (t:TE):TT:=λσ H Q=>t σ H λx H1=>∃ c,x=.bl c/\Q c H1
theorem zRA {op:CmpOp} {t:TE} (h:PC X op a b t) (h1:behindInMarks op b=false:=by first|exact nobehind _ (by decide) (by decide)|rfl):PT X (.Compare a [op] [b] pos) (tB t):=by
 intro zB s σ H Q I hw;refine wpAny_isTrue_Compare1 (thn (h zB s σ H _ I hw) λv s1 h1=>thn h1 λu s2 h2=>thn h2 λc s3 ⟨x,H1,I1,r1,q1⟩=>?_) h1;obtain ⟨d,rfl,q⟩:=q1;cases r1;exact zYz ⟨H1,I1,q⟩
theorem zUN {e:Expr} {t:TE} (h:PE X e t) (he:∀ whole,isTrue e X.env whole=(do let v <- whole;standAt e.pos;holding [v] (truthy v)):=by intro _;rfl):PT X e (tB t):=by
 intro zB s σ H Q I hw;refine isTrue_plain (thn (h zB s σ H _ I hw) λv s1 ⟨x,H1,I1,r1,q1⟩=>?_) (he _);obtain ⟨d,rfl,q⟩:=q1;cases r1;exact zYz ⟨H1,I1,q⟩
variable {tA tB':TT} {rest:Yi}
noncomputable def zXg (t u:TT):TT:=λσ H Q=>t σ H λc H1=>if c=true then u σ H1 Q else Q false H1
noncomputable def tOr (t u:TT):TT:=λσ H Q=>t σ H λc H1=>if c=true then Q true H1 else u σ H1 Q
noncomputable def zXm (t:TT):TT:=λσ H Q=>t σ H λc H1=>Q (!c) H1
theorem zTM (ha:PT X a tA):PW X (.BoolOp .And [a] pos) tA:=by
 intro wh zB s σ H Q I h;refine isTrue_and (thn (ha zB s σ H Q I h) λc s1 e=>?_);cases c with
 |true=>exact isTrue_and_nil e
 |false=>exact e
theorem zVs (ha:PT X a tA):PW X (.BoolOp .Or [a] pos) tA:=by
 intro wh zB s σ H Q I h;refine isTrue_or (thn (ha zB s σ H Q I h) λc s1 e=>?_);cases c with
 |false=>exact isTrue_or_nil e
 |true=>exact e
theorem zUo (ha:PT X a tA) (hb:PW X (.BoolOp .And (b::rest) pos) tB'):PW X (.BoolOp .And (a::b::rest) pos) (zXg tA tB'):=by
 intro wh zB s σ H Q I h;refine isTrue_and (thn (ha zB s σ H _ I h) λc s1 ⟨H1,I1,q1⟩=>?_);cases c with
 |true=>exact hb wh zB s1 σ H1 Q I1 q1
 |false=>exact ⟨H1,I1,q1⟩
theorem zV0 (ha:PT X a tA) (hb:PW X (.BoolOp .Or (b::rest) pos) tB'):PW X (.BoolOp .Or (a::b::rest) pos) (tOr tA tB'):=by
 intro wh zB s σ H Q I h;refine isTrue_or (thn (ha zB s σ H _ I h) λc s1 ⟨H1,I1,q1⟩=>?_);cases c with
 |true=>exact ⟨H1,I1,q1⟩
 |false=>exact hb wh zB s1 σ H1 Q I1 q1
theorem zUz (ha:PT X a tA):PT X (.UnaryOp .Not a pos) (zXm tA):=by
 intro zB s σ H Q I h;exact isTrue_not (ha zB s σ H (λc H1=>Q (!c) H1) I h)
noncomputable def zWw (ta tb:TE):TE:=λσ H Q=>ta σ H λx H1=>∃ c,x=.bl c/\if c=true then tb σ H1 Q else Q (.bl false) H1
noncomputable def zWZ (ta:TE):TE:=λσ H Q=>ta σ H λx H1=>∃ c,x=.bl c/\Q (.bl (!c)) H1
theorem zUc {op} {t:TE} (h:PE X a t):PE X (.BoolOp op [a] pos) t:=λzB s σ H Q I hw=>BoolOp_one (h zB s σ H Q I hw)
theorem zUR (ha:PE X a ta) (hb:PE X (.BoolOp .And (b::rest) pos) tb):PE X (.BoolOp .And (a::b::rest) pos) (zWw ta tb):=by
 intro zB s σ H Q I h;refine BoolOp_and (thn (ha zB s σ H _ I h) λv s1 ⟨x,H1,I1,r1,q1⟩=>?_);obtain ⟨c,rfl,q1⟩:=q1;cases r1;refine zYz ?_;cases c with
 |true=>exact hb zB s1 σ H1 Q I1 q1
 |false=>exact ⟨.bl false,H1,I1,rfl,q1⟩
theorem zUX (ha:PE X a ta):PE X (.UnaryOp .Not a pos) (zWZ ta):=by
 intro zB s σ H Q I h;refine UnaryOp_ (thn (ha zB s σ H _ I h) λv s1 ⟨x,H1,I1,r1,q1⟩=>?_);obtain ⟨c,rfl,q1⟩:=q1;cases r1;exact not_of (zYz ⟨.bl (!c),H1,I1,rfl,q1⟩)
noncomputable def tIf (t:TT) (ta tb:TE):TE:=λσ H Q=>t σ H λc H1=>if c=true then ta σ H1 Q else tb σ H1 Q
theorem zQ6 {c:Expr} (hc:PT X c tA) (ha:PE X a ta) (hb:PE X b tb):PE X (.IfExp c a b pos) (tIf tA ta tb):=by
 intro zB s σ H Q I h;refine wpAny_IfExp (thn (hc zB s σ H _ I h) λd s1 ⟨H1,I1,q1⟩=>?_);cases d with
 |true=>exact ha zB s1 σ H1 Q I1 q1
 |false=>exact hb zB s1 σ H1 Q I1 q1
end
def SqL (K:Yb) (H:Hp) (a:Yt) (xs:List V):Prop :=
 Rd H a (.lst xs) \/
  ∃ (o:Obj) (its:Array Value) (n:Nat),K.lookup a=some o/\o.cls=.type "list" /\ o.dict=none/\o.data=.seq its n/\its.size<=sizeLine/\zb xs its.toList
def SqT (K:Yb) (H:Hp) (a:Yt) (xs:List V):Prop :=
 Rd H a (.tup xs) \/
  ∃ (o:Obj) (its:Array Value) (n:Nat),K.lookup a=some o/\o.cls=.type "tuple" /\ o.data=.seq its n/\its.size<=sizeLine/\zb xs its.toList
noncomputable def zXP:Value->Option V
 |.none=>some .non
 |.bool b=>some (.bl b)
 |.int i _=>some (.int i)
 |.str x _=>some (.str x)
 |.bytes b _=>some (.byt b)
 |.float b _=>some (.flt b)
 |.ref a=>some (.ref a)
 |.type n=>some (.ty n)
 |_=>none
theorem zp.abs {x:V} {u:Yu} (r:zp x u):zXP u=some x:=by
 cases x with
 |non=>cases r;rfl
 |bl _=>cases r;rfl
 |int _=>obtain ⟨t,rfl⟩:=r;rfl
 |str _=>obtain ⟨t,rfl⟩:=r;rfl
 |byt _=>obtain ⟨t,rfl⟩:=r;rfl
 |flt _=>obtain ⟨t,rfl⟩:=r;rfl
 |ref _=>cases r;rfl
 |ty _=>cases r;rfl
theorem zp.inj {x y:V} {u:Yu} (r:zp x u) (q:zp y u):x=y:=zYn (r.abs.symm.trans q.abs)
theorem zb.inj:∀ {xs ys:List V} {us:Yf},zb xs us->zb ys us->xs=ys
 |_,_,_,.nil,.nil=>rfl
 |_,_,_,.cons r t,.cons r' t'=>by rw[r.inj r',zb.inj t t']
section
variable {X:Cx} {zB:Yd} {σ:St} {H:Hp} {s:Yl} {a:Yt} {xs ys:List V}
theorem SqL.of {K:Yb} (h:H a=some (.lst xs)):SqL K H a xs:=.inl (.inl h)
theorem SqT.of {K:Yb} (h:H a=some (.tup xs)):SqT K H a xs:=.inl (.inl h)
theorem Inv.list (I:Inv X zB σ H s) (h:SqL X.K H a xs):∃ its:List Value,zb xs its/\PlainL s.heap a its.toArray/\xs.length<=sizeLine:=by
 rcases h with h|⟨o,its,n,hk,hc,hd,hs,hz,r⟩
 .obtain ⟨z,its,n,r,e⟩:=h.ok I.hok;exact ⟨its,r,⟨_,n,e,rfl,rfl,rfl⟩,z⟩
 .refine ⟨its.toList,r,⟨o,n,I.kIn a o hk,hc,hd,by simpa using hs⟩,?_⟩;have e:=r.length;simp only[zYW]at e;omega
theorem Inv.tuple (I:Inv X zB σ H s) (h:SqT X.K H a xs):∃ its:List Value,zb xs its/\IsTup s.heap a its.toArray/\xs.length<=sizeLine:=by
 rcases h with h|⟨o,its,n,hk,hc,hs,hz,r⟩
 .obtain ⟨z,its,r,p⟩:=h.ok I.hok;exact ⟨its,r,p.tup,z⟩
 .refine ⟨its.toList,r,⟨o,I.kIn a o hk,hc,n,by simpa using hs⟩,?_⟩;have e:=r.length;simp only[zYW]at e;omega
theorem Inv.list_inj (I:Inv X zB σ H s) (h:SqL X.K H a xs) (h':SqL X.K H a ys):xs=ys:=by
 obtain ⟨its,r,⟨o,n,e,_,_,d⟩,_⟩:=I.list h;obtain ⟨its',r',⟨o',n',e',_,_,d'⟩,_⟩:=I.list h';rw[e]at e';cases e';rw[d]at d';injection d' with d1 _
 have:its=its':=by simpa using zZa Array.toList d1
 subst this;exact r.inj r'
theorem Inv.tuple_inj (I:Inv X zB σ H s) (h:SqT X.K H a xs) (h':SqT X.K H a ys):xs=ys:=by
 obtain ⟨its,r,⟨o,e,_,n,d⟩,_⟩:=I.tuple h;obtain ⟨its',r',⟨o',e',_,n',d'⟩,_⟩:=I.tuple h';rw[e]at e';cases e';rw[d]at d';injection d' with d1 _
 have:its=its':=by simpa using zZa Array.toList d1
 subst this;exact r.inj r'
end
noncomputable abbrev Cx.wish (X:Cx) (E:Yc):Cx:={ X with xe:=E }
noncomputable abbrev Cx.nox (X:Cx):Cx:=X.wish λ_ _=>False
theorem Cx.Ok.wish {X:Cx} (ok:X.Ok) (E:Yc):(X.wish E).Ok :=
 ⟨ok.mod,ok.kind,ok.glob,ok.blt,ok.above,ok.inj,ok.has,ok.cab,ok.hd,ok.frames,ok.stk,ok.exf,ok.bs,ok.bsz,ok.noex,ok.exfs,ok.funs,ok.frf⟩
theorem Cx.Ok.unwish {X:Cx} {E:Yc} (ok:(X.wish E).Ok):X.Ok :=
 ⟨ok.mod,ok.kind,ok.glob,ok.blt,ok.above,ok.inj,ok.has,ok.cab,ok.hd,ok.frames,ok.stk,ok.exf,ok.bs,ok.bsz,ok.noex,ok.exfs,ok.funs,ok.frf⟩
section
variable {X:Cx} {zB:Yd} {σ:St} {H:Hp} {s:Yl} {E:Yc}
theorem Inv.wish (I:Inv X zB σ H s) (E:Yc):Inv (X.wish E) zB σ H s:=⟨I.ok.wish E,I.os,I.bare,I.base,I.loc,I.cell,I.free,I.freeC,I.pin,I.hok,I.len⟩
theorem Inv.unwish (I:Inv (X.wish E) zB σ H s):Inv X zB σ H s:=⟨I.ok.unwish,I.os,I.bare,I.base,I.loc,I.cell,I.free,I.freeC,I.pin,I.hok,I.len⟩
theorem SP.unwish {D:Ends} {f:Flow} {s':Yl} (h:SP (X.wish E) zB D f s'):SP X zB D f s':=by
 cases f with
 |next=>obtain ⟨σ',H',I,q⟩:=h;exact ⟨σ',H',I.unwish,q⟩
 |brk=>obtain ⟨σ',H',I,q⟩:=h;exact ⟨σ',H',I.unwish,q⟩
 |cont=>obtain ⟨σ',H',I,q⟩:=h;exact ⟨σ',H',I.unwish,q⟩
 |ret u=>obtain ⟨v,σ',H',I,r,q⟩:=h;exact ⟨v,σ',H',I.unwish,r,q⟩
theorem PSs.nox {st:Yy} {t:TS} (h:PSs X.nox st t):PSs X st t:=λzB s σ H D I hw=>
 zYJ (h zB s σ H D (I.wish _) hw) (λ_ _ q=>q.unwish) λ_ _ z=>False.elim z
end
section
variable {X:Cx} {st:Stmt} {rest:Yy} {t u:TS} {e:Expr} {te:TE} {pos:Pos}
noncomputable def zV7:TS:=λD σ H=>D.nx σ H
noncomputable def zXZ (t u:TS):TS:=λD σ H=>t { D with nx:=u D } σ H
theorem zSr:PSs X [] zV7:=λ_ _ σ H _ I h=>wpAny_execs_nil ⟨σ,H,I,h⟩
theorem zPw (h1:PS X st t) (h2:PSs X rest u):PSs X (st::rest) (zXZ t u):=by
 intro zB s σ H D I h;refine wpAny_execs_cons (thn (h1 zB s σ H { D with nx:=u D } I h) λf s1 q=>?_);cases f with
 |next=>
  obtain ⟨σ',H',I',q⟩:=q;exact h2 zB s1 σ' H' D I' q
 |ret v=>exact q
 |brk=>exact q
 |cont=>exact q
theorem zS5 (h1:PS X st t):PSs X [st] t:=by
 intro zB s σ H D I h;refine wpAny_execs_cons (thn (h1 zB s σ H D I h) λf s1 q=>?_);cases f with
 |next=>exact wpAny_execs_nil q
 |ret v=>exact q
 |brk=>exact q
 |cont=>exact q
theorem Inv.quiet {zB:Yd} {σ:St} {H:Hp} {s:Yl} (I:Inv X zB σ H s):interactive X.env=false:=by simp[interactive,I.ok.kind]
noncomputable def zWN (te:TE):TS:=λD σ H=>te σ H λ_ H1=>D.nx σ H1
theorem zTn (he:PE X e te) (hs:swapsWith e none pos.line X.env=pure false:=by rfl):PS X (.Expr e pos) (zWN te):=by
 intro zB s σ H D I h;exact wpAny_Expr_any (thn (he zB s σ H _ I h) λv s1 ⟨x,H1,I1,r1,q1⟩=>⟨σ,H1,I1,q1⟩) I.quiet hs
noncomputable def zXU (te:TE):TS:=λD σ H=>te σ H D.rt
theorem zVj (he:PE X e te):PS X (.Return (some e) pos) (zXU te):=by
 intro zB s σ H D I h;exact wpAny_Return_some (thn (he zB s σ H _ I h) λv s1 ⟨x,H1,I1,r1,q1⟩=>⟨x,σ,H1,I1,r1,q1⟩)
noncomputable def zXe (c:TT) (t u:TS):TS:=λD σ H=>c σ H λb H1=>if b=true then t D σ H1 else u D σ H1
theorem zWD {c:Expr} {a b:Yy} {tc:TT} (hc:PT X c tc) (ha:PSs X a t) (hb:PSs X b u):PS X (.If c a b pos) (zXe tc t u):=by
 intro zB s σ H D I h;refine wpAny_If (thn (hc zB s σ H _ I h) λd s1 ⟨H1,I1,q1⟩=>?_);cases d with
 |true=>exact ha zB s1 σ H1 D I1 q1
 |false=>exact hb zB s1 σ H1 D I1 q1
end
noncomputable abbrev TG:=V->St->Hp->(St->Hp->Prop)->Prop
noncomputable abbrev TGs:=List V->St->Hp->(St->Hp->Prop)->Prop
def PG (X:Cx) (target:Expr) (t:TG):Prop :=
 ∀ (zB:Yd) (s:Yl) (σ:St) (H:Hp) (v:V) (u:Yu) (Q:St->Hp->Prop),Inv X zB σ H s->zp v u->t v σ H Q ->
  wpAny (model X.prog X.w) X.A (assign target X.env u) (λ_ s'=>∃ σ' H',Inv X zB σ' H' s'/\Q σ' H') X.xe s
def PGs (X:Cx) (ts:Yi) (t:TGs):Prop :=
 ∀ (zB:Yd) (s:Yl) (σ:St) (H:Hp) (vs:List V) (us:Yf) (Q:St->Hp->Prop),Inv X zB σ H s->zb vs us->t vs σ H Q ->
  wpAny (model X.prog X.w) X.A (assignInOrder ((assignEach ts X.env).map (·.2)) us) (λ_ s'=>∃ σ' H',Inv X zB σ' H' s'/\Q σ' H') X.xe s
noncomputable abbrev zUF:=V->V->V->Hp->(Hp->Prop)->Prop
def zXE (X:Cx) (t:zUF):Prop :=
 ∀ (zB:Yd) (s:Yl) (σ:St) (H:Hp) (o i v:V) (ov iv u:Yu) (Q:Hp->Prop),Inv X zB σ H s->zp o ov->zp i iv->zp v u->t o i v H Q ->
  wpAny (model X.prog X.w) X.A (setItem ov iv u) (λ_ s'=>∃ H',Inv X zB σ H' s'/\Q H') X.xe s
section
variable {X:Cx} {pos:Pos}
noncomputable def zCs (i:Nat):TG:=λv σ H Q=>Q (σ.set i (some v)) H
theorem zKr {i:Nat} {x:Str} (hN:X.N.Nodup) (hi:X.N[i]?=some x) (hx:Loc X.env.scope x) (hf:X.fn x=true\/X.env.scope.names.lookup x=some .local:=by first|exact .inl rfl|exact .inr rfl|assumption):PG X (.Name x pos) (zCs i):=by
 intro zB s σ H v u Q I r h;exact wpAny_assign_Name (zLD I hN hi hx r (λs' I'=>⟨_,H,I',h⟩) hf)
noncomputable def zVZ:TGs:=λvs σ H Q=>vs=[]/\Q σ H
noncomputable def zJO (t:TG) (u:TGs):TGs:=λvs σ H Q=>∃ v r,vs=v::r/\t v σ H λσ' H'=>u r σ' H' Q
theorem zNl:PGs X [] zVZ:=by
 intro zB s σ H vs us Q I r h;obtain ⟨e,h⟩:=h;subst e;cases r;exact assignInOrder_nil ⟨σ,H,I,h⟩
theorem zIC {e:Expr} {es:Yi} {t:TG} {u:TGs} (h1:PG X e t) (h2:PGs X es u)
  (hs:(assignEach (e::es) X.env).map (·.2)=assign e X.env::(assignEach es X.env).map (·.2):=by rfl):PGs X (e::es) (zJO t u):=by
 intro zB s σ H vs us Q I r h;obtain ⟨v,vr,e1,h⟩:=h;subst e1;cases r with
 |cons r rr=>
  rw[hs];refine assignInOrder_cons (thn (h1 zB s σ H _ _ _ I r h) λ_ s1 ⟨σ1,H1,I1,q1⟩=>?_);exact h2 zB s1 σ1 H1 _ _ Q I1 rr q1
noncomputable def zUk (K:Yb) (n:Nat) (t:TGs):TG:=λv σ H Q=>∃ a xs,v=.ref a/\SqT K H a xs/\xs.length=n/\t xs σ H Q
theorem zQz {es:Yi} {k:Nat} {t:TGs} {n:Nat} (hc:X.calm=true) (h:PGs X es t)
  (hn:(assignEach es X.env).length=n:=by rfl) (hst:(assignEach es X.env).findIdx? (·.1)=none:=by rfl):PG X (.Tuple es k pos) (zUk X.K n t):=by
 intro zB s σ H v u Q I r hw;obtain ⟨a,xs,e1,hq,hl,hw⟩:=hw;subst e1;cases r;obtain ⟨its,rv,ht,hz⟩:=I.tuple hq;refine assign_Tuple_tuple (I.ok.hd hc) ht (by simp[hn,<-hl,rv.length]) hst λh' hx=>?_;have I1:Inv X zB σ H { s with heap:=h' }:=I.kept (t':=s.toks) λb o e=>hx b o (zX8 (zXy e)) e;exact h zB _ σ H xs _ Q I1 (by simpa using rv) hw
noncomputable def zXf (to ti:TE) (t:zUF):TG:=λv σ H Q=>to σ H λo H1=>ti σ H1 λi H2=>t o i v H2 λH3=>Q σ H3
theorem zU4 {o i:Expr} {to ti:TE} {t:zUF} (ho:PE X o to) (hi:PE X i ti) (hs:zXE X t)
  (ha:∀ v,assign (.Subscript o i pos) X.env v=(do
   let ov <- holding [v] (eval o X.env);let iv <- holding [v,ov] (eval i X.env);standAt pos;holding [v,ov,iv] (setItem ov iv v);release [v,ov,iv] []):=by intro _;rfl):PG X (.Subscript o i pos) (zXf to ti t):=by
 intro zB s σ H v u Q I r h;rw[ha];refine zXn (zYg (thn (ho zB s σ H _ I h) λov s1 ⟨x,H1,I1,r1,q1⟩=>?_));refine zXn (zYg (thn (hi zB s1 σ H1 _ I1 q1) λiv s2 ⟨y,H2,I2,r2,q2⟩=>?_));refine zXn (zYl (zXn (zYg (thn (hs zB s2 σ H2 x y v ov iv u _ I2 r1 r2 r q2) λ_ s3 ⟨H3,I3,q3⟩=>?_))));exact wpAny_release ⟨σ,H3,I3,q3⟩
noncomputable def zQ5 (te:TE) (g:TG):TS:=λD σ H=>te σ H λx H1=>g x σ H1 D.nx
theorem zQA {tg e:Expr} {te:TE} {g:TG} (he:PE X e te) (hg:PG X tg g) (hs:swapsWithSole [tg] e pos.line X.env=pure false:=by rfl) (hw:swappedStores [tg] e X.env=pure none:=by rfl)
  (h1:(assignEach [tg] X.env).map (·.2)=[assign tg X.env]:=by rfl):PS X (.Assign [tg] e pos) (zQ5 te g):=by
 intro zB s σ H D I h;refine wpAny_Assign_stores (thn (he zB s σ H _ I h) λv s1 ⟨x,H1,I1,r1,q1⟩=>?_) hs hw;rw[h1];exact thn (hg zB s1 σ H1 x v _ I1 r1 q1) λ_ s2 q=>q
theorem zUx {i:Nat} {x:Str} {e:Expr} {te:TE} {pos':Pos} (hN:X.N.Nodup) (hi:X.N[i]?=some x) (hx:Loc X.env.scope x) (he:PE X e te) (hs:swapsWith e (some (.Name x pos')) pos.line X.env=pure false:=by rfl) (hf:X.fn x=true\/X.env.scope.names.lookup x=some .local:=by first|exact .inl rfl|exact .inr rfl|assumption) :
  PS X (.Assign [.Name x pos'] e pos) (zQ5 te (zCs i)):=by
 intro zB s σ H D I h;refine wpAny_Assign_Name (thn (he zB s σ H _ I h) λv s1 ⟨y,H1,I1,r1,q1⟩=>?_) hs;exact zLD I1 hN hi hx r1 (λs2 I2=>⟨_,H1,I2,q1⟩) hf
noncomputable def zR4 (c:TT) (tb:TS):TS:=λD σ H=>∃ W:Nat->St->Hp->Prop,(∃ m,W m σ H) /\ ∀ m σ H,W m σ H ->
 c σ H λb H1=>if b=true then ∃ N:St->Hp->Prop,(∀ σ' H',N σ' H' -> ∃ m',m'<m/\W m' σ' H')/\tb { D with nx:=N,ct:=N,bk:=D.nx } σ H1 else D.nx σ H1
theorem zQP {c:Expr} {body:Yy} {tc:TT} {tb:TS} (hp:PassesOwn (model X.prog X.w) X.A X.env X.xe) (hc:PT X c tc) (hb:PSs X body tb):PS X (.While c body [] pos) (zR4 tc tb):=by
 intro zB s σ H D I h;obtain ⟨W,⟨m0,w0⟩,turn⟩:=h;refine wpAny_While (codeAny_whileLoop (λn s'=>∃ σ' H',Inv X zB σ' H' s'/\W n σ' H') ?_ m0 ⟨σ,H,I,w0⟩);rintro n s1 ⟨σ1,H1,I1,w1⟩;refine wpAny_passesOwn hp (thn (hc zB s1 σ1 H1 _ I1 (turn n σ1 H1 w1)) λb s2 ⟨H2,I2,q2⟩=>?_);cases b with
 |true=>
  obtain ⟨N,hN,q2⟩:=q2;rw[zX2 rfl];refine wpAny_passesOwn hp (thn (hb zB s2 σ1 H2 _ I2 q2) λf s3 q3=>?_);cases f with
  |next=>
   obtain ⟨σ3,H3,I3,n3⟩:=q3;obtain ⟨m',hm,w3⟩:=hN σ3 H3 n3;exact ⟨m',hm,σ3,H3,I3,w3⟩
  |cont=>
   obtain ⟨σ3,H3,I3,n3⟩:=q3;obtain ⟨m',hm,w3⟩:=hN σ3 H3 n3;exact ⟨m',hm,σ3,H3,I3,w3⟩
  |brk=>exact q3
  |ret v=>exact q3
 |false=>
  rw[zX5 zX9];exact wpAny_execs_nil ⟨σ1,H2,I2,q2⟩
end
structure It where
 go:Nat->Hp->Prop
 yld:Nat->Hp->V->Hp->Prop
 stop:Nat->Hp->Prop
def zCV (X:Cx) (zB:Yd) (H:Hp) (b:Yt):Prop :=
 H b=none/\b≠X.env.locals/\b∉X.fs/\(b∈X.ex\/X.s₀.heap.objs.size<=b)/\(∀ x c,X.env.cells.lookup x=some c->c≠b) /\ ∀ p∈X.pn++zB,p.1≠b
theorem Inv.fpOk {X:Cx} {zB:Yd} {σ:St} {H H':Hp} {s:Yl} {b:Yt} (I:Inv X zB σ H s) (hb:s.heap.objs.size<=b) (hn:H' b=none):zCV X zB H' b:=by
 refine ⟨hn,zZI (zYC I.lt hb),I.nofs hb,.inr (zYE I.sz hb),λx c e z=>?_,λp hp z=>?_⟩
 .obtain ⟨v,q⟩:=I.cell x c e;exact absurd (zYC q.lt (by rw[z];exact hb)) (zYV _)
 .exact absurd (zYC (zXy (I.pin p hp).1) (by rw[z];exact hb)) (zYV _)
structure Turn (P:Ym) (w:Yo) (K:Yb) (tg:Expr) (J:It) (fp:Yg) (it:Yt) (tn:Nat->Heap->Prop):Prop where
 mem:it∈fp
 obj:∀ i h,tn i h -> ∀ b∈fp,∃ o,h.get? b=some o /\ ∀ v,o.data≠.cell v
 keep:∀ i h h',tn i h->(∀ b∈fp,∀ o,h.get? b=some o->h'.get? b=some o)->tn i h'
 item:∀ (X:Cx),X.prog=P->X.w=w->X.K=K->X.calm=true -> ∀ (i:Nat) (zB:Yd) (s:Yl) (σ:St) (H:Hp) (E:Yc),Inv X zB σ H s->(∀ b∈fp,zCV X zB H b)->tn i s.heap->J.go i H ->
  wpAny (model P w) X.A (pyNext (.ref it)) (λr s1=>∃ u,r=some u /\
   wpAny (model P w) X.A (letOwnedTupleGo tg (.ref it) u) (λ_ s2=>∃ x H',Inv X zB σ H' s2/\zp x u/\J.yld i H x H'/\tn (i+1) s2.heap /\ ∀ b∈fp,H' b=none) E s1) E s
 done:∀ (X:Cx),X.prog=P->X.w=w->X.K=K->X.calm=true -> ∀ (i:Nat) (zB:Yd) (s:Yl) (σ:St) (H:Hp) (E:Yc),Inv X zB σ H s->(∀ b∈fp,zCV X zB H b)->tn i s.heap->J.stop i H ->
  wpAny (model P w) X.A (pyNext (.ref it)) (λr s1=>r=none/\Inv X zB σ H s1) E s
 self:∀ (A:Yn) (i:Nat) (s:Yl) (Q:Yc) (E:Yc),tn i s.heap->Q (.ref it) s->wpAny (model P w) A (pyIter (.ref it)) Q E s
noncomputable abbrev TI:=St->Hp->(It->Hp->Prop)->Prop
def PIE (X:Cx) (zB:Yd) (σ:St) (tg:Expr) (R:It->Hp->Prop) (itv:Yu) (s2:Yl):Prop :=
 ∃ (it:Yt) (fp:Yg) (tn:Nat->Heap->Prop) (J:It) (H':Hp),itv=.ref it/\Inv X zB σ H' s2/\Turn X.prog X.w X.K tg J fp it tn/\tn 0 s2.heap/\(∀ b∈fp,zCV X zB H' b)/\R J H'
def PI (X:Cx) (tg iter:Expr) (wi:TI):Prop :=
  ∀ (zB:Yd) (s:Yl) (σ:St) (H:Hp) (R:It->Hp->Prop),Inv X zB σ H s->wi σ H R ->
    wpAny (model X.prog X.w) X.A (eval iter X.env) (λv s1=>wpAny (model X.prog X.w) X.A (pyIter v) (PIE X zB σ tg R) X.xe s1) X.xe s
theorem zR6 {M:Model} {A:Yn} {E:Yc} {s:Yl} {tg:Expr} {it:Yt} {u:Yu} {o:Obj} {n:String} {vs:Yp} {Q:Unit->Shared->Prop} (ho:s.heap.get? it=some o) (hc:o.cls=.type n) (hd:o.data=.fields vs)
    (hn:["enumerate", "zip", "dict_itemiterator", "dict_reverseitemiterator", "odict_iterator", "itertools.zip_longest", "itertools.pairwise"].contains n=false) (hQ:Q () s):wpAny M A (letOwnedTupleGo tg (.ref it) u) Q E s:=by
  unfold letOwnedTupleGo
  cases tg <;> first
    |exact zXp hQ
    | (cases u <;> first
        |exact zXp hQ
        | (refine zXn (wpAny_load ho ?_)
           rw[hc,hd];show wpAny M A (if (["enumerate", "zip", "dict_itemiterator", "dict_reverseitemiterator", "odict_iterator", "itertools.zip_longest", "itertools.pairwise"].contains n&&vs[0]?==some (rawInt _))=true then _ else _) Q E s;rw[zX5 (by intro h;rw[hn,Bool.false_and]at h;cases h)];exact zXp hQ))
noncomputable def Itl (K:Yb) (a:Yt):It :=
 ⟨λi H=>∃ xs x,SqL K H a xs/\xs[i]?=some x,λi H x H'=>H'=H /\ ∀ xs,SqL K H a xs->xs[i]?=some x,λi H=>∃ xs,SqL K H a xs/\xs.length<=i⟩
noncomputable def Itt (K:Yb) (a:Yt):It :=
 ⟨λi H=>∃ xs x,SqT K H a xs/\xs[i]?=some x,λi H x H'=>H'=H /\ ∀ xs,SqT K H a xs->xs[i]?=some x,λi H=>∃ xs,SqT K H a xs/\xs.length<=i⟩
noncomputable def Itr (lo:Int) (n:Nat):It:=⟨λi _=>i<n,λi H x H'=>H'=H/\x=.int (lo+i),λi _=>n<=i⟩
theorem zPT {P:Ym} {w:Yo} {K:Yb} {tg:Expr} (a it:Yt):Turn P w K tg (Itl K a) [it] it (λi h=>h.IsListIter it a i) where
 mem:=by simp
 obj:=λi h st b hb=>by
  have e:b=it:=by simpa using hb
  subst e;obtain ⟨o,e,c,d⟩:=st;exact ⟨o,e,λv z=>by rw[d]at z;cases z⟩
 keep:=λi h h' st k=>st.at λo e=>k it (by simp) o e;item:=by
  intro X hP hw hK hc i zB s σ H E I hf st hg;subst hP hw hK;obtain ⟨xs,x,hq,hx⟩:=hg;obtain ⟨its,rv,p,hz⟩:=I.list hq;obtain ⟨u,hu,ru⟩:=rv.get hx;obtain ⟨f0,f1,f2,f3,f4,f5⟩:=hf it (by simp);refine wpAny_pyNext_list_item st p.isList (x:=u) (by simpa using hu) λh' st' sb=>?_;have I1:Inv X zB σ H { s with heap:=h' }:=I.turned (t':=s.toks) (λb o hb e=>(sb.2 b hb).trans e) f0 f1 f3 f4 f5;obtain ⟨o,e,c,d⟩:=id st';exact ⟨u,rfl,zR6 (s:={ s with heap:=h' }) e c d (by decide) ⟨x,H,I1,ru,⟨rfl,λys hy=>by rw[I.list_inj hy hq];exact hx⟩,st',λb hb=>(hf b hb).1⟩⟩
 done:=by
  intro X hP hw hK hc i zB s σ H E I hf st hg;subst hP hw hK;obtain ⟨xs,hq,hx⟩:=hg;obtain ⟨its,rv,p,hz⟩:=I.list hq;obtain ⟨f0,f1,f2,f3,f4,f5⟩:=hf it (by simp);have hl:=rv.length;exact wpAny_pyNext_list_end (I.ok.hd hc) st p.isList (by simp;omega) λh' eb=>⟨rfl,I.turned (t':=s.toks) (λb o hb e=>eb b o hb e) f0 f1 f3 f4 f5⟩
 self:=λ_ _ _ _ _ st h=>wpAny_pyIter_listiter st h
theorem zML {P:Ym} {w:Yo} {K:Yb} {tg:Expr} (a it:Yt):Turn P w K tg (Itt K a) [it] it (λi h=>h.IsTupleIter it a i) where
 mem:=by simp
 obj:=λi h st b hb=>by
  have e:b=it:=by simpa using hb
  subst e;obtain ⟨o,e,c,d⟩:=st;exact ⟨o,e,λv z=>by rw[d]at z;cases z⟩
 keep:=λi h h' st k=>st.at λo e=>k it (by simp) o e;item:=by
  intro X hP hw hK hc i zB s σ H E I hf st hg;subst hP hw hK;obtain ⟨xs,x,hq,hx⟩:=hg;obtain ⟨its,rv,p,hz⟩:=I.tuple hq;obtain ⟨u,hu,ru⟩:=rv.get hx;obtain ⟨f0,f1,f2,f3,f4,f5⟩:=hf it (by simp);refine wpAny_pyNext_tuple_item st (show s.heap.IsTuple a its.toArray from p) (x:=u) (by simpa using hu) λh' st' sb=>?_;have I1:Inv X zB σ H { s with heap:=h' }:=I.turned (t':=s.toks) (λb o hb e=>(sb.2 b hb).trans e) f0 f1 f3 f4 f5;obtain ⟨o,e,c,d⟩:=id st';exact ⟨u,rfl,zR6 (s:={ s with heap:=h' }) e c d (by decide) ⟨x,H,I1,ru,⟨rfl,λys hy=>by rw[I.tuple_inj hy hq];exact hx⟩,st',λb hb=>(hf b hb).1⟩⟩
 done:=by
  intro X hP hw hK hc i zB s σ H E I hf st hg;subst hP hw hK;obtain ⟨xs,hq,hx⟩:=hg;obtain ⟨its,rv,p,hz⟩:=I.tuple hq;obtain ⟨f0,f1,f2,f3,f4,f5⟩:=hf it (by simp);have hl:=rv.length;exact wpAny_pyNext_tuple_end (I.ok.hd hc) st (show s.heap.IsTuple a its.toArray from p) (by simp;omega) λh' eb=>⟨rfl,I.turned (t':=s.toks) (λb o hb e=>eb b o hb e) f0 f1 f3 f4 f5⟩
 self:=λ_ _ _ _ _ st h=>wpAny_pyIter_tupleiter st h
theorem zNA {P:Ym} {w:Yo} {K:Yb} {tg:Expr} (it:Yt) (lo:Int) (n:Nat):Turn P w K tg (Itr lo n) [it] it (λi h=>IsRangeIter h it (lo+(i:Nat)*1) ((n:Int)-(i:Nat)) 1) where
 mem:=by simp
 obj:=λi h st b hb=>by
  have e:b=it:=by simpa using hb
  subst e;exact ⟨_,st,λv z=>by
   have z':Data.fields _=Data.cell v:=z;cases z'⟩
 keep:=λi h h' st k=>k it (by simp) _ st;item:=by
  intro X hP hw hK hc i zB s σ H E I hf st hg;subst hP hw hK;obtain ⟨f0,f1,f2,f3,f4,f5⟩:=hf it (by simp);have W:=Walks.range (prog:=X.prog) (w:=X.w) (I.ok.hd hc) it lo 1 n;refine W.item i s _ _ hg st λv h' tk hv st' kk=>?_;obtain ⟨t,rfl⟩:=hv;have I1:Inv X zB σ H { s with heap:=h',toks:=tk }:=I.turned (λb o hb e=>kk b o (by simpa using hb) e) f0 f1 f3 f4 f5;refine ⟨_,rfl,zR6 (s:={ s with heap:=h',toks:=tk }) (n := "range_iterator") st' rfl rfl (by decide) ⟨.int (lo+i),H,I1,⟨t,?_⟩,⟨rfl,rfl⟩,st',λb hb=>(hf b hb).1⟩⟩;rw[Int.mul_one]
 done:=by
  intro X hP hw hK hc i zB s σ H E I hf st hg;subst hP hw hK;obtain ⟨f0,f1,f2,f3,f4,f5⟩:=hf it (by simp);exact wpAny_pyNext_range_end (I.ok.hd hc) st (by have:n<=i:=hg;omega) λh' eb=>⟨rfl,I.turned (t':=s.toks) (λb o hb e=>eb b o hb e) f0 f1 f3 f4 f5⟩
 self:=λ_ _ _ _ _ st h=>wpAny_pyIter_rangeiter st h
section
variable {X:Cx} {tg:Expr}
theorem zQM {zB:Yd} {σ:St} {H:Hp} {s:Yl} {R:It->Hp->Prop} {E:Yc} {lo hi:Int} {t u v:Tok} {tk:Nat} (I:Inv X zB σ H s) (h1 : -(2 ^ 62)<=lo) (h2:lo<2 ^ 62) (h3 : -(2 ^ 62)<=hi) (h4:hi<2 ^ 62)
  (q:R (Itr lo (hi-lo).toNat) H):wpAny (model X.prog X.w) X.A (pyIter (.ref s.heap.objs.size)) (PIE X zB σ tg R) E { s with heap:=s.heap.push { cls:=.type "range", data:=.fields #[.int lo t,.int hi u,.int 1 v] },toks:=tk }:=by
 refine wpAny_pyIter_range (IsRange.new ..) (small_one h1 h2 h3 h4) ?_;have I1:Inv X zB σ H { s with heap:=s.heap.push { cls:=.type "range", data:=.fields #[.int lo t,.int hi u,.int 1 v] },toks:=tk }:=I.kept λb o e=>zXo _ e
 refine ⟨(s.heap.push { cls:=.type "range", data:=.fields #[.int lo t,.int hi u,.int 1 v] }).objs.size,[(s.heap.push { cls:=.type "range", data:=.fields #[.int lo t,.int hi u,.int 1 v] }).objs.size],_,_,H,rfl,
  I1.kept (t':=tk) λb o e=>zXo _ e,zNA _ lo (hi-lo).toNat,?_,λb hb=>?_,q⟩
 .have e1:lo+((0:Nat):Int)*1=lo:=by simp
  have e2:(((hi-lo).toNat:Nat):Int)-((0:Nat):Int)=Builtin.Range.rangeSize lo hi 1:=by rw[rangeSize_one];split <;> omega
  show IsRangeIter _ _ (lo+((0:Nat):Int)*1) ((((hi-lo).toNat:Nat):Int)-((0:Nat):Int)) 1;rw[e1,e2];exact zXx _ rfl
 .have e:b=(s.heap.push { cls:=.type "range", data:=.fields #[.int lo t,.int hi u,.int 1 v] }).objs.size:=by simpa using hb
  subst e;exact I1.fpOk (zXt _) (I1.hok.fresh (zXt _))
noncomputable def zWa (ta:TA):TI:=λσ H R=>ta σ H λvs H1=>∃ j:Int,vs=[.int j] /\ -(2 ^ 62)<=j/\j<2 ^ 62/\R (Itr 0 j.toNat) H1
theorem zPM {a:Expr} {ta:TA} {p pos:Pos} (hg:Gl X "range") (hm:X.mg "range" = none) (ha:PA X [a] ta) (hs:starEach [a] X.env=[(false,eval a X.env)]:=by rfl):PI X tg (.Call (.Name "range" p) [a] [] pos) (zWa ta):=by
 intro zB s σ H R I h;refine Call_ (zDV I hg hm boot_range (PyProof.Rows.callWith_type1 (thn (ha pos zB s σ H _ I h) λus s1 ⟨vs,H1,I1,r1,q1⟩=>?_) hs rfl));obtain ⟨j,e,q1,q2,q⟩:=q1;subst e;cases r1 with
 |cons r rr=>
  cases rr;obtain ⟨t,rfl⟩:=r;exact call_range_1 (zQM I1 (by omega) (by omega) q1 q2 (by simpa using q))
noncomputable def zV5 (wi:TI) (g:TG) (tb:TS):TS:=λD σ H=>wi σ H λJ H1=>∃ W:Nat->Nat->St->Hp->Prop,(∃ m,W 0 m σ H1) /\ ∀ i m σ H,W i m σ H ->
 (J.stop i H/\D.nx σ H)\/(J.go i H /\ ∃ N:St->Hp->Prop,(∀ σ' H',N σ' H' -> ∃ m',m'<m/\W (i+1) m' σ' H') /\ ∀ x H',J.yld i H x H'->g x σ H' λσ2 H2=>tb { D with nx:=N,ct:=N,bk:=D.nx } σ2 H2)
noncomputable def zDD (fp:Yg) (h:Heap):List (Addr × Obj):=fp.filterMap λb=>(h.get? b).map λo=>(b,o)
theorem zAT {fp:Yg} {h:Heap} {b:Yt} {o:Obj} (hb:b∈fp) (e:h.get? b=some o):(b,o)∈zDD fp h:=List.mem_filterMap.mpr ⟨b,hb,by rw[e];rfl⟩
theorem zIw {fp:Yg} {h:Heap} {p:Addr × Obj} (hp:p∈zDD fp h):p.1∈fp/\h.get? p.1=some p.2:=by
 obtain ⟨b,hb,e⟩:=List.mem_filterMap.mp hp;cases q:h.get? b with
 |none=>rw[q]at e;cases e
 |some o=>
  rw[q]at e;have e':(b,o)=p:=zYn e;subst e';exact ⟨hb,q⟩
theorem Inv.pinned {zB:Yd} {σ:St} {H:Hp} {s:Yl} {fp:Yg} (I:Inv X zB σ H s) (hf:∀ b∈fp,zCV X zB H b) (ho:∀ b∈fp,∃ o,s.heap.get? b=some o /\ ∀ v,o.data≠.cell v):Inv X (zB++zDD fp s.heap) σ H s :=
 I.pins_of λp hp=>(zYD.mp hp).elim (λz=>I.pin p (zX7 _ z)) λz=>by
  obtain ⟨hb,e⟩:=zIw z;obtain ⟨f0,f1,f2,_⟩:=hf p.1 hb;obtain ⟨o,e',d⟩:=ho p.1 hb;rw[e]at e';cases e';exact ⟨e,f0,f1,f2,d⟩
theorem Inv.unpinned {zB pl:Yd} {σ:St} {H:Hp} {s:Yl} (I:Inv X (zB++pl) σ H s):Inv X zB σ H s:=I.pins_of λp hp=>I.pin p (zX7 _ (zY2 _ hp))
theorem zU3 {iter:Expr} {body:Yy} {wi:TI} {g:TG} {tb:TS} {pos:Pos} (hp:PassesOwn (model X.prog X.w) X.A X.env X.xe) (hc:X.calm=true) (hi:PI X tg iter wi) (hg:PG X tg g) (hb:PSs X body tb)
  (hs:∀ x,foldedSetIterable iter X.env x=pure x:=by intro _;rfl):PS X (.For tg iter body [] pos) (zV5 wi g tb):=by
 intro zB s σ H D I h;refine wpAny_For (thn (hi zB s σ H _ I h) λv s1 h1=>thn h1 λitv s2 h2=>?_) hs;obtain ⟨it,fp,tn,J,H2,e,I2,T,st2,f2,W,⟨m0,w0⟩,turn⟩:=h2;subst e;have stat:∀ {H':Hp},(∀ b∈fp,H' b=none) -> ∀ b∈fp,zCV X zB H' b:=λhn b hb=>⟨hn b hb,(f2 b hb).2⟩;refine codeAny_forLoop_any (λn s'=>∃ i σ' H',Inv X zB σ' H' s'/\tn i s'.heap/\(∀ b∈fp,H' b=none)/\W i n σ' H') ?_ m0 ⟨0,σ,H2,I2,st2,λb hb=>(f2 b hb).1,w0⟩;rintro n s3 ⟨i,σ3,H3,I3,st3,fr3,w3⟩;rcases turn i n σ3 H3 w3 with ⟨stop,qn⟩|⟨go,N,hN,step⟩
 .refine wpAny_passesOwn hp (thn (T.done X rfl rfl rfl hc i zB s3 σ3 H3 X.xe I3 (stat fr3) st3 stop) λr s4 ⟨hr,I4⟩=>?_);subst hr;exact wpAny_execs_nil ⟨σ3,H3,I4,qn⟩
 .refine wpAny_passesOwn hp (thn (T.item X rfl rfl rfl hc i zB s3 σ3 H3 X.xe I3 (stat fr3) st3 go) λr s4 ⟨u,hr,h4⟩=>?_);subst hr;refine wpAny_passesOwn hp (thn h4 λ_ s5 ⟨x,H5,I5,r5,y5,st5,fr5⟩=>?_);have I5':=I5.pinned (stat fr5) (T.obj _ _ st5);refine wpAny_passesOwn hp (thn (hg _ s5 σ3 H5 x u _ I5' r5 (step x H5 y5)) λ_ s6 ⟨σ6,H6,I6,q6⟩=>?_);refine wpAny_passesOwn hp (thn (hb _ s6 σ6 H6 _ I6 q6) λf s7 q7=>?_);have again:∀ {σ7:St} {H7:Hp},Inv X (zB++zDD fp s5.heap) σ7 H7 s7->N σ7 H7 -> ∃ m,m<n /\ ∃ i σ' H',Inv X zB σ' H' s7/\tn i s7.heap/\(∀ b∈fp,H' b=none)/\W i m σ' H':=λ{σ7 H7} I7 n7=>by
   obtain ⟨m',hm,w7⟩:=hN σ7 H7 n7;refine ⟨m',hm,i+1,σ7,H7,I7.unpinned,T.keep _ _ _ st5 λb hb o e=>(I7.pin (b,o) (zX7 _ (zX7 _ (zAT hb e)))).1,λb hb=>?_,w7⟩;obtain ⟨o,e,d⟩:=T.obj _ _ st5 b hb;exact (I7.pin (b,o) (zX7 _ (zX7 _ (zAT hb e)))).2.1
  cases f with
  |next=>obtain ⟨σ7,H7,I7,n7⟩:=q7;exact again I7 n7
  |cont=>obtain ⟨σ7,H7,I7,n7⟩:=q7;exact again I7 n7
  |brk=>obtain ⟨σ7,H7,I7,q7⟩:=q7;exact ⟨σ7,H7,I7.unpinned,q7⟩
  |ret v=>obtain ⟨x7,σ7,H7,I7,r7,q7⟩:=q7;exact ⟨x7,σ7,H7,I7.unpinned,r7,q7⟩
end
noncomputable abbrev R2:=V->V->Hp->VK->Prop
def OpR (X:Cx) (f:Y2) (r:R2):Prop :=
 ∀ (zB:Yd) (s:Yl) (σ:St) (H:Hp) (x y:V) (v u:Yu) (Q:VK),Inv X zB σ H s->zp x v->zp y u->r x y H Q ->
  wpAny (model X.prog X.w) X.A (f v u) (EP X zB σ Q) X.xe s
def UnR (X:Cx) (f:Value->Sem Value) (r:V->Hp->VK->Prop):Prop :=
 ∀ (zB:Yd) (s:Yl) (σ:St) (H:Hp) (x:V) (v:Yu) (Q:VK),Inv X zB σ H s->zp x v->r x H Q ->
  wpAny (model X.prog X.w) X.A (f v) (EP X zB σ Q) X.xe s
def zCP (X:Cx) (f:Yu) (r:List V->Hp->VK->Prop):Prop :=
 ∀ (zB:Yd) (s:Yl) (σ:St) (H:Hp) (xs:List V) (us:Yf) (Q:VK),Inv X zB σ H s->zb xs us->r xs H Q ->
  wpAny (model X.prog X.w) X.A (call f us) (EP X zB σ Q) X.xe s
def zXl (X:Cx) (r:V->Hp->(Bool->Hp->Prop)->Prop):Prop :=
 ∀ (zB:Yd) (s:Yl) (σ:St) (H:Hp) (x:V) (v:Yu) (Q:Bool->Hp->Prop),Inv X zB σ H s->zp x v->r x H Q ->
  wpAny (model X.prog X.w) X.A (truthy v) (TP X zB σ Q) X.xe s
noncomputable def tOp (r:R2) (ta tb:TE):TE:=λσ H Q=>ta σ H λx H1=>tb σ H1 λy H2=>r x y H2 Q
noncomputable def tUn (r:V->Hp->VK->Prop) (ta:TE):TE:=λσ H Q=>ta σ H λx H1=>r x H1 Q
noncomputable def rI (C:Int->Int->Prop) (g:Int->Int->V):R2:=λx y H Q=>∃ i j,x=.int i/\y=.int j/\C i j/\Q (g i j) H
noncomputable def rI0 (g:Int->Int->V):R2:=λx y H Q=>∃ i j,x=.int i/\y=.int j/\Q (g i j) H
def rU (g:Int->V):V->Hp->VK->Prop:=λx H Q=>∃ i,x=.int i/\Q (g i) H
section
variable {X:Cx} {a b c:Expr} {ta tb tc:TE} {pos:Pos}
theorem zVp (ha:PE X a ta) (hb:PE X b tb) {zB:Yd} {s:Yl} {σ:St} {H:Hp} {R:V->V->Hp->Prop} (I:Inv X zB σ H s)
  (h:ta σ H λx H1=>tb σ H1 λy H2=>R x y H2) {Q:Yc} {f:Y2}
  (hf:∀ v u s2 x y H2,Inv X zB σ H2 s2->zp x v->zp y u->R x y H2->wpAny (model X.prog X.w) X.A (f v u) Q X.xe s2) :
  wpAny (model X.prog X.w) X.A (eval a X.env) (λv s₁=>wpAny (model X.prog X.w) X.A (eval b X.env) (λu s₂=>wpAny (model X.prog X.w) X.A (f v u) Q X.xe s₂) X.xe s₁) X.xe s:=by
 refine thn (ha zB s σ H _ I h) λv s1 ⟨x,H1,I1,r1,q1⟩=>?_;refine thn (hb zB s1 σ H1 _ I1 q1) λu s2 ⟨y,H2,I2,r2,q2⟩=>?_;exact hf v u s2 x y H2 I2 r1 r2 q2
theorem zWT {op:Operator} {r:R2} (ho:OpR X (binaryOp op) r) (ha:PE X a ta) (hb:PE X b tb):PE X (.BinOp a op b pos) (tOp r ta tb):=by
 intro zB s σ H Q I h;exact wpAny_BinOp (zVp ha hb I h λv u s2 x y H2 I2 rx ry q=>ho zB s2 σ H2 x y v u Q I2 rx ry q)
theorem zW1 {op:UnaryOp} {r:V->Hp->VK->Prop} (ho:UnR X (unaryOp op) r) (ha:PE X a ta):PE X (.UnaryOp op a pos) (tUn r ta):=by
 intro zB s σ H Q I h;exact UnaryOp_ (thn (ha zB s σ H _ I h) λv s1 ⟨x,H1,I1,r1,q1⟩=>ho zB s1 σ H1 x v Q I1 r1 q1)
theorem opI {f:Y2} {C:Int->Int->Prop} {g:Int->Int->Int}
  (rule:∀ (i j:Int) (t u:Tok) (s:Yl) (Q:Yc) (E:Yc),C i j->Q (.int (g i j) s.toks) { s with toks:=s.toks+1 }->wpAny (model X.prog X.w) X.A (f (.int i t) (.int j u)) Q E s) :
  OpR X f (rI C λi j=> .int (g i j)):=by
 intro zB s σ H x y v u Q I rx ry h;obtain ⟨i,j,rfl,rfl,hc,q⟩:=h;obtain ⟨t,rfl⟩:=rx;obtain ⟨t',rfl⟩:=ry;exact rule i j t t' s _ _ hc ⟨.int (g i j),H,I.tok _,⟨_,rfl⟩,q⟩
theorem zW4 {f:Y2} {g:Int->Int->Int}
  (rule:∀ (i j:Int) (t u:Tok) (s:Yl) (Q:Yc) (E:Yc),Q (.int (g i j) s.toks) { s with toks:=s.toks+1 }->wpAny (model X.prog X.w) X.A (f (.int i t) (.int j u)) Q E s) :
  OpR X f (rI0 λi j=> .int (g i j)):=by
 intro zB s σ H x y v u Q I rx ry h;obtain ⟨i,j,rfl,rfl,q⟩:=h;obtain ⟨t,rfl⟩:=rx;obtain ⟨t',rfl⟩:=ry;exact rule i j t t' s _ _ ⟨.int (g i j),H,I.tok _,⟨_,rfl⟩,q⟩
theorem zTV {f:Y2} {g:Int->Int->Bool}
  (rule:∀ (i j:Int) (t u:Tok) (s:Yl) (Q:Yc) (E:Yc),Q (.bool (g i j)) s->wpAny (model X.prog X.w) X.A (f (.int i t) (.int j u)) Q E s) :
  OpR X f (rI0 λi j=> .bl (g i j)):=by
 intro zB s σ H x y v u Q I rx ry h;obtain ⟨i,j,rfl,rfl,q⟩:=h;obtain ⟨t,rfl⟩:=rx;obtain ⟨t',rfl⟩:=ry;exact rule i j t t' s _ _ ⟨.bl (g i j),H,I,rfl,q⟩
def zXa (i j:Int):Prop:=0<j/\j<1073741824
def zXT (i j:Int):Prop:=0<=j/\j<=1000000/\i.natAbs<2 ^ 64
def zVQ (i j:Int):Prop:=(-(2 ^ 64)<i/\i<2 ^ 64)\/(-(2 ^ 64)<j/\j<2 ^ 64)
theorem zVQ.ok {i j:Int} (h:zVQ i j):IntMulOk i j:=by
 rcases h with ⟨h1,h2⟩|⟨h1,h2⟩
 .exact .of_left (intBits_le_64 h1 h2)
 .exact .of_right (intBits_le_64 h1 h2)
theorem zUw:OpR X (binaryOp .Add) (rI0 λi j=> .int (i+j)):=zW4 λ_ _ _ _ _ _ _ q=>add_int q
theorem zVP:OpR X (binaryOp .Sub) (rI0 λi j=> .int (i-j)):=zW4 λ_ _ _ _ _ _ _ q=>sub_int q
theorem zUb:OpR X (binaryOp .Mult) (rI zVQ λi j=> .int (i*j)):=opI λ_ _ _ _ _ _ _ hc q=>mul_int q hc.ok
theorem zSN:OpR X (binaryOp .FloorDiv) (rI zXa λi j=> .int (i / j)):=opI λi j _ _ _ _ _ hc q=>by
 have h1:(0:Int)<j:=hc.1;have h2:j<1073741824:=hc.2;exact floordiv_int (by omega) (by rw[Int.fdiv_eq_ediv_of_nonneg i (by omega)];exact q) (.inl (PyProof.noPylong_small (by omega)))
theorem zVL:OpR X (binaryOp .Mod) (rI (λ_ j=>0<j) λi j=> .int (i % j)):=opI λi j _ _ _ _ _ hc q=>by
 have h1:(0:Int)<j:=hc;exact mod_int' (by omega) (by rw[Int.fmod_eq_emod_of_nonneg i (by omega)];exact q)
theorem zVH:OpR X (binaryOp .Pow) (rI zXT λi j=> .int (i ^ j.toNat)):=opI λ_ _ _ _ _ _ _ hc q=>pow_int_small hc.1 hc.2.1 hc.2.2 q
theorem unI {f:Value->Sem Value} {g:Int->Int}
  (rule:∀ (i:Int) (t:Tok) (s:Yl) (Q:Yc) (E:Yc),Q (.int (g i) s.toks) { s with toks:=s.toks+1 }->wpAny (model X.prog X.w) X.A (f (.int i t)) Q E s) :
  UnR X f (rU λi=> .int (g i)):=by
 intro zB s σ H x v Q I rx h;obtain ⟨i,rfl,q⟩:=h;obtain ⟨t,rfl⟩:=rx;exact rule i t s _ _ ⟨.int (g i),H,I.tok _,⟨_,rfl⟩,q⟩
theorem zUe:UnR X (unaryOp .USub) (rU λi=> .int (-i)):=unI λ_ _ _ _ _ q=>neg_int q
end
noncomputable def zSR:V->V->Bool
 |.non,.non=>true|.non,.int _=>true|.int _,.non=>true|.non,.bl _=>true|.bl _,.non=>true|.non,.str _=>true|.str _,.non=>true
 |.int _,.int _=>true|.bl _,.bl _=>true|.str _,.str _=>true|.byt _,.byt _=>true
 |.int _,.str _=>true|.str _,.int _=>true|.bl _,.str _=>true|.str _,.bl _=>true
 |_,_=>false
noncomputable def rEq:R2:=λx y H Q=>zSR x y=true/\Q (.bl (decide (x=y))) H
noncomputable def rNe:R2:=λx y H Q=>zSR x y=true/\Q (.bl (!decide (x=y))) H
theorem zNn {i j:Int}:decide (V.int i=V.int j)=(i==j):=by
 rw[Bool.eq_iff_iff];simp
theorem zQy {i j:Bool}:decide (V.bl i=V.bl j)=(i==j):=by
 rw[Bool.eq_iff_iff];simp
theorem zNt {i j:Str}:decide (V.str i=V.str j)=(i==j):=by
 rw[Bool.eq_iff_iff];simp
theorem zNm {i j:Array UInt8}:decide (V.byt i=V.byt j)=(i.toList==j.toList):=by
 rw[Bool.eq_iff_iff];cases i;cases j;simp
section
variable {X:Cx} {a b c:Expr} {ta tb tc:TE} {pos:Pos}
theorem zy {zB:Yd} {σ:St} {H:Hp} {s:Yl} {Q:VK} {k k':Bool} (I:Inv X zB σ H s) (q:Q (.bl k) H) (e:k=k'):EP X zB σ Q (.bool k') s:=by
 subst e;exact ⟨.bl k,H,I,rfl,q⟩
theorem zTw:OpR X (compareOp .Eq) rEq:=by
 intro zB s σ H x y v u Q I rx ry h;obtain ⟨hs,q⟩:=h;cases x with
 |non=>
  cases rx;cases y with
  |non=>cases ry;exact PySem.EqNone.eq_none_none (zy I q (by simp))
  |bl j=>cases ry;exact PySem.EqNone.eq_none_bool (zy I q (by simp))
  |int j=>obtain ⟨t',rfl⟩:=ry;exact PySem.EqNone.eq_none_int (zy I q (by simp))
  |str j=>obtain ⟨t',rfl⟩:=ry;exact PySem.EqNone.eq_none_str (zy I q (by simp))
  |_=>exact absurd (show false=true from hs) zX9
 |bl i=>
  cases rx;cases y with
  |non=>cases ry;exact PySem.EqNone.eq_bool_none (zy I q (by simp))
  |bl j=>cases ry;exact eq_bool (zy I q zQy)
  |str j=>obtain ⟨t',rfl⟩:=ry;exact PySem.EqMixed.eq_bool_str (zy I q (by simp))
  |_=>exact absurd (show false=true from hs) zX9
 |int i=>
  obtain ⟨t,rfl⟩:=rx;cases y with
  |non=>cases ry;exact PySem.EqNone.eq_int_none (zy I q (by simp))
  |int j=>obtain ⟨t',rfl⟩:=ry;exact eq_int (zy I q zNn)
  |str j=>obtain ⟨t',rfl⟩:=ry;exact PySem.EqMixed.eq_int_str (zy I q (by simp))
  |_=>exact absurd (show false=true from hs) zX9
 |str i=>
  obtain ⟨t,rfl⟩:=rx;cases y with
  |non=>cases ry;exact PySem.EqNone.eq_str_none (zy I q (by simp))
  |bl j=>cases ry;exact PySem.EqMixed.eq_str_bool (zy I q (by simp))
  |int j=>obtain ⟨t',rfl⟩:=ry;exact PySem.EqMixed.eq_str_int (zy I q (by simp))
  |str j=>obtain ⟨t',rfl⟩:=ry;exact eq_str (zy I q zNt)
  |_=>exact absurd (show false=true from hs) zX9
 |byt i=>
  obtain ⟨t,rfl⟩:=rx;cases y with
  |byt j=>obtain ⟨t',rfl⟩:=ry;exact PySem.W.eq_bytes (zy I q zNm)
  |_=>exact absurd (show false=true from hs) zX9
 |_=>cases y <;> exact absurd (show false=true from hs) zX9
theorem zWO:OpR X (compareOp .NotEq) rNe:=by
 intro zB s σ H x y v u Q I rx ry h;obtain ⟨hs,q⟩:=h;cases x with
 |non=>
  cases rx;cases y with
  |non=>cases ry;exact PySem.EqNone.ne_none_none (zy I q (by simp))
  |bl j=>cases ry;exact PySem.EqNone.ne_none_bool (zy I q (by simp))
  |int j=>obtain ⟨t',rfl⟩:=ry;exact PySem.EqNone.ne_none_int (zy I q (by simp))
  |str j=>obtain ⟨t',rfl⟩:=ry;exact PySem.EqNone.ne_none_str (zy I q (by simp))
  |_=>exact absurd (show false=true from hs) zX9
 |bl i=>
  cases rx;cases y with
  |non=>cases ry;exact PySem.EqNone.ne_bool_none (zy I q (by simp))
  |bl j=>cases ry;exact ne_bool (zy I q (zZa not zQy))
  |str j=>obtain ⟨t',rfl⟩:=ry;exact PySem.EqMixed.ne_bool_str (zy I q (by simp))
  |_=>exact absurd (show false=true from hs) zX9
 |int i=>
  obtain ⟨t,rfl⟩:=rx;cases y with
  |non=>cases ry;exact PySem.EqNone.ne_int_none (zy I q (by simp))
  |int j=>obtain ⟨t',rfl⟩:=ry;exact ne_int (zy I q (zZa not zNn))
  |str j=>obtain ⟨t',rfl⟩:=ry;exact PySem.EqMixed.ne_int_str (zy I q (by simp))
  |_=>exact absurd (show false=true from hs) zX9
 |str i=>
  obtain ⟨t,rfl⟩:=rx;cases y with
  |non=>cases ry;exact PySem.EqNone.ne_str_none (zy I q (by simp))
  |bl j=>cases ry;exact PySem.EqMixed.ne_str_bool (zy I q (by simp))
  |int j=>obtain ⟨t',rfl⟩:=ry;exact PySem.EqMixed.ne_str_int (zy I q (by simp))
  |str j=>obtain ⟨t',rfl⟩:=ry;exact ne_str (zy I q (zZa not zNt))
  |_=>exact absurd (show false=true from hs) zX9
 |byt i=>
  obtain ⟨t,rfl⟩:=rx;cases y with
  |byt j=>obtain ⟨t',rfl⟩:=ry;exact PySem.W.ne_bytes (zy I q (zZa not zNm))
  |_=>exact absurd (show false=true from hs) zX9
 |_=>cases y <;> exact absurd (show false=true from hs) zX9
theorem zXB:OpR X (compareOp .Lt) (rI0 λi j=> .bl (decide (i<j))):=zTV λ_ _ _ _ _ _ _ q=>lt_int q
theorem zXJ:OpR X (compareOp .LtE) (rI0 λi j=> .bl (decide (i<=j))):=zTV λ_ _ _ _ _ _ _ q=>le_int q
theorem zWW:OpR X (compareOp .Gt) (rI0 λi j=> .bl (decide (j<i))):=zTV λ_ _ _ _ _ _ _ q=>gt_int q
theorem zWI:OpR X (compareOp .GtE) (rI0 λi j=> .bl (decide (j<=i))):=zTV λ_ _ _ _ _ _ _ q=>ge_int q
theorem OpR.or {f:Y2} {r r':R2} (h:OpR X f r) (h':OpR X f r'):OpR X f (λx y H Q=>r x y H Q\/r' x y H Q):=by
 intro zB s σ H x y v u Q I rx ry q;rcases q with q|q
 .exact h zB s σ H x y v u Q I rx ry q
 .exact h' zB s σ H x y v u Q I rx ry q
theorem zEN (b:Expr) {op:CmpOp} (h:op≠.In:=by decide) (h2:op≠.NotIn:=by decide):behindInMarks op b=false:=by
 have e1:(op==CmpOp.In)=false:=by cases op <;> first|rfl|exact absurd rfl h
 have e2:(op==CmpOp.NotIn)=false:=by cases op <;> first|rfl|exact absurd rfl h2
 cases b <;> simp[behindInMarks,e1,e2]
theorem zTY {op:CmpOp} {r:R2} (ho:OpR X (compareOp op) r) (ha:PE X a ta) (hb:PE X b tb) (hm:behindInMarks op b=false):PE X (.Compare a [op] [b] pos) (tOp r ta tb):=by
 intro zB s σ H Q I h;exact wpAny_Compare1 (zVp ha hb I h λv u s2 x y H2 I2 rx ry q=>ho zB s2 σ H2 x y v u Q I2 rx ry q) hm
noncomputable def zNh (t:TE):TT:=λσ H Q=>t σ H λx H'=>∃ k,x=.bl k/\Q k H'
theorem zSC {op:CmpOp} {r:R2} (ho:OpR X (compareOp op) r) (ha:PE X a ta) (hb:PE X b tb) (hm:behindInMarks op b=false):PT X (.Compare a [op] [b] pos) (zNh (tOp r ta tb)):=by
 intro zB s σ H Q I h;refine wpAny_isTrue_Compare1 (thn (ha zB s σ H _ I h) λv s1 ⟨x,H1,I1,r1,q1⟩=>thn (hb zB s1 σ H1 _ I1 q1) λu s2 ⟨y,H2,I2,r2,q2⟩=>
  thn (ho zB s2 σ H2 x y v u _ I2 r1 r2 q2) λc s3 ⟨z,H3,I3,r3,k,e,q3⟩=>?_) hm
 subst e;cases r3;exact zYz ⟨H3,I3,q3⟩
def zWQ (K:Yb) (x:V) (H:Hp) (k:Bool):Prop :=
 match x with
 |.non=>k=false
 |.bl b=>k=b
 |.int i=>k=(i != 0)
 |.str y=>y.length<=sizeLine/\k=((y.length:Int) != 0)
 |.byt y=>y.size<=sizeLine/\k=((y.size:Int) != 0)
 |.ref p=>(∃ xs,SqL K H p xs/\k = !xs.isEmpty)\/(∃ xs,SqT K H p xs/\k = !xs.isEmpty) \/ ∃ kvs,H p=some (.dK kvs)/\k = !kvs.isEmpty
 |_=>False
theorem zMs {κ:Type} {kvs:List (κ × V)} {vs:List (κ × Value)} (r:KV kvs vs):(!vs.isEmpty) = !kvs.isEmpty:=by
 cases r <;> rfl
theorem zHN {xs:List V} {its:Yf} (r:zb xs its):(!its.toArray.isEmpty) = !xs.isEmpty:=by
 cases r <;> simp
theorem zEy:(sizeLine:Nat)<2 ^ 63:=by rw[sizeLine_eq];decide
theorem zVh:zXl X (λx H Q=>∃ k,zWQ X.K x H k/\Q k H):=by
 intro zB s σ H x v Q I rx h;obtain ⟨k,e,q⟩:=h;have hl:=zEy;have hs:sizeLine=16777216:=sizeLine_eq;cases x with
 |non=>
  cases rx;have e':k=false:=e;subst e';exact truthy_none ⟨H,I,q⟩
 |bl b=>
  cases rx;have e':k=b:=e;subst e';exact zYz ⟨H,I,q⟩
 |int i=>
  obtain ⟨t,rfl⟩:=rx;have e':k=(i != 0):=e;subst e';exact PySem.P.truthy_int ⟨H,I,q⟩
 |str y=>
  obtain ⟨t,rfl⟩:=rx;obtain ⟨hy,e'⟩:y.length<=sizeLine/\k=((y.length:Int) != 0):=e;subst e';exact PySem.P.truthy_str (by omega) ⟨H,I.tok _,q⟩
 |byt y=>
  obtain ⟨t,rfl⟩:=rx;obtain ⟨hy,e'⟩:y.size<=sizeLine/\k=((y.size:Int) != 0):=e;subst e';exact PySem.W.truthy_bytes (by omega) ⟨H,I.tok _,q⟩
 |ref p=>
  cases rx;have e':(∃ xs,SqL X.K H p xs/\k = !xs.isEmpty)\/(∃ xs,SqT X.K H p xs/\k = !xs.isEmpty) \/ ∃ kvs,H p=some (.dK kvs)/\k = !kvs.isEmpty:=e;rcases e' with ⟨xs,hx,e'⟩|⟨xs,hx,e'⟩|⟨kvs,hx,e'⟩
  .subst e';obtain ⟨its,r,pl,hz⟩:=I.list hx;have hlen:=r.length;exact wpAny_truthy_list pl.isList (by simp only[zXv];omega) ⟨H,I.tok _,by rw[zHN r];exact q⟩
  .subst e';obtain ⟨its,r,pl,hz⟩:=I.tuple hx;have hlen:=r.length;exact truthy_tuple pl (by simp only[zXv];omega) ⟨H,I.tok _,by rw[zHN r];exact q⟩
  .subst e';obtain ⟨hz,hS,vs,r,m⟩:kvs.length<=sizeLine/\(p==sysModules)=false /\ ∃ vs,KV kvs vs/\s.heap.DictOf (zAQ X.prog X.w) p vs:=I.hok p _ hx;have hlen:kvs.length=vs.length:=Paired.length r;exact wpAny_truthy_dict hS m (by omega) ⟨H,I.tok _,by rw[zMs r];exact q⟩
 |_=>exact (show False from e).elim
theorem zRl (ha:PE X a ta) (he:∀ whole,isTrue a X.env whole=(do let v <- whole;standAt a.pos;holding [v] (truthy v))) :
  PT X a (λσ H Q=>ta σ H λx H'=>∃ k,zWQ X.K x H' k/\Q k H'):=by
 intro zB s σ H Q I h;exact isTrue_plain (thn (ha zB s σ H _ I h) λv s1 ⟨x,H1,I1,r1,q1⟩=>zVh zB s1 σ H1 x v Q I1 r1 q1) (he _)
theorem zEq {x:V} {us:Yf} (r:zb [x] us):∃ u,us=[u]/\zp x u:=by
 cases r with
 |cons r1 r2=>cases r2;exact ⟨_,rfl,r1⟩
theorem zXC {x y:V} {us:Yf} (r:zb [x,y] us):∃ u w',us=[u,w']/\zp x u/\zp y w':=by
 cases r with
 |cons r1 r2=>
  cases r2 with
  |cons r3 r4=>cases r4;exact ⟨_,_,rfl,r1,r3⟩
theorem zOy (hc:X.calm=true):zCP X (.builtin "min") (λxs H Q=>∃ i j,xs=[.int i,.int j]/\Q (.int (if j<i then j else i)) H):=by
 intro zB s σ H xs us Q I r h;obtain ⟨i,j,rfl,q⟩:=h;obtain ⟨u,w',rfl,⟨t,rfl⟩,⟨t',rfl⟩⟩:=zXC r;refine min_two_ints (I.ok.hd hc) λh' tk k=>⟨_,H,I.kept k,?_,q⟩;by_cases hj:j<i
 .rw[zX2 hj,zX2 hj];exact ⟨_,rfl⟩
 .rw[zX5 hj,zX5 hj];exact ⟨_,rfl⟩
end
structure ObjM (h:Heap) (x dx C:Yt) (mA:Yh):Prop where
 obj:h.get? x=some (PySem.W.instObj C dx)
 ns:h.Ns1 dx mA
 ne:dx≠x
theorem zOi {h:Heap} {dx:Yt} {mA:Yh} (n:h.Ns1 dx mA):∃ od,h.get? dx=some od /\ ∀ name,PySem.W.lookIn name od=some (mA name):=by
 obtain ⟨o,es,ep,ho,hd,hk,_,hm⟩:=n;refine ⟨o,ho,λname=>?_⟩;have e:=hm name;unfold nsFind findBy at e;rw[<-Array.find?_toList]at e;unfold PySem.W.lookIn;rw[hd];dsimp only;split
 .rename_i y q;rw[q]at e;exact zZa some e
 .rename_i q;rw[q]at e;have a:es.toList.any (·.refKey)=false:=by
   rw[List.any_eq_false];intro y hy;obtain ⟨z,t,hkey⟩:=hk y (Array.mem_toList_iff.mp hy);simp[DictEntry.refKey,hkey]
  have a':¬ es.toList.any (·.refKey)=true:=by rw[a];exact zX9
  rw[zX5 a'];exact zZa some e
theorem ObjM.look {h:Heap} {x dx C:Yt} {mA:Yh} (I:ObjM h x dx C mA):∃ od,PySem.W.InstAt h x (PySem.W.instObj C dx) C (some od) /\ ∀ name,PySem.W.lookIn name od=some (mA name) :=
 let ⟨od,ho,hl⟩:=zOi I.ns
 ⟨od,⟨I.obj,rfl,rfl,ho⟩,hl⟩
theorem zFl.some_of {v:V} {o:Option Value} (r:zFl (some v) o):∃ u,o=some u/\zp v u:=by
 cases o with
 |none=>exact (show False from r).elim
 |some u=>exact ⟨u,rfl,r⟩
section
variable {P:Ym} {w:Yo} {H H':Hp} {h h':Heap} {a C dx:Yt} {fs fs':List (Str × V)}
theorem zTS (hok:HOk P w H h) (e:H a=some (.ins C dx fs)):∃ mA,ObjM h a dx C mA/\(∀ f,zFl (fs.lookup f) (mA f))/\PySem.Within mA (fs.map (·.1))/\fs.length<=1000/\H dx=some (.own a):=by
 obtain ⟨d,z,ne,ob,mA,n,r,q⟩:=(show zAU P w H h a (.ins C dx fs)from hok a _ e);exact ⟨mA,⟨ob,n,ne⟩,r,q,z,d⟩
end
structure Cls (K:Yb) (C:Yt):Prop where
 pg:PySem.W.plainGet K C Str.empty=true
 hd:PySem.W.hasDictIn K C=true
 po:PySem.W.plainOver K C=true
 sa:PySem.W.findIn K (.ref C) "__setattr__" = some (some (.builtin "object.__setattr__"))
theorem Cls.get {K:Yb} {C:Yt} (c:Cls K C) (f:Str):PySem.W.plainGet K C f=true:=c.pg
section
variable {X:Cx} {zB:Yd} {σ:St} {H:Hp} {s:Yl} {A:Yn} {E:Yc} {Q:Yc} {c:Yu} {b:Bool}
set_option genInjectivity true in
inductive TyOf (K:Yb) (H:Hp):V->Value->Prop where
 |non:TyOf K H .non (.type "NoneType")
 |bl (x:Bool):TyOf K H (.bl x) (.type "bool")
 |int (i:Int):TyOf K H (.int i) (.type "int")
 |str (x:Str):TyOf K H (.str x) (.type "str")
 |flt (x:UInt64):TyOf K H (.flt x) (.type "float")
 |lst {a:Addr} {xs:List V} (e:H a=some (.lst xs)):TyOf K H (.ref a) (.type "list")
 |frz {a:Addr} {o:Obj} {xs:List V} (e:H a=some (.frz o (.lst xs))):TyOf K H (.ref a) (.type "list")
 |tup {a:Addr} {xs:List V} (e:H a=some (.tup xs)):TyOf K H (.ref a) (.type "tuple")
 |dK {a:Addr} {kvs:List (Key × V)} (e:H a=some (.dK kvs)):TyOf K H (.ref a) (.type "dict")
 |dT {a:Addr} {kvs:List (List Key × V)} (e:H a=some (.dT kvs)):TyOf K H (.ref a) (.type "dict")
 |ins {a C dx:Addr} {fs:List (Str × V)} (e:H a=some (.ins C dx fs)) (cl:Cls K C) (ha:PySem.W.findIn K (.ref C) "__class__" = some (some (.builtin "object.__class__")))
   (hn:PySem.W.specialIn K (.builtin "object.__class__") "__get__" = some (some (.builtin "getset_descriptor.__get__"))) (htk:PySem.W.takesIn K (.builtin "object.__class__")=some true)
   (hm:PySem.W.mroIn K C (.type "object")=some true):TyOf K H (.ref a) (.ref C)
theorem zPH {x:V} {u t:Yu} (I:Inv X zB σ H s) (rx:zp x u) (ty:TyOf X.K H x t) (e:PySem.W.kitOne X.K t c=some b) (h:∀ tk,Q (.bool b) { s with toks:=tk }) :
  wpAny (model X.prog X.w) A (call (.builtin "isinstance") [u,c]) Q E s:=by
 cases ty with
 |non=>cases (show u=Value.none from rx);exact zZQ PySem.W.kitx_none I.kIn True.intro e (λz=>nomatch z) h
 |bl y=>cases (show u=Value.bool y from rx);exact zZQ PySem.W.kitx_bool I.kIn True.intro e (λz=>nomatch z) h
 |int i=>obtain ⟨t,q⟩:=(show ∃ t,u=Value.int i t from rx);cases q;exact zZQ PySem.W.kitx_int I.kIn True.intro e (λz=>nomatch z) h
 |str y=>obtain ⟨t,q⟩:=(show ∃ t,u=Value.str y t from rx);cases q;exact zZQ PySem.W.kitx_str I.kIn True.intro e (λz=>nomatch z) h
 |flt y=>obtain ⟨t,q⟩:=(show ∃ t,u=Value.float y t from rx);cases q;exact zZQ PySem.W.kitx_float I.kIn True.intro e (λz=>nomatch z) h
 | @lst a xs ea=>
  cases (show u=Value.ref a from rx);obtain ⟨_,_,n,_,h1⟩:=(show zAU X.prog X.w H s.heap a (.lst xs)from I.hok a _ ea);exact zZQ PySem.W.kitx_list I.kIn ⟨_,h1,rfl⟩ e (λz=>nomatch z) h
 | @frz a ob xs ea=>
  cases (show u=Value.ref a from rx);obtain ⟨_,_,_,n,_,h1⟩:=(show zAU X.prog X.w H s.heap a (.frz ob (.lst xs))from I.hok a _ ea);exact zZQ PySem.W.kitx_list I.kIn ⟨_,h1,rfl⟩ e (λz=>nomatch z) h
 | @tup a xs ea=>
  cases (show u=Value.ref a from rx);obtain ⟨_,_,_,p⟩:=(show zAU X.prog X.w H s.heap a (.tup xs)from I.hok a _ ea);obtain ⟨o,h1,h2,_⟩:=p;exact zZQ PySem.W.kitx_tuple I.kIn ⟨o,h1,h2⟩ e (λz=>nomatch z) h
 | @dK a kvs ea=>
  cases (show u=Value.ref a from rx);obtain ⟨_,_,vs,_,p⟩:=(show zAU X.prog X.w H s.heap a (.dK kvs)from I.hok a _ ea);obtain ⟨o,es,ep,h1,h2,_⟩:=p;exact zZQ PySem.W.kitx_dict I.kIn ⟨o,h1,h2.1⟩ e (λz=>nomatch z) h
 | @dT a kvs ea=>
  cases (show u=Value.ref a from rx);obtain ⟨_,_,xs,_,o,es,ep,h1,h2,_⟩:=(show zAU X.prog X.w H s.heap a (.dT kvs)from I.hok a _ ea);exact zZQ PySem.W.kitx_dict I.kIn ⟨o,h1,h2.1⟩ e (λz=>nomatch z) h
 | @ins a C dx fs ea cl ha hn htk hm=>
  cases (show u=Value.ref a from rx);obtain ⟨mA,O,_⟩:=zTS I.hok ea;obtain ⟨od,J,_⟩:=O.look;exact zZQ (PySem.W.kitx_own (cl.get _) cl.hd ha hn htk hm) I.kIn J e (λz=>nomatch z) h
end
structure Room (k:Nat) (A:Yn):Prop where
 hd:A.handled=none
 dp:A.depth+3*k+5<recursionLimit
 un:A.units+16*k+200<cLine
theorem Room.mono {j k:Nat} {A:Yn} (r:Room k A) (h:j<=k):Room j A:=⟨r.hd,by have:=r.dp;omega,by have:=r.un;omega⟩
theorem Room.deeper {k:Nat} {A:Yn} (r:Room (k+1) A) (env:Env):Room k (A.deeper env) :=
 ⟨r.hd,by have:=r.dp;show A.depth+1+3*k+5<_;omega,by have:=r.un;show A.units+3+16*k+200<_;omega⟩
theorem Room.depth {k:Nat} {A:Yn} (r:Room k A):A.depth<recursionLimit:=by have:=r.dp;omega
theorem Room.units {k:Nat} {A:Yn} (r:Room k A):A.units+64<cLine:=by have:=r.un;omega
theorem Room.units0 {k:Nat} {A:Yn} (r:Room k A):A.units<cLine:=by have:=r.un;omega
noncomputable def zXY:TA:=λ_ H Q=>Q [] H
noncomputable def zV4 (ta:TE) (tr:TA):TA:=λσ H Q=>ta σ H λx H1=>tr σ H1 λxs H2=>Q (x::xs) H2
section
variable {X:Cx} {e:Expr} {es:Yi} {te:TE} {t:TA} {pos:Pos}
theorem zE8:PA X [] zXY:=λ_ _ _ _ H Q I h=>Calls.spliced_nil ⟨[],H,I,.nil,h⟩
theorem zC1 (ha:PE X e te) (hr:PA X es t) (hs:starEach (e::es) X.env=(false,eval e X.env)::starEach es X.env:=by rfl):PA X (e::es) (zV4 te t):=by
 intro pos zB s σ H Q I h;rw[hs];show wpAny _ _ (spliced ((false,eval e X.env)::backTo pos (starEach es X.env))) _ _ s;refine Calls.spliced_cons (thn (ha zB s σ H _ I h) λu s1 ⟨x,H1,I1,r1,q1⟩=>?_);exact thn (hr pos zB s1 σ H1 _ I1 q1) λus s2 ⟨xs,H2,I2,r2,q2⟩=>⟨x::xs,H2,I2,.cons r1 r2,q2⟩
noncomputable def zXW (t:TA):TE:=λσ H Q=>t σ H λxs H1=>xs.length<=sizeLine /\ ∀ p,H1 p=none->Q (.ref p) (upd H1 p (.tup xs))
noncomputable def zXS (t:TA):TE:=λσ H Q=>t σ H λxs H1=>xs.length<=sizeLine /\ ∀ p,H1 p=none->Q (.ref p) (upd H1 p (.lst xs))
theorem zVT {x1} (h:PA X es t):PE X (.Tuple es x1 pos) (zXW t):=by
 intro zB s σ H Q I hq;refine wpAny_Tuple_spliced (thn (h pos zB s σ H _ I hq) λus s1 ⟨xs,H1,I1,r,z,q⟩=>⟨by rw[<-r.length];exact z,?_⟩);have hf:H1 s1.heap.objs.size=none:=I1.hok.fresh (zXt _);refine ⟨.ref s1.heap.objs.size,upd H1 s1.heap.objs.size (.tup xs),I1.laid (t':=s1.toks) (λb u e=>zXo _ e) (zXt _) ?_,rfl,q _ hf⟩;exact ⟨z,us,r,⟨_,zXx _ rfl,rfl,⟨_,rfl⟩,rfl⟩⟩
theorem zVO (h:PA X es t):PE X (.List es pos) (zXS t):=by
 intro zB s σ H Q I hq;refine wpAny_List_spliced (thn (h pos zB s σ H _ I hq) λus s1 ⟨xs,H1,I1,r,z,q⟩=>⟨by rw[<-r.length];exact z,?_⟩);have hf:H1 s1.heap.objs.size=none:=I1.hok.fresh (zXt _);refine ⟨.ref s1.heap.objs.size,upd H1 s1.heap.objs.size (.lst xs),I1.laid (t':=s1.toks) (λb u e=>zXo _ e) (zXt _) ?_,rfl,q _ hf⟩;exact ⟨z,us,0,r,zXx _ rfl⟩
end
noncomputable abbrev Sp:=List V->Hp->VK->XK->Prop
noncomputable abbrev CXT:=List Env->Hp->Shared->XK->Value->Shared->Prop
structure Env0 (P:Ym) (w:Yo) (K:Yb) (mg:Yh) (base:Heap) (A:Yn) (outer:List Env) (s:Yl) (H:Hp):Prop where
 frames:A.frames=some outer
 mod:Mod K mg base
 bs:∀ b o,base.get? b=some o->s.heap.get? b=some o/\H b=none
 bsz:base.objs.size<=s.heap.objs.size
 funs:s.heap.FunFrames base outer
 frf:∀ b∈frs outer,H b=none
 hok:HOk P w H s.heap
 bare:AllBare s.gens
def CE (outer:List Env) (P:Ym) (w:Yo) (H:Hp) (s:Yl) (Q:VK) (u:Yu) (s':Yl):Prop :=
 ∃ v H',s'.os=s.os/\AllBare s'.gens/\Un (frs outer) [] H H' s.heap s'.heap/\HOk P w H' s'.heap/\zp v u/\Q v H'
def CR (CX:CXT) (outer:List Env) (P:Ym) (w:Yo) (H:Hp) (s:Yl) (Q:VK) (E:XK) (r:Result) (s':Yl):Prop :=
 match r with
 |.ok (.ret u)=>CE outer P w H s Q u s'
 |.ok _=>False
 |.error e=>CX outer H s E e s'
structure FnOk (P:Ym) (w:Yo) (K:Yb) (mg:Yh) (base:Heap) (CX:CXT) (k:Nat) (f:Yt) (fd:Yz) (ps:Yk) (sp:Sp):Prop where
 len:∀ vs H Q E,sp vs H Q E->vs.length=ps.length
 run:∀ (A:Yn) (outer:List Env) (s:Yl) (H:Hp) (args:Args) (us:Yf) (vs:List V) (Q:VK) (E:XK),Room k A->Env0 P w K mg base A outer s H->BindsTo s fd args (ps.zip us)->zb vs us->sp vs H Q E ->
  codeAny (model P w) A (.call (.ref f) args) (CR CX outer P w H s Q E) s
theorem FnOk.imp {P:Ym} {w:Yo} {K:Yb} {mg:Yh} {base:Heap} {CX:CXT} {k:Nat} {f:Yt} {fd:Yz} {ps:Yk} {sp sp':Sp} (F:FnOk P w K mg base CX k f fd ps sp)
  (h:∀ vs H Q E,sp' vs H Q E->sp vs H Q E):FnOk P w K mg base CX k f fd ps sp' :=
 ⟨λvs H Q E q=>F.len vs H Q E (h _ _ _ _ q),λA outer s H args us vs Q E hr he hb hv hs=>F.run A outer s H args us vs Q E hr he hb hv (h _ _ _ _ hs)⟩
section
variable {X:Cx} {zB:Yd} {σ:St} {H:Hp} {s s':Yl}
theorem Inv.env0 (I:Inv X zB σ H s):Env0 X.prog X.w X.K X.mg X.base X.A X.stack s H :=
 ⟨I.ok.frames,I.ok.mod,I.bs,zYE I.ok.bsz I.sz,I.stack,I.stkFree,I.hok,I.bare⟩
theorem Inv.after {Q:VK} {u:Yu} (I:Inv X zB σ H s) (h:CE X.stack X.prog X.w H s Q u s'):EP X zB σ Q u s':=by
 obtain ⟨v,H',os,bare,un,hok,r,q⟩:=h;obtain ⟨hh,g,d,t,os'⟩:=s';obtain rfl:os'=s.os:=os;exact ⟨v,H',I.call (h':=hh) (g':=g) (d':=d) (t':=t) (ch:=[]) un hok bare (λb z=>absurd z (by simp)),r,q⟩
end
noncomputable def zXH (sp:Sp) (dvs:List V) (E:XK) (t:TA):TE:=λσ H Q=>t σ H λvs H1=>sp (vs++dvs) H1 Q E
def zHl (K:Yb) (fd:Yz) (ps:Yk) (ds:Yf):Prop :=
 ∀ (s:Yl) (us:Yf),K.In s.heap->(us++ds).length=ps.length->BindsTo s fd ⟨us,[]⟩ (ps.zip (us++ds))
theorem zHl.all {K:Yb} {fd:Yz} {ps:Yk} (h:∀ us:List Value,us.length=ps.length->bindArgs fd ⟨us,[]⟩=pure (ps.zip us)):zHl K fd ps []:=λs us _ hl=>by
 rw[zYX]at hl ⊢;exact .of_eq (h us hl)
def zNL (CX:CXT) (X:Cx) (E:XK):Prop:=∀ (zB:Yd) (σ:St) (H:Hp) (s:Yl) (e:Yu) (s':Yl),Inv X zB σ H s->CX X.stack H s E e s'->X.xe e s'
section
variable {X:Cx} {CX:CXT} {k:Nat} {f C:Yt} {fd:Yz} {ps:Yk} {sp:Sp} {dvs:List V} {ds:Yf} {E:XK} {x m:Str} {p pos apos:Pos} {e o:Expr} {es:Yi} {ta:TE} {t:TA}
theorem zVe {zB:Yd} {σ:St} {H:Hp} {s:Yl} {Q:VK} {us:Yf} {vs:List V} (F:FnOk X.prog X.w X.K X.mg X.base CX k f fd ps sp) (hr:Room k X.A) (hb:zHl X.K fd ps ds) (hd:zb dvs ds) (hx:zNL CX X E)
  (I:Inv X zB σ H s) (r:zb vs us) (h:sp (vs++dvs) H Q E):wpAny (model X.prog X.w) X.A (call (.ref f) us) (EP X zB σ Q) X.xe s:=by
 have r2:zb (vs++dvs) (us++ds):=r.append hd;have hl:(us++ds).length=ps.length:=by rw[<-r2.length];exact F.len _ _ _ _ h
 refine wpAny_call (codeAny_mono (F.run X.A X.stack s H ⟨us,[]⟩ (us++ds) (vs++dvs) Q E hr I.env0 (hb s us I.kIn hl) r2 h) λr s' hq=>?_);cases r with
 |error e=>exact hx zB σ H s e s' I hq
 |ok fl=>
  cases fl with
  |ret u=>exact I.after hq
  |next=>exact False.elim hq
  |brk=>exact False.elim hq
  |cont=>exact False.elim hq
theorem zTW (F:FnOk X.prog X.w X.K X.mg X.base CX k f fd ps sp) (hr:Room k X.A) (hg:Gl X x) (hm:X.mg x=some (.ref f)) (hk:PySem.W.keepIn X.K (.ref f)=true) (hb:zHl X.K fd ps ds) (hd:zb dvs ds) (hx:zNL CX X E)
  (ha:PA X (e::es) t) (hdb:(x==("__debug__" : Str))=false:=by decide) (he:starEach (e::es) X.env=(false,eval e X.env)::starEach es X.env:=by rfl) (hpl:(backTo pos (starEach es X.env)).any (·.1)=false:=by rfl) :
  PE X (.Call (.Name x p) (e::es) [] pos) (zXH sp dvs E t):=by
 intro zB s σ H Q I h;refine wpAny_Call_Name_kw (zSM I hg hm ?_ hdb);refine PySem.W.callWith_K (h₀:=X.base) I.ok.mod.kin hk (thn (ha pos zB s σ H _ I h) λus s1 ⟨vs,H1,I1,r,q⟩=>⟨I1.kIn,?_⟩) he hpl;exact zVe F hr hb hd hx I1 r q
end
structure FnScope (N P:Yk) (sc:Y0):Prop where
 kind:sc.kind=.function
 co:sc.isCoroutine=false
 gen:sc.isGenerator=false
 nd:N.Nodup
 pre:N.take P.length=P
 par:∀ x∈P,sc.names.lookup x=some .local\/sc.names.lookup x=some .cell
 nofree:∀ y∈sc.names,y.2≠.free
theorem zIu {kindOf:Str->Option NameKind} {x:Str}:∀ {binds:List (Str × Value)} {m:Yh},(∀ v,(x,v)∉binds)->bindL kindOf binds m x=m x
 |[],_,_=>rfl
 | (n,v)::r,m,h=>by
  unfold bindL;rw[zIu λw hw=>h w (zX0 _ hw)];split
  .have:x≠n:=by rintro rfl;exact h v zX1
   simp[this]
  .rfl
theorem zJF {kindOf:Str->Option NameKind} {x:Str}:∀ {binds:List (Str × Value)} {m:Yh},(∀ v,(x,v)∉binds)->bindC kindOf binds m x=m x
 |[],_,_=>rfl
 | (n,v)::r,m,h=>by
  unfold bindC;rw[zJF λw hw=>h w (zX0 _ hw)];split
  .rfl
  .have:x≠n:=by rintro rfl;exact h v zX1
   simp[this]
theorem zI5 {kindOf:Str->Option NameKind} {x:Str} {v:Yu}:∀ {P:Yk} {vs:Yf} {i:Nat} {m:Yh},P.Nodup->P[i]?=some x->vs[i]?=some v->kindOf x=some .local ->
  bindL kindOf (P.zip vs) m x=some v
 |[],_,_,_,_,h,_,_=>by simp at h
 |_::_,[],_,_,_,_,h,_=>by simp at h
 |p::P,w::vs,0,m,nd,h1,h2,hk=>by
  simp at h1 h2;subst h1;subst h2;show bindL kindOf ((p,w)::P.zip vs) m p=_;unfold bindL;rw[zIu λv hv=>(zY7.mp nd).1 (List.of_mem_zip hv).1,zX2 hk];simp
 |p::P,w::vs,i+1,m,nd,h1,h2,hk=>by
  show bindL kindOf ((p,w)::P.zip vs) m x=_;unfold bindL;exact zI5 (i:=i) (zY7.mp nd).2 (by simpa using h1) (by simpa using h2) hk
theorem zJS {kindOf:Str->Option NameKind} {x:Str} {v:Yu}:∀ {P:Yk} {vs:Yf} {i:Nat} {m:Yh},P.Nodup->P[i]?=some x->vs[i]?=some v->kindOf x≠some .local ->
  bindC kindOf (P.zip vs) m x=some v
 |[],_,_,_,_,h,_,_=>by simp at h
 |_::_,[],_,_,_,_,h,_=>by simp at h
 |p::P,w::vs,0,m,nd,h1,h2,hk=>by
  simp at h1 h2;subst h1;subst h2;show bindC kindOf ((p,w)::P.zip vs) m p=_;unfold bindC;rw[zJF λv hv=>(zY7.mp nd).1 (List.of_mem_zip hv).1,zX5 hk];simp
 |p::P,w::vs,i+1,m,nd,h1,h2,hk=>by
  show bindC kindOf ((p,w)::P.zip vs) m x=_;unfold bindC;exact zJS (i:=i) (zY7.mp nd).2 (by simpa using h1) (by simpa using h2) hk
noncomputable def start (N:Yk) (vs:List V):St:=vs.map some++List.replicate (N.length-vs.length) none
noncomputable def zMv (CX:CXT) (P:Ym) (w:Yo) (K:Yb) (mg:Yh) (base:Heap) (N:Yk) (qual:Str) (scope:Y0) (f:Yt) (cd:Yu) (A:Yn) (outer:List Env) (s:Yl) (H:Hp) (E:XK):Cx where
 prog:=P
 w:=w
 K:=K
 mg:=mg
 base:=base
 A:=A.deeper (envOfC qual scope s.heap.objs.size f cd)
 N:=N
 s₀:=s
 H₀:=H
 env:=envOfC qual scope s.heap.objs.size f cd
 outer:=outer
 stack:=envOfC qual scope s.heap.objs.size f cd::outer
 ex:=[]
 calm:=true
 fn:=λ_=>true
 pn:=[]
 xe:=λe s'=>wpAny (model P w) (A.deeper (envOfC qual scope s.heap.objs.size f cd)) (leaving (envOfC qual scope s.heap.objs.size f cd) e) (λ_ s''=>CX outer H s E e s'') (λe' s''=>CX outer H s E e' s'') s'
theorem zHQ {sc:Y0} {n:Nat} {x:Str} (h:sc.names.lookup x=some .cell):∃ c,(cellsFrom n sc.names []).lookup x=some c:=by
 have q:=PySem.W.cellsFrom_some sc.names n [] (.inl h);exact Option.isSome_iff_exists.mp q
theorem zOV {CX:CXT} {P:Ym} {w:Yo} {K:Yb} {mg:Yh} {base:Heap} {N ps:Yk} {qual:Str} {scope:Y0} {f:Yt} {cd:Yu} {A:Yn} {outer:List Env} {s s1:Yl} {H:Hp} {E:XK} {us:Yf} {vs:List V}
  (S:FnScope N ps scope) (hd:A.handled=none) (e0:Env0 P w K mg base A outer s H) (hl:vs.length=ps.length) (r:zb vs us)
  (x:InCallC s s.heap.objs.size (bindL (envOfC qual scope s.heap.objs.size f cd).kindOf (ps.zip us) λ_=>none) (cellsFrom (s.heap.objs.size+1) scope.names []) (bindC (envOfC qual scope s.heap.objs.size f cd).kindOf (ps.zip us) λ_=>none) s1) :
  Inv (zMv CX P w K mg base N qual scope f cd A outer s H E) [] (start N vs) H s1:=by
 have hpl:ps.length<=N.length:=by have:=zZa List.length S.pre;rw[zZB]at this;omega
 obtain ⟨h1,tk,rfl,hk⟩:=x.done;have noA:∀ b:Addr,b∉(zMv CX P w K mg base N qual scope f cd A outer s H E).ex:=λb z=>absurd (show b∈([]:List Addr)from z) (by simp)
 refine ⟨⟨e0.mod,S.kind,rfl,rfl,zXt _,λy z c h1 h2=>?_,λy hy=>?_,λy c _ h=>?_,λ_=>hd,Around.frames_deeper e0.frames,.inr ⟨rfl,rfl⟩,λb z=>absurd z (noA b),e0.bs,e0.bsz,λb _ _=>noA b,λb z=>absurd z (noA b),e0.funs,e0.frf⟩,
  rfl,e0.bare,Un.kept hk,⟨_,x.toInCall.ns,λi y v h1 h2 h3=>?_⟩,λy c h=>⟨_,x.cell y c h⟩,e0.hok.fresh (zXt _),λy c h=>?_,λp hp=>absurd (show p∈([]:List (Addr × Obj))from hp) (by simp),e0.hok.kept hk,?_⟩
 .exact name_of_addr x.apart (zYp h1) (zYp h2)
 .have hy:scope.names.lookup y=some .cell\/scope.names.lookup y=some .free:=hy;rcases hy with hy|hy
  .exact zHQ hy
  .exact absurd rfl (S.nofree _ (zYp hy))
 .exact Nat.le_of_lt (x.above y c (zYp h))
 .have hi:i<vs.length:=by
   unfold start at h2;by_cases hi:i<vs.length
   .exact hi
   .rw[zYx (by simpa using hi)]at h2;rw[List.getElem?_replicate]at h2;split at h2 <;> cases h2
  have ha:vs[i]?=some v:=by
   unfold start at h2;rw[zXu (by simpa using hi),zYA]at h2;cases e:vs[i]? with
   |none=>rw[e]at h2;cases h2
   |some a=>rw[e]at h2;cases h2;rfl
  obtain ⟨u,hu,rv⟩:=r.get ha;have hp:ps[i]?=some y:=by
   rw[<-S.pre,List.getElem?_take_of_lt (by omega)];exact h1
  have ndP:ps.Nodup:=by rw[<-S.pre];exact S.nd.sublist (List.take_sublist _ _)
  refine ⟨u,rv,?_⟩;rcases S.par y (zYe hp)with k|k
  .exact .inl ⟨k,zI5 ndP hp hu k⟩
  .obtain ⟨c,e⟩:=zHQ (n:=s.heap.objs.size+1) k;refine .inr ⟨.inl k,c,e,?_⟩;have q:=x.cell y c e;rw[zJS ndP hp hu (by show scope.names.lookup y≠_;rw[k];decide)]at q;exact q
 .exact e0.hok.fresh (Nat.le_of_lt (x.above y c (zYp h)))
 .unfold start;show _=N.length;rw[zX3,zXw,List.length_replicate];omega
theorem zWE {CX:CXT} {P:Ym} {w:Yo} {K:Yb} {mg:Yh} {base:Heap} {k:Nat} {f:Yt} {name qual:Str} {params:Arguments} {body:Yy} {scope:Y0} {dV kV doc pm cdv ct oc:Yu} {an od:Option Addr}
  {osl:Array (Option Value)} {N ps:Yk} {sp:Sp} (lk:K.lookup f=some ⟨oc,od,.func (PySem.W.fnOf name qual params body scope dV kV doc pm an cdv ct),osl⟩) (hcd:PySem.W.codeIn K cdv qual=true) (S:FnScope N ps scope)
  (len:∀ vs H Q E,sp vs H Q E->vs.length=ps.length)
  (hbody:∀ (A:Yn) (outer:List Env) (s:Yl) (H:Hp) (vs:List V) (Q:VK) (E:XK),Room k (A.deeper (envOfC qual scope s.heap.objs.size f cdv))->sp vs H Q E ->
   ∃ t,PSs (zMv CX P w K mg base N qual scope f cdv A outer s H E) body t/\t { nx:=λ_ H'=>Q .non H',rt:=Q } (start N vs) H) :
  FnOk P w K mg base CX (k+1) f (PySem.W.fnOf name qual params body scope dV kV doc pm an cdv ct) ps sp:=by
 refine ⟨len,λA outer s H args us vs Q E hr e0 hb r hsp=>?_⟩;have hl:=len _ _ _ _ hsp;have KX:K.In s.heap:=e0.mod.kin.keeps λb o e=>(e0.bs b o e).1;have lim:s.heap.NoLimit:=e0.mod.nolimit.keeps λb o e=>(e0.bs b o e).1;have hkind:∀ y∈ps.zip us,scope.names.lookup y.1=some .local\/(scope.names.lookup y.1=some .cell/\((cellsFrom (s.heap.objs.size+1) scope.names []).lookup y.1).isSome=true):=λ⟨n,v⟩ hy=>by
  rcases S.par n (List.of_mem_zip hy).1 with q|q
  .exact .inl q
  .exact .inr ⟨q,PySem.W.cellsFrom_some _ _ _ (.inl q)⟩
 refine codeAny_call_function hr.depth (KX _ _ lk) rfl S.co S.gen rfl (PySem.W.codeRec_of KX hcd) (hb _ _ _ _ ?_);refine wpAny_newFunctionEnv_cells S.kind hkind λenv he s1 x=>?_;subst he;refine ⟨lim.keeps x.toInCall.keep,codeAny_func ?_⟩;obtain ⟨t,ht,hq⟩:=hbody A outer s H vs Q E (hr.deeper _) hsp;have I:Inv (zMv CX P w K mg base N qual scope f cdv A outer s H E) [] (start N vs) H s1:=zOV S hr.hd e0 hl r x;refine zYJ (ht [] s1 (start N vs) H _ I hq) (λfl s' hs=>?_) λe s' hs=>hs;have fin:∀ {σ':St} {H':Hp} {v:V} {u:Yu},Inv (zMv CX P w K mg base N qual scope f cdv A outer s H E) [] σ' H' s'->zp v u->Q v H'->CE outer P w H s Q u s' :=
  λ{σ' H' v u} J rv q=>⟨v,H',J.os,J.bare,J.base,J.hok,rv,q⟩
 cases fl with
 |ret u=>
  obtain ⟨v,σ',H',J,rv,q⟩:=hs;exact fin J rv q
 |next=>
  obtain ⟨σ',H',J,q⟩:=hs;exact fin (v:=V.non) (u:=Value.none) J rfl q
 |brk=>
  obtain ⟨_,_,_,q⟩:=hs;exact False.elim q
 |cont=>
  obtain ⟨_,_,_,q⟩:=hs;exact False.elim q
section
variable {X:Cx} {x:Str} {p pos:Pos} {e:Expr} {es:Yi} {t:TA} {id T:String} {r:List V->Hp->VK->Prop}
noncomputable def tCB (r:List V->Hp->VK->Prop) (t:TA):TE:=λσ H Q=>t σ H λvs H1=>r vs H1 Q
theorem zK5 (hc:zCP X (.builtin id) r) (hg:Gl X x) (hm:X.mg x=none) (hv:bootBuiltins x=some (.builtin id)) (ha:PA X (e::es) t) (hn:x ≠ "__name__" := by decide) (hdb:(x==("__debug__" : Str))=false:=by decide)
  (he:starEach (e::es) X.env=(false,eval e X.env)::starEach es X.env:=by rfl) (hpl:(backTo pos (starEach es X.env)).any (·.1)=false:=by rfl):PE X (.Call (.Name x p) (e::es) [] pos) (tCB r t):=by
 intro zB s σ H Q I h;refine wpAny_Call_Name_kw (zDV I hg hm hv ?_ hn hdb);exact PyProof.Rows.callWith_builtin1 (thn (ha pos zB s σ H _ I h) λus s1 ⟨vs,H1,I1,r1,q1⟩=>hc zB s1 σ H1 vs us Q I1 r1 q1) he hpl
theorem zDO (hc:zCP X (.type T) r) (hg:Gl X x) (hm:X.mg x=none) (hv:bootBuiltins x=some (.type T)) (ha:PA X (e::es) t) (hn:x ≠ "__name__" := by decide) (hdb:(x==("__debug__" : Str))=false:=by decide)
  (he:starEach (e::es) X.env=(false,eval e X.env)::starEach es X.env:=by rfl) (hpl:(backTo pos (starEach es X.env)).any (·.1)=false:=by rfl):PE X (.Call (.Name x p) (e::es) [] pos) (tCB r t):=by
 intro zB s σ H Q I h;refine wpAny_Call_Name_kw (zDV I hg hm hv ?_ hn hdb);exact PyProof.Rows.callWith_type1 (thn (ha pos zB s σ H _ I h) λus s1 ⟨vs,H1,I1,r1,q1⟩=>hc zB s1 σ H1 vs us Q I1 r1 q1) he hpl
end
end L2
namespace HT
open PySem PyProof.Rows
section
variable {prog:Ym} {w:Yo} {A:Yn} {E:Yc} {s:Yl}
theorem zTQ {t b:Yt} {vs ws:Yf} {Q:Yc} (ht:IsTup s.heap t vs.toArray) (hb:IsTup s.heap b ws.toArray) (hv:vs≠[])
  (h1:ws=[]->Q (.ref t) s) (h2:ws≠[]->Q (.ref s.heap.objs.size) { s with heap:=s.heap.push { cls:=.type "tuple", data:=.seq (vs++ws).toArray } })
  (hsz:vs.length+ws.length<=sizeLine):wpAny (model prog w) A (binaryOp .Add (.ref t) (.ref b)) Q E s:=by
 obtain ⟨⟨cls,dd,data,sl⟩,ho,hc,n,hd⟩:=id ht;obtain ⟨⟨cls2,dd2,data2,sl2⟩,ho2,hc2,n2,hd2⟩:=id hb;simp only at hc hd hc2 hd2;subst hc hd hc2 hd2;have e:vs.toArray++ws.toArray=(vs++ws).toArray:=by simp
 by_cases hw:ws=[]
 .exact concat_meets ⟨_,ho,rfl⟩ ⟨_,ho2,rfl⟩ noFill_tuple_add seq_tuple_add PySem.F.slot_tuple_add PySem.F.entry_tuple_add (PySem.F.args_tuple_add_2 _ _)
   (tuple_addW1 t b vs.toArray ws.toArray n n2 dd dd2 sl sl2 (by simpa using hv) (by simp[hw])) ⟨ho,ho2,h1 hw⟩
 .refine concat_meets ⟨_,ho,rfl⟩ ⟨_,ho2,rfl⟩ noFill_tuple_add seq_tuple_add PySem.F.slot_tuple_add PySem.F.entry_tuple_add (PySem.F.args_tuple_add_2 _ _)
   (tuple_addW2 t b vs.toArray ws.toArray n n2 dd dd2 sl sl2 (by simpa using hv) (by simpa using hw) (by rw[zXv,zXv];exact hsz)) ⟨ho,ho2,?_⟩
  rw[e];exact h2 hw
noncomputable def sIx (n d:Nat):Option Int->Nat
 |none=>d
 |some v=>if v<0 then (v+(n:Int)).toNat else min v.toNat n
theorem zGw (n d k:Nat):sIx n d (some (k:Int))=min k n:=by
 show (if (k:Int)<0 then ((k:Int)+(n:Int)).toNat else min (k:Int).toNat n)=min k n;rw[zX5 (by omega),zaX]
theorem zU9 (n d:Nat) (hd:d<=n) (o:Ys):sIx n d o<=n:=by
 cases o with
 |none=>exact hd
 |some v=>
  show (if v<0 then (v+(n:Int)).toNat else min v.toNat n)<=n;by_cases hv:v<0
  .rw[zX2 hv];omega
  .rw[zX5 hv];exact Nat.min_le_right _ _
theorem zN4 (v:Int) (n d:Nat):(if v<0 then max (v+(n:Int)) 0 else min v (n:Int))=((sIx n d (some v):Nat):Int):=by
 show (if v<0 then max (v+(n:Int)) 0 else min v (n:Int))=(((if v<0 then (v+(n:Int)).toNat else min v.toNat n):Nat):Int);by_cases hv:v<0
 .simp only[zX2 hv];omega
 .simp only[zX5 hv];omega
theorem zMB (lo hi:Ys) (n:Nat):Builtin.Slice.sliceAdjust lo hi 1 (n:Int)=(((sIx n 0 lo:Nat):Int),((sIx n n hi:Nat):Int)):=by
 have h1:¬ ((1:Int)<0):=by omega
 unfold Builtin.Slice.sliceAdjust;simp only[h1,if_false];refine Prod.ext ?_ ?_
 .cases lo with
  |none=>rfl
  |some v=>exact zN4 v n 0
 .cases hi with
  |none=>rfl
  |some v=>exact zN4 v n n
theorem zMV (i j:Nat):Builtin.Slice.slicePlaces (i:Int) (j:Int) 1=j-i:=by
 unfold Builtin.Slice.slicePlaces;have h1:(1:Int)>0:=by omega
 simp only[h1,if_true,Int.ediv_one];split <;> omega
theorem zHt {v:Yu} {o:Ys} {Q:Option Int->Shared->Prop} (p:IsPart v o) (h:Q o s):wpAny (model prog w) A (Builtin.Slice.slicePartIndex v) Q E s:=by
 cases p with
 |none=>exact slicePart_none h
 |int i t=>exact slicePart_int h
theorem zDL {sl:Yt} {vl vu:Yu} {lo hi:Ys} {n:Nat} {Q:Int × Int × Nat->Shared->Prop} (hs:s.heap.IsSliceOf sl vl vu .none) (pl:IsPart vl lo) (pu:IsPart vu hi)
  (h:Q (((sIx n 0 lo:Nat):Int),1,sIx n n hi-sIx n 0 lo) s):wpAny (model prog w) A (Builtin.Slice.sliceApplied (.ref sl) (pure (n:Int))) Q E s:=by
 obtain ⟨os,hos,hcs,hds⟩:=id hs;unfold Builtin.Slice.sliceApplied Builtin.Slice.sliceFields;refine zXn (zXn (zYS hos hds (x:=vl) rfl (zXn (zYS hos hds (x:=vu) rfl (zXn (zYS hos hds (x:=.none) rfl (zXp ?_)))))));refine zXn (slicePart_none ?_);show wpAny _ _ (if ((1:Int)==0)=true then _ else _) _ _ s;rw[zX5 (by decide)];refine zXn (zHt pl (zXn (zHt pu (zXn (zXp ?_)))));show wpAny _ _ (match Builtin.Slice.sliceAdjust lo hi 1 (n:Int) with|(lo,hi)=>pure (lo,(1:Int),Builtin.Slice.slicePlaces lo hi 1)) _ _ s;rw[zMB lo hi n];show wpAny _ _ (pure (((sIx n 0 lo:Nat):Int),(1:Int),Builtin.Slice.slicePlaces ((sIx n 0 lo:Nat):Int) ((sIx n n hi:Nat):Int) 1)) _ _ s;rw[zMV];exact zXp h
theorem zRL (xs:Yp) (i k:Nat):((List.range k).filterMap λ(m:Nat)=>xs[((i:Int)+(m:Int)*1).toNat]?).toArray=((xs.toList.drop i).take k).toArray:=by
 have e:(λ(m:Nat)=>xs[((i:Int)+(m:Int)*1).toNat]?)=λm=>xs[i+m]?:=by
  funext m;have:((i:Int)+(m:Int)*1).toNat=i+m:=by omega
  rw[this]
 rw[e];have:=pick_run xs i k;rw[List.filterMap_map]at this;have e2:((λx=>xs[x]?)∘λx=>i+x)=λm=>xs[i+m]?:=rfl;rw[e2]at this;rw[this]
theorem zFM {t sl:Yt} {items:Yp} {vl vu:Yu} {lo hi:Ys} {Q:Yc} (ht:IsTup s.heap t items) (hs:s.heap.IsSliceOf sl vl vu .none) (pl:IsPart vl lo) (pu:IsPart vu hi)
  (hw:¬ (sIx items.size 0 lo=0/\sIx items.size items.size hi=items.size))
  (h:Q (.ref s.heap.objs.size) { s with heap:=s.heap.push { cls:=.type "tuple", data:=.seq ((items.toList.drop (sIx items.size 0 lo)).take (sIx items.size items.size hi-sIx items.size 0 lo)).toArray } })
  (hsz:items.size<=sizeLine):wpAny (model prog w) A (getItem (.ref t) (.ref sl)) Q E s:=by
 have htake:sizeOk (.seq ((items.toList.drop (sIx items.size 0 lo)).take (sIx items.size items.size hi-sIx items.size 0 lo)).toArray):=by
  show ((items.toList.drop (sIx items.size 0 lo)).take (sIx items.size items.size hi-sIx items.size 0 lo)).toArray.size<=sizeLine;rw[zXv,zZB,List.length_drop,zYW];omega
 have hj:sIx items.size items.size hi<=items.size:=zU9 _ _ (zXt _) hi;obtain ⟨os,hos,hcs,hds⟩:=id hs;have hTs:s.TypeIs (.ref sl) "slice" := ⟨os,hos,hcs⟩;unfold getItem;try with_reducible refine zYg ?_
 first|refine zXn (zXp ?_)|skip
 refine zXn (wpAny_sequenceKey ht.typeIs (by decide) ?_)
 refine zXn (zYP (name:=Str.ofString "__getitem__") ht.typeIs zZL
  (zYQ zZL ht.typeIs entry_tuple_getitem ?_ (args_tuple_getitem _ _)))
 show wpAny _ _ (Builtin.Tuple.tupleItemsOf (.ref t) >>= _) _ _ s;refine zXn (tupleItemsOf_ ht ?_);refine zXn (wpAny_typeOf hTs ?_);rw[zX2 (by decide)];refine zXn (zDL hs pl pu ?_);have hno:¬ ((((sIx items.size 0 lo:Nat):Int)==0&&(1:Int)==1&&(sIx items.size items.size hi-sIx items.size 0 lo)==items.size)=true):=by
  intro q;rw[zYN,zYN]at q;have q1:((sIx items.size 0 lo:Nat):Int)=0:=eq_of_beq q.1.1;have q2:sIx items.size items.size hi-sIx items.size 0 lo=items.size:=eq_of_beq q.2;exact hw ⟨by omega,by omega⟩
 show wpAny _ _ (if (((sIx items.size 0 lo:Nat):Int)==0&&(1:Int)==1&&(sIx items.size items.size hi-sIx items.size 0 lo)==items.size)=true then _ else _) _ _ s;rw[zX5 hno,zRL]
 first
  |exact zXn (m:=Builtin.Tuple.tupleExact _) (zYG (zXp ⟨_,rfl,zXp h⟩) htake)
  |exact zXn (m:=Builtin.Tuple.tupleExact _) (zYG (zXn (zXp (zXp ⟨_,rfl,zXp h⟩))) htake)
  |exact zXn (zXn (m:=Builtin.Tuple.tupleExact _) (zYG (zXp (zXp ⟨_,rfl,zXp h⟩)) htake))
  |exact zXn (zXn (m:=Builtin.Tuple.tupleExact _) (zYG (zXp ⟨_,rfl,zXp h⟩) htake))
end
end HT
namespace L2
open PySem PySem.Spec PyProof.Rows
noncomputable abbrev TO:=St->Hp->(Option Int->Hp->Prop)->Prop
def PO (X:Cx) (e:Option Expr) (t:TO):Prop :=
 ∀ (zB:Yd) (s:Yl) (σ:St) (H:Hp) (Q:Option Int->Hp->Prop),Inv X zB σ H s->t σ H Q ->
  wpAny (model X.prog X.w) X.A (evalPart e X.env) (λu s'=>∃ o H',Inv X zB σ H' s'/\IsPart u o/\Q o H') X.xe s
noncomputable def zTe:TO:=λ_ H Q=>Q none H
noncomputable def zWq (t:TE):TO:=λσ H Q=>t σ H λx H1=>∃ i,x=.int i/\Q (some i) H1
theorem zNG {ns:Ye}:∀ {us:Yf},zb (ns.map V.int) us->IntsAre us ns:=by
 induction ns with
 |nil=>intro us r;rw[List.map_nil]at r;cases r;exact .nil
 |cons n ns ih=>
  intro us r;rw[zX6]at r;cases r with
  |cons r1 r2=>
   obtain ⟨t,e⟩:=r1;subst e;exact .cons n t (ih r2)
section
variable {X:Cx} {e:Expr} {te:TE} {lo hi:Option Expr} {tl th:TO} {pos p2:Pos}
theorem zSU:PO X none zTe:=by
 intro zB s σ H Q I h;rw[evalPart_none];exact zXp ⟨none,H,I,.none,h⟩
theorem zSe (h:PE X e te):PO X (some e) (zWq te):=by
 intro zB s σ H Q I hw;rw[evalPart_some];refine thn (h zB s σ H _ I hw) λu s1 ⟨x,H1,I1,r1,q1⟩=>?_;obtain ⟨i,rfl,q⟩:=q1;obtain ⟨t,rfl⟩:=r1;exact ⟨some i,H1,I1,.int i t,q⟩
def SlR (X:Cx) (r:V->Option Int->Option Int->Hp->VK->Prop):Prop :=
 ∀ (zB:Yd) (s:Yl) (σ:St) (H:Hp) (x:V) (v vl vu:Yu) (lo hi:Ys) (sl:Yt) (Q:VK),Inv X zB σ H s->zp x v->s.heap.IsSliceOf sl vl vu .none->IsPart vl lo->IsPart vu hi->r x lo hi H Q ->
  ∃ T id,typeLookup (.type T) "__getitem__" = pure (some (.builtin id))/\s.TypeIs v T/\wpAny (model X.prog X.w) X.A (getItem v (.ref sl)) (EP X zB σ Q) X.xe s
theorem SlR.or {r r':V->Option Int->Option Int->Hp->VK->Prop} (h:SlR X r) (h':SlR X r'):SlR X (λx lo hi H Q=>r x lo hi H Q\/r' x lo hi H Q):=by
 intro zB s σ H x v vl vu lo hi sl Q I rx hs pl pu q;rcases q with q|q
 .exact h zB s σ H x v vl vu lo hi sl Q I rx hs pl pu q
 .exact h' zB s σ H x v vl vu lo hi sl Q I rx hs pl pu q
noncomputable def tSl (r:V->Option Int->Option Int->Hp->VK->Prop) (te:TE) (tl th:TO):TE:=λσ H Q=>te σ H λx H1=>tl σ H1 λl H2=>th σ H2 λu H3=>r x l u H3 Q
theorem zQw {r:V->Option Int->Option Int->Hp->VK->Prop} (hr:SlR X r) (he:PE X e te) (hl:PO X lo tl) (hu:PO X hi th):PE X (.Subscript e (.Slice lo hi none p2) pos) (tSl r te tl th):=by
 intro zB s σ H Q I h;refine Subscript_ (thn (he zB s σ H _ I h) λv s1 ⟨x,H1,I1,r1,q1⟩=>?_);refine wpAny_Slice (thn (hl zB s1 σ H1 _ I1 q1) λvl s2 ⟨l,H2,I2,pl,q2⟩=>thn (hu zB s2 σ H2 _ I2 q2) λvu s3 ⟨u,H3,I3,pu,q3⟩=>?_);rw[evalPart_none];refine zXp ?_;have I4:Inv X zB σ H3 { s3 with heap:=s3.heap.push { cls:=.type "slice", data:=.fields #[vl,vu,.none] } }:=I3.kept (t':=s3.toks) λb ob q=>zXo _ q;obtain ⟨T,id,hT,ht,hg⟩:=hr zB { s3 with heap:=s3.heap.push { cls:=.type "slice", data:=.fields #[vl,vu,.none] } } σ H3 x v vl vu l u s3.heap.objs.size Q I4 r1 (Heap.IsSliceOf.new ..) pl pu q3;show wpAny (model X.prog X.w) X.A (subscriptTail e (.Slice lo hi none p2) v (.ref s3.heap.objs.size)) (EP X zB σ Q) X.xe { s3 with heap:=s3.heap.push { cls:=.type "slice", data:=.fields #[vl,vu,.none] } };exact tail_any (ops:=[.ref s3.heap.objs.size,v]) ht hT hg (by with_unfolding_all rfl)
noncomputable def zL3 (xs:List V) (lo hi:Ys):List V:=(xs.drop (HT.sIx xs.length 0 lo)).take (HT.sIx xs.length xs.length hi-HT.sIx xs.length 0 lo)
theorem zGL (xs:List V) (lo hi:Ys):(zL3 xs lo hi).length<=xs.length:=by
 unfold zL3;rw[zZB,List.length_drop];omega
def zXQ (K:Yb):V->Option Int->Option Int->Hp->VK->Prop:=λx lo hi H Q=>∃ a xs,x=.ref a/\SqT K H a xs /\
 ¬ (HT.sIx xs.length 0 lo=0/\HT.sIx xs.length xs.length hi=xs.length) /\ ∀ p,H p=none->Q (.ref p) (upd H p (.tup (zL3 xs lo hi)))
theorem zUd:SlR X (zXQ X.K):=by
 intro zB s σ H x v vl vu lo hi sl Q I rx hs pl pu h;obtain ⟨a,xs,rfl,hx,hw,q⟩:=h;cases rx;obtain ⟨its,r,ht,hz⟩:=I.tuple hx;have hlen:its.toArray.size=xs.length:=by rw[zXv];exact r.length.symm
 refine ⟨"tuple", _,zZL.lookup,ht.typeIs,?_⟩;refine HT.zFM ht hs pl pu (by rw[hlen];exact hw) ?_ (by rw[hlen];exact hz);rw[hlen];refine ⟨.ref s.heap.objs.size,_,I.laid (t':=s.toks) (o:=.tup (zL3 xs lo hi)) (λb ob q=>zXo _ q) (zXt _) ?_,rfl,q _ (I.hok.fresh (zXt _))⟩;exact ⟨zYE (zGL xs lo hi) hz,_,(r.drop (HT.sIx xs.length 0 lo)).take (HT.sIx xs.length xs.length hi-HT.sIx xs.length 0 lo),zCM.new _ _⟩
noncomputable def zUA (K:Yb):R2:=λx y H Q=>∃ a b xs ys,x=.ref a/\y=.ref b/\SqT K H a xs/\SqT K H b ys/\xs≠[]/\xs.length+ys.length<=sizeLine /\
 (ys=[]->Q (.ref a) H)/\(ys≠[] -> ∀ p,H p=none->Q (.ref p) (upd H p (.tup (xs++ys))))
theorem zb.nil_iff {xs:List V} {us:Yf} (r:zb xs us):us=[] ↔ xs=[]:=by
 cases r with
 |nil=>simp
 |cons _ _=>simp
theorem zTO:OpR X (binaryOp .Add) (zUA X.K):=by
 intro zB s σ H x y v u Q I rx ry h;obtain ⟨a,b,xs,ys,rfl,rfl,ha,hb,hx,hz,q1,q2⟩:=h;cases rx;cases ry;obtain ⟨its,r1,p1,_⟩:=I.tuple ha;obtain ⟨its2,r2,p2,_⟩:=I.tuple hb;refine HT.zTQ p1 p2 (λz=>hx (r1.nil_iff.mp z)) (λz=>⟨.ref a,H,I,rfl,q1 (r2.nil_iff.mp z)⟩) (λz=>?_) (by rw[<-r1.length,<-r2.length];exact hz);refine ⟨.ref s.heap.objs.size,_,I.laid (t':=s.toks) (o:=.tup (xs++ys)) (λb ob q=>zXo _ q) (zXt _) ?_,rfl,q2 (λw=>z (r2.nil_iff.mpr w)) _ (I.hok.fresh (zXt _))⟩;exact ⟨by rw[zX3];exact hz,_,r1.append r2,zCM.new _ _⟩
end
noncomputable def ixN (n:Nat) (i:Int):Option Nat:=if 0<=i then (if i<n then some i.toNat else none) else if -(n:Int)<=i then some (i+n).toNat else none
noncomputable def atI {α:Type} (xs:List α) (i:Int):Option α:=(ixN xs.length i).bind λj=>xs[j]?
theorem zKN {n:Nat} {i:Int} {j:Nat} (h:ixN n i=some j):seqIndex? i n=some j/\j<n /\ -(n:Int)<=i/\i<n:=by
 unfold ixN at h;by_cases h0:0<=i
 .rw[zX2 h0]at h;by_cases h1:i<n
  .rw[zX2 h1]at h;have e:i.toNat=j:=zYn h;exact ⟨by rw[seqIndex_of h0 h1,e],by omega,by omega,h1⟩
  .rw[zX5 h1]at h;cases h
 .rw[zX5 h0]at h;by_cases h1 : -(n:Int)<=i
  .rw[zX2 h1]at h;have e:(i+n).toNat=j:=zYn h;exact ⟨by rw[seqIndex_neg (by omega) h1,e],by omega,h1,by omega⟩
  .rw[zX5 h1]at h;cases h
theorem zKE {α:Type} {xs:List α} {i:Int} {v:α} (h:atI xs i=some v):∃ j,seqIndex? i xs.length=some j/\xs[j]?=some v/\j<xs.length /\ -(xs.length:Int)<=i/\i<xs.length:=by
 unfold atI at h;cases e:ixN xs.length i with
 |none=>rw[e]at h;cases h
 |some j=>
  rw[e]at h;obtain ⟨h1,h2,h3,h4⟩:=zKN e;exact ⟨j,h1,h,h2,h3,h4⟩
theorem zNp {α:Type} {xs:List α} {j:Nat} {v:α} (h:xs[j]?=some v):atI xs (j:Int)=some v:=by
 have hj:j<xs.length:=(zXq.mp h).1;have e:ixN xs.length (j:Int)=some j:=by
  unfold ixN;rw[zX2 (by omega),zX2 (by omega)];simp
 unfold atI;rw[e];exact h
theorem zFC {α:Type} (xs:List α) (v:α):atI (xs++[v]) (-1)=some v:=by
 have hl:(xs++[v]).length=xs.length+1:=by simp
 have e:ixN (xs++[v]).length (-1)=some xs.length:=by
  unfold ixN;rw[hl,zX5 (by decide),zX2 (by omega)];congr 1;omega
 unfold atI;rw[e];show (xs++[v])[xs.length]?=some v;simp
def zNq (b:Expr):Prop:=∀ o i,subscripted b false o i=operate [o,i] (getItem o i)
def IxR (X:Cx) (r:R2):Prop :=
 ∀ (value slice:Expr) (zB:Yd) (s:Yl) (σ:St) (H:Hp) (x y:V) (v u:Yu) (Q:VK),Inv X zB σ H s->zp x v->zp y u->r x y H Q ->
  subscripted slice false v u=operate [v,u] (getItem v u)->wpAny (model X.prog X.w) X.A (subscriptTail value slice v u) (EP X zB σ Q) X.xe s
def MtR (X:Cx) (id:String) (r:V->List V->Hp->VK->Prop):Prop :=
 ∀ (zB:Yd) (s:Yl) (σ:St) (H:Hp) (x:V) (xs:List V) (v:Yu) (us:Yf) (Q:VK),Inv X zB σ H s->zp x v->zb xs us->r x xs H Q ->
  wpAny (model X.prog X.w) X.A (call (.builtin id) (v::us)) (EP X zB σ Q) X.xe s
section
variable {X:Cx} {a b:Expr} {ta tb:TE} {pos:Pos}
theorem IxR.or {r r':R2} (h:IxR X r) (h':IxR X r'):IxR X (λx y H Q=>r x y H Q\/r' x y H Q):=by
 intro value slice zB s σ H x y v u Q I rx ry q hs;rcases q with q|q
 .exact h value slice zB s σ H x y v u Q I rx ry q hs
 .exact h' value slice zB s σ H x y v u Q I rx ry q hs
theorem zWb {r:R2} (hr:IxR X r) (ha:PE X a ta) (hb:PE X b tb) (hs:zNq b):PE X (.Subscript a b pos) (tOp r ta tb):=by
 intro zB s σ H Q I h;exact Subscript_ (zVp ha hb I h λv u s2 x y H2 I2 rx ry q=>hr a b zB s2 σ H2 x y v u Q I2 rx ry q (hs _ _))
noncomputable def zWS (K:Yb):R2:=λx y H Q=>∃ p xs i v,x=.ref p/\y=.int i/\SqL K H p xs/\atI xs i=some v/\Q v H
noncomputable def zWk (K:Yb):R2:=λx y H Q=>∃ p xs i v,x=.ref p/\y=.int i/\SqT K H p xs/\atI xs i=some v/\Q v H
noncomputable def zWc:R2:=λx y H Q=>∃ z i c,x=.str z/\y=.int i/\z.length<=sizeLine/\atI z.cps.toList i=some c/\Q (.str ⟨#[c]⟩) H
theorem zTN:IxR X (zWS X.K):=by
 intro value slice zB s σ H x y v u Q I rx ry h hs;obtain ⟨p,xs,i,z,rfl,rfl,hq,he,q⟩:=h;cases rx;obtain ⟨t,rfl⟩:=ry;obtain ⟨its,r,pl,hz⟩:=I.list hq;obtain ⟨j,h1,h2,h3,h4,h5⟩:=zKE he;obtain ⟨w,ew,rw'⟩:=r.get h2;have hl:=r.length;have hn:=zEy;have fin:EP X zB σ Q w s:=⟨z,H,I,rw',q⟩;by_cases h0:0<=i
 .have hj:i.toNat=j:=by
   rw[seqIndex_of h0 h5]at h1;exact zYn h1
  exact item_listR pl.isList h0 (by omega) (by rw[hj];simpa using ew) fin hs
 .have hj:(i+(its.toArray.size:Int)).toNat=j:=by
   rw[seqIndex_neg (by omega) h4]at h1;rw[zXv,<-hl];exact zYn h1
  exact subscriptTail_builtinR (x:=w) pl.isList.typeIs slot_list_getitem.lookup
   (wpAny_getItem_list_neg (Q:=λr s'=>r=w/\EP X zB σ Q r s') pl.isList (by omega) (by rw[zXv] <;> omega) (by omega) (by rw[hj];simpa using ew) ⟨rfl,fin⟩) hs
theorem zUJ:IxR X (zWk X.K):=by
 intro value slice zB s σ H x y v u Q I rx ry h hs;obtain ⟨p,xs,i,z,rfl,rfl,hq,he,q⟩:=h;cases rx;obtain ⟨t,rfl⟩:=ry;obtain ⟨its,r,pl,hz⟩:=I.tuple hq;obtain ⟨j,h1,h2,h3,h4,h5⟩:=zKE he;obtain ⟨w,ew,rw'⟩:=r.get h2;have hl:=r.length;have hn:=zEy;have fin:EP X zB σ Q w s:=⟨z,H,I,rw',q⟩
 exact subscriptTail_builtinR (x:=w) pl.typeIs slot_tuple_getitem.lookup
  (getItem_tuple (j:=j) (Q:=λr s'=>r=w/\EP X zB σ Q r s') pl (by omega) (by omega) (by rw[zXv,<-hl];exact h1) (by simpa using ew) ⟨rfl,fin⟩) hs
theorem zUG:IxR X zWc:=by
 intro value slice zB s σ H x y v u Q I rx ry h hs;obtain ⟨z,i,c,rfl,rfl,hz,he,q⟩:=h;obtain ⟨t,rfl⟩:=rx;obtain ⟨t',rfl⟩:=ry;obtain ⟨j,h1,h2,h3,h4,h5⟩:=zKE he;have hl:z.cps.toList.length=z.length:=by simp[Str.length]
 rw[hl]at h1 h4 h5;have hn:=zEy;exact tail_any (typeIs_str s z t) slot_str_getitem.lookup (getItem_str (c:=c) (by
  have e1:decide (i < -(2 ^ 63:Int))=false:=zYM (by omega);have e2:decide (i≥2 ^ 63)=false:=zYM (by omega);rw[e1,e2,Bool.or_false]) (by rw[h1];simpa using h2) ⟨.str ⟨#[c]⟩,H,I.tok _,⟨_,rfl⟩,q⟩) hs
noncomputable def rIx (K:Yb):R2:=λx y H Q=>zWS K x y H Q\/zWk K x y H Q\/zWc x y H Q
theorem zUU:IxR X (rIx X.K):=zTN.or (zUJ.or zUG)
theorem zNQ (its:List Value) (n j:Nat) (u:Value):Obj.mapSeq (·.setIfInBounds j u) { cls:=.type "list", data:=.seq its.toArray n }={ cls:=.type "list", data:=.seq (its.set j u).toArray n }:=by
 simp[Obj.mapSeq]
theorem Inv.lst {zB:Yd} {σ:St} {H:Hp} {s:Yl} {p:Yt} {xs:List V} (I:Inv X zB σ H s) (h:H p=some (.lst xs)) :
  ∃ (its:List Value) (n:Nat),zb xs its/\s.heap.get? p=some { cls:=.type "list", data:=.seq its.toArray n }/\xs.length<=sizeLine:=by
 obtain ⟨z,its,n,r,e⟩:=I.hok p _ h;exact ⟨its,n,r,e,z⟩
theorem Inv.lstUpd {zB:Yd} {σ:St} {H:Hp} {s:Yl} {p:Yt} {xs ys:List V} {its its':Yf} {n n':Nat} {f:Obj->Obj} (I:Inv X zB σ H s) (h:H p=some (.lst xs))
  (ho:s.heap.get? p=some { cls:=.type "list", data:=.seq its.toArray n }) (hf:f { cls:=.type "list", data:=.seq its.toArray n }={ cls:=.type "list", data:=.seq its'.toArray n' }) (r:zb ys its') (hz:ys.length<=sizeLine) (t:Nat) :
  Inv X zB σ (upd H p (.lst ys)) { s with heap:=s.heap.update p f,toks:=t }:=by
 have e:(s.heap.update p f).get? p=some { cls:=.type "list", data:=.seq its'.toArray n' }:=by
  rw[zYa f ho (by rw[hf] <;> rfl),hf]
 refine I.write (x:=p) (e:=p) (by rw[h];trivial) (.inl rfl) (λb u hb q=>(zYU _ _ (Ne.symm hb)).trans q) ⟨_,e⟩ ?_;exact ⟨hz,its',n',r,e⟩
def zW8:V->V->V->Hp->(Hp->Prop)->Prop:=λo i v H Q=>∃ p xs k j,o=.ref p/\i=.int k/\H p=some (.lst xs)/\ixN xs.length k=some j/\Q (upd H p (.lst (xs.set j v)))
theorem zQs:zXE X zW8:=by
 intro zB s σ H o i v ov iv u Q I ro ri rv h;obtain ⟨p,xs,k,j,rfl,rfl,hp,hj,q⟩:=h;cases ro;obtain ⟨t,rfl⟩:=ri;obtain ⟨its,n,r,ho,hz⟩:=I.lst hp;obtain ⟨h1,h2,h3,h4⟩:=zKN hj;have hl:=r.length;have hn:=zEy;have I':Inv X zB σ (upd H p (.lst (xs.set j v))) { s with heap:=s.heap.update p (Obj.mapSeq (·.setIfInBounds j u)) } :=
  I.lstUpd hp ho (zNQ its n j u) (r.set rv j) (by rw[List.length_set];exact hz) s.toks
 by_cases h0:0<=k
 .have hk:k.toNat=j:=by
   rw[seqIndex_of h0 h4]at h1;exact zYn h1
  exact PySem.W.ki_setAt ho h0 (by omega) (by rw[zXv,<-hl];exact h4) (by rw[hk];exact ⟨_,I',q⟩)
 .have hk:(k+(its.toArray.size:Int)).toNat=j:=by
   rw[seqIndex_neg (by omega) h3]at h1;rw[zXv,<-hl];exact zYn h1
  exact PySem.W.ki_setBack ho (by omega) (by rw[zXv,<-hl];exact h3) (by omega) (by rw[hk];exact ⟨_,I',q⟩)
theorem zKG (lo hi:Ys) (n:Nat):(sliceBounds lo hi none n).1=((HT.sIx n 0 lo:Nat):Int)/\(sliceBounds lo hi none n).2.1=((HT.sIx n n hi:Nat):Int)/\(sliceBounds lo hi none n).2.2=1:=by
 refine ⟨?_,?_,rfl⟩
 .cases lo with
  |none=>simp[sliceBounds,HT.sIx]
  |some i=>
   simp only[sliceBounds,HT.sIx,Option.getD_none,show (1:Int)>0 by decide,if_true];by_cases h:i<0
   .simp only[h,if_true] <;> omega
   .simp only[h,if_false] <;> omega
 .cases hi with
  |none=>simp[sliceBounds,HT.sIx]
  |some i=>
   simp only[sliceBounds,HT.sIx,Option.getD_none,show (1:Int)>0 by decide,if_true];by_cases h:i<0
   .simp only[h,if_true] <;> omega
   .simp only[h,if_false] <;> omega
theorem zIG (its:Yf) (lo hi:Ys):slicePick its.toArray lo hi none=((its.drop (HT.sIx its.length 0 lo)).take (HT.sIx its.length its.length hi-HT.sIx its.length 0 lo)).toArray:=by
 obtain ⟨h1,h2,h3⟩:=zKG lo hi its.toArray.size;unfold slicePick;rw[h1,h2,h3];simp only[sliceRange_one,pick_run,zXv] <;> rfl
def zXj (K:Yb):V->Option Int->Option Int->Hp->VK->Prop:=λx lo hi H Q=>∃ a xs,x=.ref a/\SqL K H a xs /\ ∀ p,H p=none->Q (.ref p) (upd H p (.lst (zL3 xs lo hi)))
theorem zSP:SlR X (zXj X.K):=by
 intro zB s σ H x v vl vu lo hi sl Q I rx hs pl pu h;obtain ⟨a,xs,rfl,hx,q⟩:=h;cases rx;obtain ⟨its,r,ht,hz⟩:=I.list hx;have hlen:=r.length;refine ⟨"list", _,slot_list_getitem.lookup,ht.isList.typeIs,?_⟩;refine wpAny_getItem_list_slice ht.isList hs pl pu .none (by simp) ?_ (by rw[zXv] <;> omega);rw[zIG,<-hlen];refine ⟨.ref s.heap.objs.size,_,I.laid (t':=s.toks) (o:=.lst (zL3 xs lo hi)) (λb ob q=>zXo _ q) (zXt _) ?_,rfl,q _ (I.hok.fresh (zXt _))⟩;exact ⟨zYE (zGL xs lo hi) hz,_,0,(r.drop (HT.sIx xs.length 0 lo)).take (HT.sIx xs.length xs.length hi-HT.sIx xs.length 0 lo),zXx _ rfl⟩
noncomputable def zFA:V->Bool
 |.non=>true
 |.bl _=>true
 |.int _=>true
 |.str _=>true
 |_=>false
noncomputable def eqV:V->V->Bool
 |.non,.non=>true
 |.bl a,.bl b=>a==b
 |.bl a,.int b=>(if a then 1 else 0)==b
 |.int a,.bl b=>a==(if b then 1 else 0)
 |.int a,.int b=>a==b
 |.str a,.str b=>a==b
 |_,_=>false
theorem zVu {A:Yn} {s:Yl} {y x:V} {u v:Yu} (ry:zp y u) (rx:zp x v) (fy:zFA y=true) (fx:zFA x=true):SeqAt.EqAt A s u v (eqV y x):=by
 cases y with
 |non=>
  cases ry;cases x with
  |non=>cases rx;exact SeqAt.EqAt.same _
  |bl b=>cases rx;exact SeqAt.EqAt.none_bool b
  |int b=>obtain ⟨t,rfl⟩:=rx;exact SeqAt.EqAt.none_int b t
  |str b=>obtain ⟨t,rfl⟩:=rx;exact SeqAt.EqAt.none_str b t
  |_=>exact absurd (show false=true from fx) zX9
 |bl a=>
  cases ry;cases x with
  |non=>cases rx;exact SeqAt.EqAt.bool_none a
  |bl b=>cases rx;exact SeqAt.EqAt.bool_bool a b
  |int b=>obtain ⟨t,rfl⟩:=rx;exact SeqAt.EqAt.bool_int a b t
  |str b=>obtain ⟨t,rfl⟩:=rx;exact SeqAt.EqAt.bool_str a b t
  |_=>exact absurd (show false=true from fx) zX9
 |int a=>
  obtain ⟨t',rfl⟩:=ry;cases x with
  |non=>cases rx;exact SeqAt.EqAt.int_none a t'
  |bl b=>cases rx;exact SeqAt.EqAt.int_bool a t' b
  |int b=>obtain ⟨t,rfl⟩:=rx;exact SeqAt.EqAt.int_int a t' b t
  |str b=>obtain ⟨t,rfl⟩:=rx;exact SeqAt.EqAt.int_str a t' b t
  |_=>exact absurd (show false=true from fx) zX9
 |str a=>
  obtain ⟨t',rfl⟩:=ry;cases x with
  |non=>cases rx;exact SeqAt.EqAt.str_none a t'
  |bl b=>cases rx;exact SeqAt.EqAt.str_bool a t' b
  |int b=>obtain ⟨t,rfl⟩:=rx;exact SeqAt.EqAt.str_int a t' b t
  |str b=>obtain ⟨t,rfl⟩:=rx;exact SeqAt.EqAt.str_str a t' b t
  |_=>exact absurd (show false=true from fx) zX9
 |_=>exact absurd (show false=true from fy) zX9
noncomputable def eqU (x:V) (u:Yu):Bool:=match u with
 |.none=>eqV .non x
 |.bool b=>eqV (.bl b) x
 |.int i _=>eqV (.int i) x
 |.str z _=>eqV (.str z) x
 |_=>false
theorem zQl {x y:V} {u:Yu} (r:zp y u) (f:zFA y=true):eqU x u=eqV y x:=by
 cases y with
 |non=>cases r;rfl
 |bl b=>cases r;rfl
 |int i=>obtain ⟨t,rfl⟩:=r;rfl
 |str z=>obtain ⟨t,rfl⟩:=r;rfl
 |_=>exact absurd (show false=true from f) zX9
theorem zFP {x:V}:∀ {xs:List V} {us:Yf},zb xs us->xs.all zFA=true->us.any (eqU x)=xs.any λy=>eqV y x
 |_,_,.nil,_=>rfl
 |y::xs,u::us,.cons r t,f=>by
  rw[List.all_cons,zYN]at f;rw[List.any_cons,List.any_cons,zQl r f.1,zFP t f.2]
theorem zEE {A:Yn} {s:Yl} {x:V} {v:Yu} (rx:zp x v) (fx:zFA x=true):∀ {xs:List V} {us:Yf},zb xs us->xs.all zFA=true -> ∀ u∈us,SeqAt.EqAt A s u v (eqU x u)
 |_,_,.nil,_=>λu hu=>by cases hu
 |y::xs,u::us,.cons r t,f=>λu' hu=>by
  rw[List.all_cons,zYN]at f;rcases zXz.mp hu with rfl|hu
  .rw[zQl r f.1];exact zVu r rx f.1 fx
  .exact zEE rx fx t f.2 u' hu
noncomputable def inV (x:V) (xs:List V):Bool:=xs.any λy=>eqV y x
noncomputable def rIn (K:Yb) (neg:Bool):R2:=λx y H Q=>∃ p xs,y=.ref p/\(SqL K H p xs\/SqT K H p xs)/\zFA x=true/\xs.all zFA=true/\Q (.bl (if neg then !inV x xs else inV x xs)) H
theorem zPA:OpR X (compareOp .In) (rIn X.K false):=by
 intro zB s σ H x y v u Q I rx ry h;obtain ⟨p,xs,rfl,hq,fx,fs,q⟩:=h;cases ry;rcases hq with hq|hq
 .obtain ⟨its,r,pl,hz⟩:=I.list hq;refine SeqAt.in_listAt (eqU x) pl.isList (λw hw=>zEE rx fx r fs w (by simpa using hw)) ⟨.bl _,H,I,rfl,?_⟩;rw[show its.toArray.any (eqU x)=its.any (eqU x) by simp,zFP r fs];exact q
 .obtain ⟨its,r,pl,hz⟩:=I.tuple hq;refine SeqAt.in_tupleAt (eqU x) pl (λw hw=>zEE rx fx r fs w (by simpa using hw)) ⟨.bl _,H,I,rfl,?_⟩;rw[show its.toArray.any (eqU x)=its.any (eqU x) by simp,zFP r fs];exact q
theorem zKV:OpR X (compareOp .NotIn) (rIn X.K true):=by
 intro zB s σ H x y v u Q I rx ry h;obtain ⟨p,xs,rfl,hq,fx,fs,q⟩:=h;cases ry;rcases hq with hq|hq
 .obtain ⟨its,r,pl,hz⟩:=I.list hq;refine SeqAt.notIn_listAt (eqU x) pl.isList (λw hw=>zEE rx fx r fs w (by simpa using hw)) ⟨.bl _,H,I,rfl,?_⟩;rw[show its.toArray.any (eqU x)=its.any (eqU x) by simp,zFP r fs];exact q
 .obtain ⟨its,r,pl,hz⟩:=I.tuple hq;refine SeqAt.notIn_tupleAt (eqU x) pl (λw hw=>zEE rx fx r fs w (by simpa using hw)) ⟨.bl _,H,I,rfl,?_⟩;rw[show its.toArray.any (eqU x)=its.any (eqU x) by simp,zFP r fs];exact q
theorem zKU:zCP X (.builtin "len") (λxs H Q=>∃ p ys,xs=[.ref p]/\(SqL X.K H p ys\/SqT X.K H p ys)/\Q (.int ys.length) H):=by
 intro zB s σ H xs us Q I r h;obtain ⟨p,ys,rfl,hq,q⟩:=h;obtain ⟨u,rfl,rx⟩:=zEq r;cases rx;have hn:=zEy;rcases hq with hq|hq
 .obtain ⟨its,r',pl,hz⟩:=I.list hq;have hlen:=r'.length;exact Calls.call_len_list pl.isList (by simp only[zXv] <;> omega) ⟨.int ys.length,H,I.tok _,⟨s.toks+1,by rw[zXv,hlen]⟩,q⟩
 .obtain ⟨its,r',pl,hz⟩:=I.tuple hq;have hlen:=r'.length;exact len_tuple pl (by simp only[zXv] <;> omega) ⟨.int ys.length,H,I.tok _,⟨s.toks+1,by rw[zXv,hlen]⟩,q⟩
theorem zKk:zCP X (.type "list") (λxs H Q=>∃ p ys,xs=[.ref p]/\(SqL X.K H p ys\/SqT X.K H p ys) /\ ∀ l,H l=none->Q (.ref l) (upd H l (.lst ys))):=by
 intro zB s σ H xs us Q I r h;obtain ⟨p,ys,rfl,hq,q⟩:=h;obtain ⟨u,rfl,rx⟩:=zEq r;cases rx
 have fin:∀ (its:Yf),zb ys its->ys.length<=sizeLine -> ∀ (h':Heap) (c':Nat),(∀ b o',s.heap.get? b=some o'->h'.get? b=some o') ->
   h'.get? s.heap.objs.size=some { cls:=.type "list", dict:=none,data:=.seq its.toArray c',slots:=#[] }->EP X zB σ Q (.ref s.heap.objs.size) { s with heap:=h' }:=λits r' hz h' c' kp e=>
  ⟨.ref s.heap.objs.size,_,I.laid (t':=s.toks) kp (zXt _) (show zAU X.prog X.w _ h' _ (.lst ys)from ⟨hz,its,c',r',e⟩),rfl,q _ (I.hok.fresh (zXt _))⟩
 rcases hq with hq|hq
 .obtain ⟨its,r',pl,hz⟩:=I.list hq;have hlen:=r'.length;obtain ⟨o,ho,hc,n,hd⟩:=pl.isList;exact call_list_seq p (.inl rfl) ho hc hd (λh' c' kp e=>fin its r' hz h' c' kp e) (by simp only[zXv] <;> omega)
 .obtain ⟨its,r',pl,hz⟩:=I.tuple hq;have hlen:=r'.length;obtain ⟨o,ho,hc,n,hd⟩:=pl;exact call_list_seq p (.inr rfl) ho hc hd (λh' c' kp e=>fin its r' hz h' c' kp e) (by simp only[zXv] <;> omega)
theorem zIU:zCP X (.type "tuple") (λxs H Q=>∃ p ys,xs=[.ref p]/\((SqL X.K H p ys /\ ∀ l,H l=none->Q (.ref l) (upd H l (.tup ys)))\/(SqT X.K H p ys/\Q (.ref p) H))):=by
 intro zB s σ H xs us Q I r h;obtain ⟨p,ys,rfl,h⟩:=h;obtain ⟨u,rfl,rx⟩:=zEq r;cases rx;rcases h with ⟨hq,q⟩|⟨hq,q⟩
 .obtain ⟨its,r',pl,hz⟩:=I.list hq;have hlen:=r'.length;refine call_tuple_list pl.isList (λh' kp=>?_) (by simp only[zXv] <;> omega);have I1:Inv X zB σ H { s with heap:=h' }:=I.kept (t':=s.toks) kp;have I2:Inv X zB σ (upd H h'.objs.size (.tup ys)) { s with heap:=h'.push { cls:=.type "tuple", data:=.seq its.toArray } } :=
   I1.laid (t':=s.toks) (λb o e=>zXo _ e) (zXt _) (show zAU X.prog X.w _ _ _ (.tup ys)from ⟨hz,its,r',zCM.new _ _⟩)
  exact ⟨.ref h'.objs.size,_,I2,rfl,q _ (I1.hok.fresh (zXt _))⟩
 .obtain ⟨its,r',pl,hz⟩:=I.tuple hq;exact call_tuple_same pl ⟨.ref p,H,I,rfl,q⟩
def tyV (K:Yb) (T:String) (x:V) (H:Hp):Prop:=match x with
 |.str _=>T = "str"
 |.int _=>T = "int"
 |.ref p=>(T = "list" /\ ∃ xs,SqL K H p xs)\/(T = "tuple" /\ ((∃ o,K.lookup p=some o/\o.cls=.type "tuple" /\ o.dict=none) \/ ∃ xs,H p=some (.tup xs))) \/
   (T = "dict" /\ ((∃ kvs,H p=some (.dK kvs)) \/ ∃ kvs,H p=some (.dT kvs)))\/(T = "set" /\ ∃ S n,H p=some (.set S n))
 |_=>False
theorem zU6 {zB:Yd} {σ:St} {H:Hp} {s:Yl} {T:String} {x:V} {v:Yu} (I:Inv X zB σ H s) (r:zp x v) (ty:tyV X.K T x H) :
  s.TypeIs v T /\ ∀ a,v=.ref a -> ∃ ob,s.heap.get? a=some ob/\ob.dict=none:=by
 cases x with
 |str z=>
  obtain ⟨t,rfl⟩:=r;cases (show T = "str" from ty);exact ⟨typeIs_str s z t,λ_ e=>nomatch e⟩
 |int i=>
  obtain ⟨t,rfl⟩:=r;cases (show T = "int" from ty);exact ⟨typeIs_int s i t,λ_ e=>nomatch e⟩
 |ref p=>
  cases r;rcases ty with ⟨rfl,xs,hq⟩|⟨rfl,⟨o,hk,hc,hd⟩|⟨xs,hq⟩⟩|⟨rfl,hk⟩|⟨rfl,S,n,hk⟩
  .obtain ⟨its,_,pl,_⟩:=I.list hq;refine ⟨pl.isList.typeIs,λa e=>?_⟩;cases e;obtain ⟨o,n,e,c,hd,_⟩:=pl;exact ⟨o,e,hd⟩
  .refine ⟨⟨o,I.kIn p o hk,hc⟩,λa e=>?_⟩;cases e;exact ⟨o,I.kIn _ o hk,hd⟩
  .obtain ⟨_,its,_,o,e,c,_,hd⟩:=I.hok p _ hq;refine ⟨⟨o,e,c⟩,λa e2=>?_⟩;cases e2;exact ⟨o,e,hd⟩
  .have z:∃ o,s.heap.get? p=some o/\o.ExactDict:=by
    rcases hk with ⟨kvs,hk⟩|⟨kvs,hk⟩
    .obtain ⟨_,_,_,_,o,_,_,e,ex,_⟩:=I.hok p _ hk;exact ⟨o,e,ex⟩
    .obtain ⟨_,_,_,_,o,_,_,e,ex,_⟩:=I.hok p _ hk;exact ⟨o,e,ex⟩
   obtain ⟨o,e,ex⟩:=z;refine ⟨⟨o,e,ex.1⟩,λa e2=>?_⟩;cases e2;exact ⟨o,e,ex.2.1⟩
  .obtain ⟨o,_,_,_,e,ex,_⟩:=I.hok p _ hk;refine ⟨⟨o,e,ex.1⟩,λa e2=>?_⟩;cases e2;exact ⟨o,e,ex.2.1⟩
 |_=>exact False.elim ty
noncomputable def tBM (K:Yb) (T:String) (r:V->List V->Hp->VK->Prop) (to:TE) (t:TA):TE:=λσ H Q=>to σ H λx H1=>tyV K T x H1/\t σ H1 λxs H2=>r x xs H2 Q
variable {o e:Expr} {es:Yi} {to:TE} {t:TA} {name:Str} {apos cpos:Pos} {T id:String} {r:V->List V->Hp->VK->Prop}
theorem zNi (pa:PlainAttrs T) (slot:Slot T name id) (hty:typeOf (.builtin id)=pure (.type "method_descriptor")) (hm:MtR X id r) (ho:PE X o to) (ha:PA X (e::es) t)
  (hbase:attributeBase o name X.env (eval o X.env)=eval o X.env:=by rfl)
  (hfew:((backTo cpos (starEach (e::es) X.env)).all (λx=> !x.1)&&(backToKw cpos (keywordEach [] X.env)).all (λx=>x.1.isSome)
   && decide ((e::es).length+([]:List Keyword).length+(if ([]:List Keyword).isEmpty then 0 else 1)<30))=true:=by rfl)
  (hline:(apos.endLine==cpos.line)=true:=by rfl) (hs:starEach (e::es) X.env=(false,eval e X.env)::starEach es X.env:=by rfl) (hplain:(backTo cpos (starEach es X.env)).any (·.1)=false:=by rfl) :
  PE X (.Call (.Attribute o name apos) (e::es) [] cpos) (tBM X.K T r to t):=by
 intro zB s σ H Q I h;refine wpAny_Call_method_late hbase hfew hline rfl (thn (ho zB s σ H _ I h) λv s1 ⟨x,H1,I1,r1,ty,q1⟩=>?_);obtain ⟨h1,h2⟩:=zU6 I1 r1 ty;refine ⟨T,id,pa,slot,hty,h1,h2,?_⟩;have hA:=ha cpos zB s1 σ H1 _ I1 q1;rw[hs]at hA ⊢;refine Calls.callWith_builtin (by show (false||(backTo cpos (starEach es X.env)).any (·.1))=false;rw[hplain] <;> rfl) (Calls.evalArgs_plain ?_);exact thn hA λus s2 ⟨vs,H2,I2,r2,q2⟩=>hm zB s2 σ H2 x vs v us Q I2 r1 r2 q2
end
def MtM (X:Cx) (id:String) (r:V->List V->Hp->VK->Prop):Prop :=
 ∀ (zB:Yd) (s:Yl) (σ:St) (H:Hp) (x:V) (xs:List V) (v:Yu) (us:Yf) (Q:VK),Inv X zB σ H s->zp x v->zb xs us->r x xs H Q ->
  wpAny (model X.prog X.w) X.A (call (.builtin id) (v::us)) (EP X zB σ Q) X.xe s
theorem zb.one:∀ {x:V} {us:Yf},zb [x] us -> ∃ u,us=[u]/\zp x u
 |_,_,.cons r .nil=>⟨_,rfl,r⟩
theorem zb.eraseIdx:∀ {xs:List V} {us:Yf} (i:Nat),zb xs us->zb (xs.eraseIdx i) (us.eraseIdx i)
 |_,_,_,.nil=> .nil
 |_,_,0,.cons _ t=>t
 |_,_,i+1,.cons r t=> .cons r (zb.eraseIdx i t)
theorem zb.rep {xs:List V} {us:Yf} (h:zb xs us):∀ k:Nat,zb (List.replicate k xs).flatten (List.replicate k us).flatten
 |0=> .nil
 |k+1=>by
  rw[zY6,zY6,zZm,zZm];exact zb.append h (zb.rep h k)
theorem zJE {α:Type}:∀ (l:List α) (i:Nat),(l.eraseIdx i).length<=l.length
 |[],_=>zXt _
 |_::_,0=>zZV _
 |_::r,i+1=>Nat.succ_le_succ (zJE r i)
theorem zF7 (its:Yf):∀ (k:Nat) (acc:Yf),
  List.foldl (λx1 x2=>x1++x2) acc.toArray (List.replicate k its.toArray)=(acc++(List.replicate k its).flatten).toArray
 |0,acc=>by simp
 |k+1,acc=>by
  have e:acc.toArray++its.toArray=(acc++its).toArray:=by simp
  have e2:(acc++its)++(List.replicate k its).flatten=acc++(List.replicate (k+1) its).flatten:=by
   rw[zY6,zZm,zYt]
  rw[<-e2,<-zF7 its k (acc++its),<-e,zY6,List.foldl_cons]
section
variable {X:Cx} {zB:Yd} {σ:St} {H:Hp} {s:Yl} {l b:Yt} {xs ys zs:List V}
theorem Inv.lset {its its':Yf} {n:Nat} {f:Array Value->Array Value} {t':Nat} (I:Inv X zB σ H s) (hH:H l=some (.lst xs))
  (e:s.heap.get? l=some { cls:=.type "list", data:=.seq its.toArray n }) (hf:f its.toArray=its'.toArray) (hv:zb ys its') (hz:ys.length<=sizeLine) :
  Inv X zB σ (upd H l (.lst ys)) { s with heap:=s.heap.update l (Obj.mapSeq f),toks:=t' }:=by
 have q:=PySem.IsL.update e f;rw[hf]at q;refine I.write (x:=l) (e:=l) (by rw[hH];exact trivial) (.inl rfl) (λb' u hb hu=>(zYU s.heap (Obj.mapSeq f) (Ne.symm hb)).trans hu) ⟨_,q⟩ ?_;exact ⟨hz,its',_,hv,q⟩
theorem Inv.lnew {its:Yf} {t':Nat} (I:Inv X zB σ H s) (hv:zb ys its) (hz:ys.length<=sizeLine) :
  Inv X zB σ (upd H s.heap.objs.size (.lst ys)) { s with heap:=s.heap.push { cls:=.type "list", data:=.seq its.toArray },toks:=t' } :=
 I.laid (λ_ _ q=>zXo _ q) (zXt _) ⟨hz,its,0,hv,zXx _ rfl⟩
theorem Inv.fresh (I:Inv X zB σ H s):H s.heap.objs.size=none:=I.hok.fresh (zXt _)
theorem Inv.lstM (I:Inv X zB σ H s) (hH:H l=some (.lst xs)):xs.length<=sizeLine /\ ∃ (its:List Value) (n:Nat),zb xs its/\xs.length=its.length/\s.heap.get? l=some { cls:=.type "list", data:=.seq its.toArray n }:=by
 obtain ⟨z,its,n,r,e⟩:=I.hok l _ hH;exact ⟨z,its,n,r,r.length,e⟩
theorem zQQ {n:Nat} (h:n<=sizeLine):Builtin.List.listTooLong n=false:=by
 unfold Builtin.List.listTooLong;exact zYM (by omega)
end
section
variable {X:Cx}
def zOA:V->List V->Hp->VK->Prop:=λx vs H Q=>∃ l xs y,x=.ref l/\vs=[y]/\H l=some (.lst xs)/\xs.length<sizeLine/\Q .non (upd H l (.lst (xs++[y])))
theorem zOw:MtM X "list.append" zOA:=by
 intro zB s σ H x vs v us Q I rx rv h;obtain ⟨l,xs,y,rfl,rfl,hH,hz,q⟩:=h;cases rx;obtain ⟨u,rfl,ru⟩:=rv.one;obtain ⟨z,its,n,r,hl,e⟩:=I.lstM hH;refine call_meets F.slot_list_append ⟨_,e,rfl⟩ F.entry_list_append (F.args_list_append_2 _ _) (PySem.list_append l its.toArray n u (by rw[zXv];omega)) ⟨e,?_⟩;refine ⟨.non,_,I.lset (its':=its++[u]) hH e (by simp) (r.append (.cons ru .nil)) ?_,rfl,q⟩;rw[zX3,List.length_singleton];omega
def zRs:V->List V->Hp->VK->Prop:=λx vs H Q=>∃ l xs i k y,x=.ref l/\vs=[.int i]/\H l=some (.lst xs) /\ -(2 ^ 63)<=i/\i<2 ^ 63/\seqIndex? i xs.length=some k/\xs[k]?=some y/\Q y (upd H l (.lst (xs.eraseIdx k)))
theorem zQF:MtM X "list.pop" zRs:=by
 intro zB s σ H x vs v us Q I rx rv h;obtain ⟨l,xs,i,k,y,rfl,rfl,hH,h1,h2,hk,hy,q⟩:=h;cases rx;obtain ⟨u,rfl,ru⟩:=rv.one;obtain ⟨t,rfl⟩:=ru;obtain ⟨z,its,n,r,hl,e⟩:=I.lstM hH;obtain ⟨w,hw,rw'⟩:=r.get hy
 refine call_meets F.slot_list_pop ⟨_,e,rfl⟩ F.entry_list_pop (F.args_list_pop_2 _ _)
  (MeetsSeq.list_pop_at l its.toArray n i t k w (fitsIndex_both h1 h2) (by rw[zXv,<-hl];exact hk) (by rw[<-Array.getElem?_toList];exact hw) (by rw[zXv];omega)) ⟨e,?_⟩
 refine ⟨y,_,I.lset (its':=its.eraseIdx k) hH e ?_ (r.eraseIdx k) ?_,rw',q⟩
 .show its.toArray.eraseIdxIfInBounds k=(its.eraseIdx k).toArray;rw[List.eraseIdxIfInBounds_toArray]
 .have:=zJE xs k;omega
noncomputable def zWH:R2:=λx y H Q=>∃ l b xs zs,x=.ref l/\y=.ref b/\H l=some (.lst xs)/\H b=some (.lst zs)/\xs.length+zs.length<=sizeLine /\ ∀ p,H p=none->Q (.ref p) (upd H p (.lst (xs++zs)))
theorem zVS:OpR X (binaryOp .Add) zWH:=by
 intro zB s σ H x y v u Q I rx ry h;obtain ⟨l,b,xs,zs,rfl,rfl,hH,hB,hz,q⟩:=h;cases rx;cases ry;obtain ⟨z,its,n,r,hl,e⟩:=I.lstM hH;obtain ⟨z2,its2,n2,r2,hl2,e2⟩:=I.lstM hB;refine PySem.P.add_list e e2 ?_ (by rw[zXv,zXv];omega);have ea:its.toArray++its2.toArray=(its++its2).toArray:=by simp
 rw[ea];exact ⟨.ref _,_,I.lnew (t':=s.toks) (r.append r2) (by rw[zX3];omega),rfl,q _ I.fresh⟩
noncomputable def zW7:R2:=λx y H Q=>∃ l k xs,x=.ref l/\y=.int k/\H l=some (.lst xs) /\ -(2 ^ 63)<=k/\k<2 ^ 63/\xs.length*k.toNat<=sizeLine /\
 ∀ p,H p=none->Q (.ref p) (upd H p (.lst (List.replicate k.toNat xs).flatten))
theorem zKd {α:Type} (xs:List α) (k:Nat):(List.replicate k xs).flatten.length=k*xs.length:=by
 induction k with
 |zero=>simp
 |succ k ih=>rw[zY6,zZm,zX3,ih,Nat.succ_mul,Nat.add_comm]
theorem zVl:OpR X (binaryOp .Mult) zW7:=by
 intro zB s σ H x y v u Q I rx ry h;obtain ⟨l,k,xs,rfl,rfl,hH,h1,h2,hz,q⟩:=h;cases rx;obtain ⟨t,rfl⟩:=ry;obtain ⟨z,its,n,r,hl,e⟩:=I.lstM hH;have hlen:its.toArray.size*k.toNat<=sizeLine:=by rw[zXv,<-hl];exact hz
 have hcap:¬ its.toArray.size*k.toNat>(2 ^ 63-1) / 8:=by
  have:(sizeLine:Nat)<=(2 ^ 63-1) / 8:=by decide
  omega
 have hfit:¬ (!Builtin.List.listFitsIndex k)=true:=by
  rw[fitsIndex_both h1 h2];exact zX9
 have hlong:¬ Builtin.List.listTooLong (its.toArray.size*k.toNat)=true:=by
  rw[zQQ hlen];exact zX9
 have hnew:List.foldl (λx1 x2=>x1++x2) #[] (List.replicate (if its.toArray.isEmpty=true then 0 else k.toNat) its.toArray)=(List.replicate k.toNat its).flatten.toArray:=by
  have f0:∀ m:Nat,List.foldl (λx1 x2=>x1++x2) #[] (List.replicate m its.toArray)=(List.replicate m its).flatten.toArray:=λm=>by
   have:=zF7 its m [];rw[List.nil_append]at this;exact this
  rw[f0];cases its with
  |nil=>simp
  |cons a r'=>rw[zX5 (by simp)]
 refine wpAny_binaryOp_repeat_ref (T := "list") (U := "int") (by decide) ⟨_,e,rfl⟩ (λs'=>typeIs_int s' k t) noFill_list_mul F.fills_int_mul F.slot_int_rmul repeat_list F.slot_int_index.lookup
  (call_meets F.slot_int_rmul (typeIs_int s k t) F.entry_int_rmul (F.args_int_rmul_2 _ _) (int___rmul___int_list k t l its.toArray n)
   ⟨e,rfl,⟨_,e,rfl⟩,call_meets F.slot_list_mul ⟨_,e,rfl⟩ F.entry_list_mul (F.args_list_mul_2 _ _) (AutoListH.list___mul___list_int_3 l its.toArray n k t hfit hcap hlong) ⟨e,?_⟩⟩)
 rw[hnew];exact ⟨.ref _,_,I.lnew (t':=s.toks) (r.rep k.toNat) (by rw[zKd,Nat.mul_comm];exact hz),rfl,q _ I.fresh⟩
end
end L2
namespace Att
open PySem PySem.W PySem.Calls PyProof.Rows
theorem zGY {P:Params} {h:Heap}:∀ (ns:Ye) (vs:Yf),WellAll P h vs (ns.map WData.int)->IntsAre vs ns:=by
 intro ns;induction ns with
 |nil=>
  intro vs w;rw[List.map_nil]at w;cases w;exact .nil
 |cons n ns ih=>
  intro vs w;rw[zX6]at w;cases w with
  |cons a b=>
   cases a;exact .cons _ _ (ih _ b)
theorem zPD {l:OpenLaw} {n:Nat} (hn:l.most=some n) {P:Params} {h:Heap} {args:List WData} {vals:Yf}
  (hpre:l.row.toRowW.claim.pre args=true) (hwl:WellAll P h vals args) :
  ∃ a vs ns,vals=[Value.ref a]/\args=[WData.list (ns.map WData.int)]/\h.get? a=some { cls:=.type "list", data:=.seq vs.toArray }/\IntsAre vs ns/\ns.length<=n:=by
 have hsh:WShape.hasAll [] args [.list .int]=true:=(pre_splitW hpre).1;have hc:l.pre.holds [] { args:=args }=true:=(pre_splitW hpre).2;obtain ⟨d,r,rfl,h1,h2⟩:=hasAllW_cons hsh;obtain rfl:=hasAllW_nil h2;obtain ⟨xs,rfl,h3⟩:=hasW_list h1;obtain ⟨ns,rfl⟩:=items_int h3;have hlen:ns.length<=n:=by
  unfold OpenLaw.pre at hc;have h4:(WTm.not (.lt (.lit (.int (n:Int))) (.len (.arg 0)))).holds [] { args:=[.list (ns.map .int)] }=true:=by
   have h4:=(holds_andW hc).1;rw[hn]at h4;exact h4
  have h5:=condW_of h4 (w_not (w_lt w_lit (w_len_list (w_arg rfl))));rw[zXw]at h5;refine Nat.le_of_not_lt λq=>?_;have q':(n:Int)<((ns.length:Nat):Int):=by omega
  first
   | (rw[zYv q']at h5;exact absurd h5 (by decide))
   | (simp at h5;omega)
 cases hwl with
 |cons w1 w2=>
  cases w2;cases w1 with
  |list ho hall=>exact ⟨_,_,ns,rfl,rfl,ho,zGY ns _ hall,hlen⟩
theorem zPV (l:OpenLaw) (args:List WData):l.row.toRowW.claim.post args (.bool true) args=true :=
 postW_of (r:=l.row.toRowW) (X:=(true==true))
  (show WShape.has [] (.bool true) .bool=true by first|rfl|decide|simp[WShape.has,WShape.arms,WShape.armsAll])
  (show (WTm.eq .res (.lit (.bool true))).value [] { args:=args,res:=some (.bool true),after:=args }=some (.bool (true==true))from w_eq_bool (w_res rfl) w_lit) rfl
theorem zLG {l:OpenLaw} {n:Nat} {q:Ym} {loose:Yk} {XP:(Str->Option Value)->Heap->Prop} {YP:World->Heap->Prop} {d:DefRec}
  (hn:l.most=some n) (hdf:d.params.defaults=[])
  (call:∀ (w:Yo) (s₀ s₁:Yl) (mg mb:Yh) (fa:Yt) (o:Obj) (pm cd doc:Yu) (a:Yt) (vs:Yf) (ns:Ye),
   Ground q loose [] XP w s₀ mg mb s₁.heap->YP w s₁.heap ->
   s₁.heap.get? fa=some o->o.data=.func (docDef d.name d.params d.body d.scope pm cd doc)->s₁.heap.CodeRec cd d.name->mg d.name=some (.ref fa) ->
   s₁.heap.get? a=some { cls:=.type "list", data:=.seq vs.toArray }->IntsAre vs ns->ns.length<=n->s₁.gens = #[] ->
   codeAny (model l.prog w) callerA (.call (.ref fa) ⟨[.ref a],[]⟩) (λr s'=>r=.ok (.ret (.bool true))/\OldK s₁.heap s'.heap/\s'.os=s₁.os/\AllBare s'.gens) s₁) :
  WalkO q loose XP YP l.row.toRowW d [] (λf vs=>PySem.call f vs):=by
 intro w s₀ s₁ mg mb G Y fa o pm cd doc dV kV ho hd hcd hD hmg hg args vals as hpre hlay hrd hwl hlo;obtain rfl:dV=.none:=Dflts.none hD hdf;obtain rfl:kV=.none:=Dflts.noKw hD;obtain ⟨a,vs,ns,rfl,rfl,hobj,hints,hlen⟩:=zPD hn hpre hwl;refine enter_call (codeAny_mono (call w s₀ s₁ mg mb fa o pm cd doc a vs ns G Y ho (fd_plain hd) hcd hmg hobj hints hlen hg) λr s' hq=>?_);obtain ⟨rfl,h2,h3,h4⟩:=hq;exact ⟨.inl ⟨.bool true,.bool true,[],rfl,λ_=>rfl,.bool true,zPV l _,λ_=>⟨List.Pairwise.nil,λ_ hm=>(nomatch hm)⟩⟩,h2,h3,h4⟩
end Att
namespace L2
open PySem PySem.Spec PyProof.Rows
theorem zJL:∀ {vs:Yf} {ns:Ye},IntsAre vs ns->zb (ns.map V.int) vs
 |_,_,.nil=> .nil
 |_,_,.cons n t h=> .cons ⟨t,rfl⟩ (zJL h)
def zSu (H:Hp):Prop:=∀ b,H b=none \/ ∃ o xs,H b=some (.frz o (.lst xs))
theorem zQS {P:Ym} {w:Yo} {K:Yb} {mg mb:Yh} {CX:CXT} {k:Nat} {fa a:Yt} {fd:Yz} {x:Str} {sp:Sp} {s₁:Yl} {vs:Yf} {ns:Ye}
  (KX:K.In s₁.heap) (hns:s₁.heap.Ns mainGlobals mg) (hb:s₁.heap.Ns builtinsNs mb) (hbb:∀ x:Str,x ≠ "__name__" -> mb x=bootBuiltins x) (hlim:s₁.heap.NoLimit) (hg:s₁.gens = #[])
  (ha:s₁.heap.get? a=some { cls:=.type "list", data:=.seq vs.toArray }) (hi:IntsAre vs ns) (hl:ns.length<=sizeLine) (hr:Room k callerA)
  (F:∀ base:Heap,K.In base->base.Ns mainGlobals mg->FnOk P w K mg base CX k fa fd [x] sp) (hbind:∀ (s:Yl) (u:Yu),BindsTo s fd ⟨[u],[]⟩ [(x,u)])
  (hsp:∀ H:Hp,zSu H->SqL K H a (ns.map V.int)->sp [.ref a] H (λv _=>v=.bl true) λ_ _ _=>False)
  (hCX:∀ H e s',CX [] H s₁ (λ_ _ _=>False) e s'->False) :
  codeAny (model P w) callerA (.call (.ref fa) ⟨[.ref a],[]⟩) (λr s'=>r=.ok (.ret (.bool true))/\OldK s₁.heap s'.heap/\s'.os=s₁.os/\AllBare s'.gens) s₁:=by
 have rv:=zJL hi;have lenV:=hi.length
 have core:∀ H:Hp,zSu H->SqL K H a (ns.map V.int)->HOk P w H s₁.heap->(∀ b,H b≠none->b=a)->(H a≠none->K.lookup a=none) ->
   codeAny (model P w) callerA (.call (.ref fa) ⟨[.ref a],[]⟩) (λr s'=>r=.ok (.ret (.bool true))/\OldK s₁.heap s'.heap/\s'.os=s₁.os/\AllBare s'.gens) s₁:=by
  intro H hO hS hok hA hK;have base_of:∀ {b:Yt} {o:Obj},s₁.heap.get? b=some o->H b=none->(zJz s₁.heap H).get? b=some o:=λe n=>zQr e n;have noA:∀ {b:Yt} {o:Obj} {es:Array DictEntry} {ep:Nat},s₁.heap.get? b=some o->o.data=.dict es ep->H b=none:=λ{b o es ep} e d=>by
   cases q:H b with
   |none=>rfl
   |some u=>
    have e':b=a:=hA b (by rw[q];simp);subst e';rw[ha]at e;cases e;have d':Data.seq vs.toArray _=Data.dict es ep:=d;cases d'
  have nsK:∀ {b:Yt} {m:Yh},s₁.heap.Ns b m->(zJz s₁.heap H).Ns b m:=λ{b m} ⟨o,es,ep,e,d,r⟩=>⟨o,es,ep,base_of e (noA e d),d,r⟩;have hKb:K.In (zJz s₁.heap H):=λb o e=>base_of (KX b o e) (by
   cases q:H b with
   |none=>rfl
   |some u=>
    have e':b=a:=hA b (by rw[q];simp);subst e';rw[hK (by rw[q];simp)]at e;cases e)
  have hM:Mod K mg (zJz s₁.heap H):=⟨hKb,nsK hns,⟨mb,nsK hb,hbb⟩,let ⟨mc,h1,h2⟩:=hlim;⟨mc,nsK h1,h2⟩⟩;have e0:Env0 P w K mg (zJz s₁.heap H) callerA [] s₁ H:=⟨rfl,hM,λb o e=>zSQ e,Nat.le_of_eq (zOt _ _),trivial,λb hb=>absurd (show b∈([]:List Addr)from hb) (by simp),hok,.of_eq hg⟩;refine codeAny_mono ((F _ hKb (nsK hns)).run callerA [] s₁ H ⟨[.ref a],[]⟩ [.ref a] [.ref a] _ _ hr e0 (hbind s₁ (.ref a)) (.cons rfl .nil) (hsp H hO hS)) λr s' h=>?_;cases r with
  |error e=>exact (hCX H e s' h).elim
  |ok fl=>
   cases fl with
   |next=>exact False.elim h
   |brk=>exact False.elim h
   |cont=>exact False.elim h
   |ret u=>
    obtain ⟨v,H',os,bare,un,hok',r',q⟩:=h;have q':v=.bl true:=q;subst q';obtain rfl:u=Value.bool true:=r';refine ⟨rfl,OldK.of_keep λb o e=>?_,os,bare⟩;cases q:H b with
    |none=>exact un.keep b o e q (by intro z;exact absurd (show b∈([]:List Addr)from z) (by simp)) (by simp)
    |some u=>
     rcases hO b with z|⟨ob,xs,z⟩
     .rw[q]at z;cases z
     .have z2:=un.frzs b ob _ z;obtain ⟨e1,_⟩:=hok b _ z;obtain ⟨e2,_⟩:=hok' b _ z2;rw[e]at e1;cases e1;exact e2
 cases hk:K.lookup a with
 |some o=>
  have e:=KX a o hk;rw[ha]at e;cases e;refine core (λ_=>none) (λ_=> .inl rfl) (.inr ⟨_,vs.toArray,_,hk,rfl,rfl,rfl,by rw[zXv,lenV];exact hl,by simpa using rv⟩) (λb u z=>by have z':(none:Option HO)=some u:=z;cases z') (λb z=>absurd rfl z) λz=>absurd rfl z
 |none=>
  refine core (λb=>if b=a then some (.frz { cls:=.type "list", data:=.seq vs.toArray } (.lst (ns.map V.int))) else none) (λb=>?_) (.inl (.inr ⟨{ cls:=.type "list", data:=.seq vs.toArray },zX2 rfl⟩)) (λb u z=>?_) (λb z=>?_) λ_=>hk
  .by_cases hb:b=a
   .exact .inr ⟨_,_,zX2 hb⟩
   .exact .inl (zX5 hb)
  .by_cases hb:b=a
   .have z':=(zX2 hb).symm.trans z;cases z';subst hb;exact ⟨ha,by rw[zXw];exact hl,vs,_,rv,ha⟩
   .have z':=(zX5 hb).symm.trans z;cases z'
  .by_cases hb:b=a
   .exact hb
   .exact absurd (zX5 hb) z
theorem zSz {l:PySem.W.OpenLaw} {n k:Nat} {q:Ym} {loose:Yk} {XP:(Str->Option Value)->Heap->Prop} {YP:World->Heap->Prop} {d:DefRec} {K:Params->PySem.W.Frag} {CX:World->CXT} {sp:World->Sp} {x:Str}
  (hn:l.most=some n) (hn2:n<=sizeLine) (hdf:d.params.defaults=[]) (hr:Room k callerA)
  (hY:∀ (w:Yo) (h:Heap),YP w h->(K w.params).In h)
  (F:∀ (w:Yo) (mg:Yh) (fa:Yt) (h:Heap),(K w.params).In h->h.Ns mainGlobals mg->mg d.name=some (.ref fa) ->
   ∃ fd:FuncData,(∀ (s:Yl) (u:Yu),BindsTo s fd ⟨[u],[]⟩ [(x,u)]) /\
    ∀ base:Heap,(K w.params).In base->base.Ns mainGlobals mg->FnOk l.prog w (K w.params) mg base (CX w) k fa fd [x] (sp w))
  (hsp:∀ (w:Yo) (H:Hp) (a:Yt) (ns:Ye),ns.length<=n->zSu H->SqL (K w.params) H a (ns.map V.int)->sp w [.ref a] H (λv _=>v=.bl true) λ_ _ _=>False)
  (hCX:∀ (w:Yo) (H:Hp) (s:Yl) (e:Yu) (s':Yl),CX w [] H s (λ_ _ _=>False) e s'->False) :
  PySem.W.WalkO q loose XP YP l.row.toRowW d [] (λf vs=>PySem.call f vs):=by
 refine Att.zLG hn hdf λw s₀ s₁ mg mb fa o pm cd doc a vs ns G Y ho hd hcd hmg hobj hints hlen hg=>?_;have KX:=hY w _ Y;obtain ⟨fd,hb,hF⟩:=F w mg fa _ KX G.T.g hmg;exact zQS KX G.T.g G.T.b G.T.builtins G.T.nolimit hg hobj hints (zYE hlen hn2) hr hF hb (λH hO hS=>hsp w H a ns hlen hO hS) λH e s'=>hCX w H s₁ e s'
noncomputable def zEW (s:Stmt):Arguments:=match s with
 |.FunctionDef _ a _ _ _ _ _ _ _ _=>a
 |_=>{ posonlyargs:=[],args:=[],vararg:=none,kwonlyargs:=[],kw_defaults:=[],kwarg:=none,defaults:=[] }
noncomputable def zCy (s:Stmt):List Stmt:=match s with
 |.FunctionDef _ _ b _ _ _ _ _ _ _=>b
 |_=>[]
noncomputable def zQ (s:Stmt):Scope:=match s with
 |.FunctionDef _ _ _ _ _ _ sc _ _ _=>sc
 |_=>{ kind:=.function,names:=[],isGenerator:=false,isCoroutine:=false }
noncomputable abbrev CX0:CXT:=λ_ _ _ _ _ _=>False
noncomputable abbrev E0:XK:=λ_ _ _=>False
theorem zWv {X:Cx}:zNL CX0 X E0:=λ_ _ _ _ _ _ _ h=>h.elim
structure Fun (K:Yb) (x qual:Str) (st:Stmt) (f:Yt) (fd:Yz):Prop where
 ex:∃ (oc:Yu) (od:Option Addr) (kV doc pm:Yu) (an:Option Addr) (cdv ct:Yu) (osl:Array (Option Value)),
  fd=PySem.W.fnOf x qual (zEW st) (zCy st) (zQ st) .none kV doc pm an cdv ct/\K.lookup f=some ⟨oc,od,.func fd,osl⟩/\PySem.W.codeIn K cdv qual=true
 kp:PySem.W.keepIn K (.ref f)=true
section
variable {P:Ym} {w:Yo} {K:Yb} {mg:Yh} {base:Heap}
theorem Fun.ok {x qual:Str} {st:Stmt} {f:Yt} {fd:Yz} {N ps:Yk} {k:Nat} {sp:Sp} (F:Fun K x qual st f fd) (S:FnScope N ps (zQ st)) (len:∀ vs H Q E,sp vs H Q E->vs.length=ps.length)
  (hbody:∀ (cdv:Yu) (A:Yn) (outer:List Env) (s:Yl) (H:Hp) (vs:List V) (Q:VK) (E:XK),Room k (A.deeper (envOfC qual (zQ st) s.heap.objs.size f cdv))->sp vs H Q E ->
   ∃ t,PSs (zMv CX0 P w K mg base N qual (zQ st) f cdv A outer s H E).nox (zCy st) t/\t { nx:=λ_ H'=>Q .non H',rt:=Q } (start N vs) H):FnOk P w K mg base CX0 (k+1) f fd ps sp:=by
 obtain ⟨oc,od,kV,doc,pm,an,cdv,ct,osl,rfl,lk,hcd⟩:=F.ex;refine zWE lk hcd S len λA outer s H vs Q E hr hsp=>?_;obtain ⟨t,h,q⟩:=hbody cdv A outer s H vs Q E hr hsp;exact ⟨t,h.nox,q⟩
theorem Fun.binds {x qual:Str} {st:Stmt} {f:Yt} {fd:Yz} {ps:Yk} (F:Fun K x qual st f fd)
  (h:∀ (kV doc pm:Yu) (an:Option Addr) (cdv ct:Yu) (us:Yf),us.length=ps.length->bindArgs (PySem.W.fnOf x qual (zEW st) (zCy st) (zQ st) .none kV doc pm an cdv ct) ⟨us,[]⟩=pure (ps.zip us)):zHl K fd ps []:=by
 obtain ⟨oc,od,kV,doc,pm,an,cdv,ct,osl,rfl,lk,hcd⟩:=F.ex;exact .all (h kV doc pm an cdv ct)
theorem zQx {x qual:Str} {st:Stmt} {f:Yt} {oc:Yu} {od an:Option Addr} {osl:Array (Option Value)} {kV doc pm cdv ct:Yu} (l:K.lookup f=some ⟨oc,od,.func (PySem.W.fnOf x qual (zEW st) (zCy st) (zQ st) .none kV doc pm an cdv ct),osl⟩)
  (c:PySem.W.codeIn K cdv qual=true) (k:PySem.W.keepIn K (.ref f)=true):Fun K x qual st f (PySem.W.fnOf x qual (zEW st) (zCy st) (zQ st) .none kV doc pm an cdv ct):=⟨⟨oc,od,kV,doc,pm,an,cdv,ct,osl,rfl,l,c⟩,k⟩
end
theorem zHE {A:Yn} {k:Nat} (hr:Room k A):A.units+1<cLine:=Nat.lt_of_le_of_lt (Nat.add_le_add_left (by decide:1<=64) _) hr.units
section
variable {X:Cx}
theorem pv (i:Nat) {x:Str} {pos:Pos} (hN:X.N[i]?=some x:=by rfl) (hv:Vis X.env.scope x:=by first|exact Or.inl rfl|exact Or.inr (Or.inl rfl)|exact Or.inr (Or.inr rfl)) (hd:(x==("__debug__" : Str))=false:=by decide)
  (hcd:(x==("__classdict__" : Str))=false:=by decide):PE X (.Name x pos) (zVF i):=zUE hN hv hd hcd
end
theorem zHD {A B:Prop} (h:B):if false=true then A else B:=by
 rw[zX5 zX9];exact h
theorem zG4 {A B:Prop} (h:A):if true=true then A else B:=by
 rw[zX2 rfl];exact h
section
variable {κ:Type} [DecidableEq κ]
noncomputable def zD6 (kvs:List (κ × V)) (k:κ):Option V:=(kvs.find? λkv=>decide (kv.1=k)).map (·.2)
noncomputable def zCp (kvs:List (κ × V)) (k:κ) (v:V):List (κ × V) :=
 if (kvs.any λkv=>decide (kv.1=k))=true then kvs.map (λkv=>if kv.1=k then (kv.1,v) else kv) else kvs++[(k,v)]
theorem zFU {p:κ × V} {r:List (κ × V)} {k:κ} (e:p.1=k):zD6 (p::r) k=some p.2:=by simp[zD6,zZZ,e]
theorem zFD {p:κ × V} {r:List (κ × V)} {k:κ} (e:¬ p.1=k):zD6 (p::r) k=zD6 r k:=by simp[zD6,zZZ,e]
theorem zLa (k:κ):∀ kvs:List (κ × V),(kvs.any λkv=>decide (kv.1=k))=(zD6 kvs k).isSome
 |[]=>rfl
 |p::r=>by
  rw[List.any_cons];by_cases e:p.1=k
  .simp only[zFU e,zYv e,Bool.true_or,Option.isSome_some]
  .rw[zFD e,zYM e,Bool.false_or];exact zLa k r
theorem zCE (kvs:List (κ × V)) (k:κ) (v:V):(zCp kvs k v).length<=kvs.length+1:=by
 unfold zCp;split
 .rw[zXw];omega
 .rw[zX3,zYK,List.length_nil];omega
theorem zFl.isSome_eq (r:zFl o u):o.isSome=u.isSome:=by
 cases o with
 |none=>cases u with
  |none=>rfl
  |some _=>exact (show False from r).elim
 |some _=>cases u with
  |none=>exact (show False from r).elim
  |some _=>rfl
theorem zFl.getD (r:zFl o u) (rd:zp d d'):zp (o.getD d) (u.getD d'):=by
 cases o with
 |none=>cases u with
  |none=>exact rd
  |some _=>exact (show False from r).elim
 |some _=>cases u with
  |none=>exact (show False from r).elim
  |some _=>exact r
theorem KV.val {kvs:List (κ × V)} {vs:List (κ × Value)} (r:KV kvs vs) (k:κ):zFl (zD6 kvs k) (valueAt vs k):=by
 unfold KV at r;induction r with
 |nil=>exact True.intro
 | @cons p q ps qs h t ih=>
  obtain ⟨h1,h2⟩:=h;by_cases e:p.1=k
  .have e':q.1=k:=h1.symm.trans e;have b:valueAt (q::qs) k=some q.2:=by simp[valueAt,zZZ,e']
   rw[zFU e,b];exact h2
  .have e':¬ q.1=k:=λz=>e (h1.trans z);have b:valueAt (q::qs) k=valueAt qs k:=by simp[valueAt,zZZ,e']
   rw[zFD e,b];exact ih
theorem KV.any (r:KV kvs vs) (k:κ):(kvs.any λkv=>decide (kv.1=k))=vs.any λkv=>decide (kv.1=k):=by
 unfold KV at r;induction r with
 |nil=>rfl
 |cons h t ih=>rw[List.any_cons,List.any_cons,ih,h.1]
theorem KV.repl (r:KV kvs vs) (k:κ) (ry:zp y u) :
  KV (kvs.map λkv=>if kv.1=k then (kv.1,y) else kv) (vs.map λkv=>if kv.1=k then (kv.1,u) else kv):=by
 unfold KV at r ⊢;induction r with
 |nil=>exact .nil
 | @cons p q ps qs h t ih=>
  rw[zX6,zX6];refine .cons ?_ ih;obtain ⟨h1,h2⟩:=h;by_cases e:p.1=k
  .rw[zX2 e,zX2 (h1.symm.trans e)];exact ⟨h1,ry⟩
  .rw[zX5 e,zX5 (λz=>e (h1.trans z))];exact ⟨h1,h2⟩
theorem KV.put (r:KV kvs vs) (k:κ) (ry:zp y u):KV (zCp kvs k y) (stored vs k u):=by
 unfold zCp stored;rw[r.any k];by_cases e:(vs.any λkv=>decide (kv.1=k))=true
 .rw[zX2 e,zX2 e];exact r.repl k ry
 .rw[zX5 e,zX5 e];exact Paired.snoc r ⟨rfl,ry⟩
theorem KV.length (r:KV kvs vs):kvs.length=vs.length:=Paired.length r
end
theorem zGO (r:zp (kV k) u):(zAQ P w).is k u=true:=by
 cases k with
 |inl i=>obtain ⟨t,e⟩:=(show ∃ t,u=Value.int i t from r);subst e;exact zLI P w i t
 |inr x=>obtain ⟨t,e⟩:=(show ∃ t,u=Value.str x t from r);subst e;exact zK1 P w x t
theorem zIi:∀ {ks:List Key} {us:Yf},zb (ks.map kV) us->ItemsAre (zAQ P w) ks us
 |[],_,r=>by rw[List.map_nil]at r;cases r;exact .nil
 |k::ks,_,r=>by
  rw[zX6]at r;cases r with
  |cons h t=>exact .cons (zGO h) (zIi t)
abbrev KT (H:Hp):List (List Key × V)->List (List Key × Addr × Value)->Prop:=Paired λp q=>p.1=q.1/\H q.2.1=some (.tup (p.1.map kV))/\zp p.2 q.2.2
theorem KT.val {H:Hp} {kvs:List (List Key × V)} {xs:List (List Key × Addr × Value)} (r:KT H kvs xs) (k:List Key):zFl (zD6 kvs k) ((atKey xs k).map (·.2)):=by
 induction r with
 |nil=>exact True.intro
 | @cons p q ps qs h t ih=>
  obtain ⟨h1,_,h2⟩:=h;by_cases e:p.1=k
  .have e':q.1=k:=h1.symm.trans e;have b:atKey (q::qs) k=some q.2:=by simp[atKey,zZZ,e']
   rw[zFU e,b];exact h2
  .have e':¬ q.1=k:=λz=>e (h1.trans z);have b:atKey (q::qs) k=atKey qs k:=by simp[atKey,zZZ,e']
   rw[zFD e,b];exact ih
theorem KT.repl (r:KT H kvs xs) (k:List Key) (ry:zp y u) :
  KT H (kvs.map λkv=>if kv.1=k then (kv.1,y) else kv) (xs.map (putAt k u)):=by
 induction r with
 |nil=>exact .nil
 | @cons p q ps qs h t ih=>
  rw[zX6,zX6];refine .cons ?_ ih;obtain ⟨h1,h2,h3⟩:=h;unfold putAt;by_cases e:p.1=k
  .rw[zX2 e,zX2 (h1.symm.trans e)];exact ⟨h1,h2,ry⟩
  .rw[zX5 e,zX5 (λz=>e (h1.trans z))];exact ⟨h1,h2,h3⟩
theorem KT.put (r:KT H kvs xs) (k:List Key) (hb:H b=some (.tup (k.map kV))) (ry:zp y u) :
  KT H (zCp kvs k y) (storedH xs k b u):=by
 have e:(kvs.any λkv=>decide (kv.1=k))=(atKey xs k).isSome:=by
  rw[zLa,(r.val k).isSome_eq,Option.isSome_map]
 unfold zCp storedH;rw[e];by_cases q:(atKey xs k).isSome=true
 .rw[zX2 q,zX2 q];exact r.repl k ry
 .rw[zX5 q,zX5 q];exact Paired.snoc r ⟨rfl,hb,ry⟩
theorem KT.keeps (r:KT H kvs xs) (ht:∀ b ys,H b=some (.tup ys)->H' b=some (.tup ys)):KT H' kvs xs :=
 Paired.mapP r λ_ _ z=>⟨z.1,ht _ _ z.2.1,z.2.2⟩
section
variable {P:Ym} {w:Yo} {H:Hp} {h:Heap} {a:Yt}
theorem zTv (ok:HOk P w H h) (e:Rd H a u):zAU P w H h a u:=e.ok ok
theorem zHm (ok:HOk P w H h) (e:Rd H a (.dK kvs)):kvs.length<=sizeLine/\(a==sysModules)=false /\ ∃ vs,KV kvs vs/\h.DictOf (zAQ P w) a vs :=
 show zAU P w H h a (.dK kvs)from zTv ok e
theorem zP1 (ok:HOk P w H h) (e:H a=some (.dK kvs)):kvs.length<=sizeLine/\(a==sysModules)=false /\ ∃ vs,KV kvs vs/\h.DictOf (zAQ P w) a vs:=zHm ok (.inl e)
theorem zEv (ok:HOk P w H h) (e:H a=some (.tup (ks.map kV))):(tupleKind (zAQ P w)).is h ks a:=by
 obtain ⟨_,its,r,o,h1,h2,⟨n,h3⟩,_⟩:=(show zAU P w H h a (.tup (ks.map kV))from ok a _ e);exact ⟨o,its.toArray,n,h1,h2,h3,by simpa using zIi r⟩
theorem zHx (ok:HOk P w H h) (e:Rd H a (.dT kvs)):kvs.length<=sizeLine/\(a==sysModules)=false /\
  ∃ xs,KT H kvs xs/\h.DictOfH (tupleKind (zAQ P w)) a xs:=by
 obtain ⟨z,y,xs,r,o,es,ep,h1,h2,h3,h4,h5⟩:=(show zAU P w H h a (.dT kvs)from zTv ok e);refine ⟨z,y,xs,r,o,es,ep,h1,h2,h3,h4,λx hx=>?_,h5⟩;have all:∀ {l:List (List Key × V)} {m:List (List Key × Addr × Value)},KT H l m -> ∀ x∈m,(tupleKind (zAQ P w)).is h x.1 x.2.1:=by
  intro l m q;induction q with
  |nil=>intro x hx;exact nomatch hx
  | @cons p q ps qs hq t ih=>
   intro x hx;rcases zXz.mp hx with e|hx
   .subst e;exact zEv ok (by rw[<-hq.1];exact hq.2.1)
   .exact ih x hx
 exact all r x hx
theorem zTy (ok:HOk P w H h) (e:H a=some (.dT kvs)):kvs.length<=sizeLine/\(a==sysModules)=false /\
  ∃ xs,KT H kvs xs/\h.DictOfH (tupleKind (zAQ P w)) a xs:=zHx ok (.inl e)
end
def zDw (H:Hp) (a:Yt) (y:V) (r:Option V):Prop :=
 (∃ kvs k,Rd H a (.dK kvs)/\y=kV k/\r=zD6 kvs k) \/ ∃ kvs k b,Rd H a (.dT kvs)/\y=.ref b/\H b=some (.tup (k.map kV))/\r=zD6 kvs k
def zGg (H:Hp) (a:Yt) (y v:V) (H':Hp):Prop :=
 (∃ kvs k,H a=some (.dK kvs)/\y=kV k/\kvs.length<sizeLine/\H'=upd H a (.dK (zCp kvs k v))) \/
 ∃ kvs k b,H a=some (.dT kvs)/\y=.ref b/\H b=some (.tup (k.map kV))/\kvs.length<sizeLine/\H'=upd H a (.dT (zCp kvs k v))
theorem zDw.k {H:Hp} {a:Yt} {kvs:List (Key × V)} {k:Key} (e:H a=some (.dK kvs)):zDw H a (kV k) (zD6 kvs k):=.inl ⟨kvs,k,.inl e,rfl,rfl⟩
theorem zDw.t {k:List Key} (e:H a=some (.dT kvs)) (eb:H b=some (.tup (k.map kV))):zDw H a (.ref b) (zD6 kvs k):=.inr ⟨kvs,k,b,.inl e,rfl,eb,rfl⟩
theorem zGg.k {H:Hp} {a:Yt} {kvs:List (Key × V)} {k:Key} {v:V} (e:H a=some (.dK kvs)) (hl:kvs.length<sizeLine):zGg H a (kV k) v (upd H a (.dK (zCp kvs k v))):=.inl ⟨kvs,k,e,rfl,hl,rfl⟩
theorem zGg.t {kvs:List (List Key × V)} {k:List Key} (e:H a=some (.dT kvs)) (eb:H b=some (.tup (k.map kV))) (hl:kvs.length<sizeLine) :
  zGg H a (.ref b) v (upd H a (.dT (zCp kvs k v))):=.inr ⟨kvs,k,b,e,rfl,eb,hl,rfl⟩
section
variable {X:Cx} {zB:Yd} {σ:St} {H:Hp} {s:Yl} {a:Yt} {y v:V} {u r:Yu} {o:Option V} {A:Yn} {E:Yc}
theorem Inv.big (I:Inv X zB σ H s):sysModules<s.heap.objs.size:=by
 have h:mainGlobals<s.heap.objs.size:=(I.mod.glob.keeps I.bk).lt;exact Nat.lt_trans (by decide) h
theorem zPc (hu:A.units+1<cLine) (I:Inv X zB σ H s) (g:zDw H a y (some v)) (ry:zp y u) (h:∀ w' s',Inv X zB σ H s'->zp v w'->Q w' s') :
  wpAny (model X.prog X.w) A (getItem (.ref a) u) Q E s:=by
 rcases g with ⟨kvs,k,e,ey,l⟩|⟨kvs,k,b,e,ey,eb,l⟩
 .subst ey;obtain ⟨z,hd,vs,rel,dd⟩:=zHm I.hok e;obtain ⟨w',hw,rw'⟩:=zFl.some_of (v:=v) (o:=valueAt vs k) (by rw[l];exact rel.val k);exact wpAny_getItem_of (zGO ry) dd.mapOf hw (h w' _ (I.tok _) rw')
 .subst ey;cases (show u=Value.ref b from ry);obtain ⟨z,hd,xs,rel,dd⟩:=zHx I.hok e;obtain ⟨w',hw,rw'⟩:=zFl.some_of (v:=v) (o:=(atKey xs k).map (·.2)) (by rw[l];exact rel.val k);obtain ⟨p,hp,hp2⟩:=Option.map_eq_some_iff.mp hw;refine wpAny_getItem_heap (tupleKind_room_in1 hu) (zEv I.hok eb) dd hp ?_;rw[hp2];exact h w' _ (I.tok _) rw'
theorem zXK (hu:A.units+1<cLine) (I:Inv X zB σ H s) (g:zDw H a y o) (ry:zp y u) (h:∀ s',Inv X zB σ H s'->Q (.bool o.isSome) s') :
  wpAny (model X.prog X.w) A (compareOp .In u (.ref a)) Q E s:=by
 rcases g with ⟨kvs,k,e,ey,l⟩|⟨kvs,k,b,e,ey,eb,l⟩
 .subst ey;obtain ⟨z,hd,vs,rel,dd⟩:=zHm I.hok e;refine wpAny_in_of (zGO ry) hd dd.mapOf ?_;rw[<-(rel.val k).isSome_eq,<-l];exact h _ (I.tok _)
 .subst ey;cases (show u=Value.ref b from ry);obtain ⟨z,hd,xs,rel,dd⟩:=zHx I.hok e;refine wpAny_in_heap (tupleKind_room_in1 hu) (zEv I.hok eb) hd dd ?_;have q:=(rel.val k).isSome_eq;rw[Option.isSome_map]at q;rw[<-q,<-l];exact h _ (I.tok _)
theorem zTG (hu:A.units+1<cLine) (I:Inv X zB σ H s) (g:zDw H a y o) (ry:zp y u) (h:∀ s',Inv X zB σ H s'->Q (.bool (!o.isSome)) s') :
  wpAny (model X.prog X.w) A (compareOp .NotIn u (.ref a)) Q E s:=by
 rcases g with ⟨kvs,k,e,ey,l⟩|⟨kvs,k,b,e,ey,eb,l⟩
 .subst ey;obtain ⟨z,hd,vs,rel,dd⟩:=zHm I.hok e;refine wpAny_notIn_of (zGO ry) hd dd.mapOf ?_;rw[<-(rel.val k).isSome_eq,<-l];exact h _ (I.tok _)
 .subst ey;cases (show u=Value.ref b from ry);obtain ⟨z,hd,xs,rel,dd⟩:=zHx I.hok e;refine wpAny_notIn_heap (tupleKind_room_in1 hu) (zEv I.hok eb) hd dd ?_;have q:=(rel.val k).isSome_eq;rw[Option.isSome_map]at q;rw[<-q,<-l];exact h _ (I.tok _)
theorem zFE (I:Inv X zB σ H s) (mu:Mut (H a)) (hs:Heap.SameBut a s.heap h') (he:∃ q,h'.get? a=some q) (new:zAU X.prog X.w (upd H a ob) h' a ob) :
  Inv X zB σ (upd H a ob) { s with heap:=h',toks:=t' } :=
 I.write (x:=a) (e:=a) mu (.inl rfl) (λb q hb z=>(hs.2 b hb).trans z) he new
theorem zMe (z:kvs.length<=sizeLine) (hd:(a==sysModules)=false) (rel:KV kvs vs) (dd:h'.DictOf (zAQ P w) a vs) :
  zAU P w H' h' a (.dK kvs):=⟨z,hd,vs,rel,dd⟩
theorem zOD (hu:A.units+1<cLine) (I:Inv X zB σ H s) (g:zGg H a y v H') (ry:zp y u) (rv:zp v r) (h:∀ s',Inv X zB σ H' s'->Q () s') :
  wpAny (model X.prog X.w) A (setItem (.ref a) u r) Q E s:=by
 rcases g with ⟨kvs,k,e,ey,l,eH⟩|⟨kvs,k,b,e,ey,eb,l,eH⟩
 .subst ey eH;obtain ⟨z,hd,vs,rel,dd⟩:=zP1 I.hok e;have hz:vs.length<=sizeLine:=by rw[<-rel.length];exact z
  have hl:(zCp kvs k v).length<=sizeLine:=by have:=zCE kvs k v;omega
  refine wpAny_setItem_pairs (hsz:=hz) (zGO ry) dd λh' dd' hs=>h _ ?_;have he:∃ q,h'.get? a=some q:=let ⟨q,_,_,hq,_⟩:=dd';⟨q,hq⟩;exact zFE I (by rw[e];exact True.intro) hs he (zMe hl hd (rel.put k rv) dd')
 .subst ey eH;cases (show u=Value.ref b from ry);obtain ⟨z,hd,xs,rel,dd⟩:=zTy I.hok e;have hz:xs.length<=sizeLine:=by rw[<-Paired.length rel];exact z
  have hl:(zCp kvs k v).length<=sizeLine:=by have:=zCE kvs k v;omega
  refine wpAny_setItem_heap (hsz:=hz) (tupleKind_room_in1 hu) (zEv I.hok eb) dd λh' dd' hs=>h _ ?_;obtain ⟨q,es,ep,hq,h2,h3,h4,_,h5⟩:=dd';refine zFE I (by rw[e];exact True.intro) hs ⟨q,hq⟩ ⟨hl,hd,_,(rel.put k eb rv).keeps λc ys ec=>?_,q,es,ep,hq,h2,h3,h4,h5⟩;rw[zZ (zJA ec e (λz=>nomatch z))];exact ec
end
def zVR (i:Expr):Prop:=∀ ov iv,subscripted i false ov iv=operate [ov,iv] (getItem ov iv)
theorem zTb {prog:Ym} {w:Yo} {A:Yn} {E:Yc} {s:Yl} {env:Env} {value slice:Expr} {pos:Pos} {T id:String} {Q:Yc}
  (hl:typeLookup (.type T) "__getitem__" = pure (some (.builtin id))) (hs:zVR slice)
  (h:wpAny (model prog w) A (eval value env) (λo s₁=>wpAny (model prog w) A (eval slice env) (λi s₂=>s₂.TypeIs o T/\wpAny (model prog w) A (getItem o i) Q E s₂) E s₁) E s) :
  wpAny (model prog w) A (eval (.Subscript value slice pos) env) Q E s:=by
 refine Subscript_ (zYJ h (λo s₁ h₁=>zYJ h₁ (λi s₂ h₂=>?_) λ_ _ x=>x) λ_ _ x=>x);obtain ⟨hT,h₂⟩:=h₂;unfold subscriptTail;refine zXn ?_;rw[getitemInPython_of_ne hT.not_modules];refine zXn (wpAny_specialOf hT hl ?_);have fin:wpAny (model prog w) A (subscripted slice false o i) (λr s₃=>wpAny (model prog w) A (letTemporaryGo value o r >>= λ_=>pure r) Q E s₃) E s₂:=by
  rw[hs o i];exact wpAny_operating (zYJ h₂ (λr s₃ h₃=>zXn (wpAny_letTemporaryGo (zXp h₃))) λ_ _ x=>x)
 first
  |exact zXp (zXn fin)
  |exact zXn (zXp (zXn fin))
  |exact zXn fin
theorem zKu (I:Inv X zB σ H s) (g:zDw H a y o):s.TypeIs (.ref a) "dict" := by
 rcases g with ⟨kvs,k,e,_,_⟩|⟨kvs,k,b,e,_,_,_⟩
 .obtain ⟨_,_,vs,_,dd⟩:=zHm I.hok e;exact dd.typeIs
 .obtain ⟨_,_,xs,_,dd⟩:=zHx I.hok e;exact dd.typeIs
noncomputable def zWt (td ty:TE):TE:=λσ H Q=>td σ H λx H1=>ty σ H1 λy H2=>∃ a v,x=.ref a/\zDw H2 a y (some v)/\Q v H2
noncomputable def zXR (ty td:TE):TE:=λσ H Q=>ty σ H λy H1=>td σ H1 λx H2=>∃ a o,x=.ref a/\zDw H2 a y o/\Q (.bl o.isSome) H2
noncomputable def zSJ (ty td:TE):TE:=λσ H Q=>ty σ H λy H1=>td σ H1 λx H2=>∃ a o,x=.ref a/\zDw H2 a y o/\Q (.bl (!o.isSome)) H2
noncomputable def zWs (td ty tv:TE):TS:=λD σ H=>tv σ H λv H1=>td σ H1 λx H2=>ty σ H2 λy H3=>∃ a H4,x=.ref a/\zGg H3 a y v H4/\D.nx σ H4
section
variable {X:Cx} {o i e value:Expr} {pos pos' tpos:Pos} {td ty tv:TE}
theorem zS7 (hu:X.A.units+1<cLine) (ho:PE X o td) (hi:PE X i ty) (hs:zVR i):PE X (.Subscript o i pos) (zWt td ty):=by
 intro zB s σ H Q I h;refine zTb PySem.F.slot_dict_getitem.lookup hs (thn (ho zB s σ H _ I h) λu s1 ⟨x,H1,I1,rx,q1⟩=>thn (hi zB s1 σ H1 _ I1 q1) λiv s2 ⟨y,H2,I2,ry,a,v,ex,g,q2⟩=>?_);subst ex;obtain rfl:u=Value.ref a:=rx;exact ⟨zKu I2 g,zPc hu I2 g ry λw' s3 I3 rw'=>⟨v,H2,I3,rw',q2⟩⟩
theorem zUO (hu:X.A.units+1<cLine) (hi:PE X i ty) (ho:PE X o td):PC X .In i o (zXR ty td):=by
 intro zB s σ H Q I h;refine thn (hi zB s σ H _ I h) λiv s1 ⟨y,H1,I1,ry,q1⟩=>thn (ho zB s1 σ H1 _ I1 q1) λu s2 ⟨x,H2,I2,rx,a,ov,ex,g,q2⟩=>?_;subst ex;obtain rfl:u=Value.ref a:=rx;exact zXK hu I2 g ry λs3 I3=>⟨.bl ov.isSome,H2,I3,rfl,q2⟩
theorem zPY (hu:X.A.units+1<cLine) (hi:PE X i ty) (ho:PE X o td):PC X .NotIn i o (zSJ ty td):=by
 intro zB s σ H Q I h;refine thn (hi zB s σ H _ I h) λiv s1 ⟨y,H1,I1,ry,q1⟩=>thn (ho zB s1 σ H1 _ I1 q1) λu s2 ⟨x,H2,I2,rx,a,ov,ex,g,q2⟩=>?_;subst ex;obtain rfl:u=Value.ref a:=rx;exact zTG hu I2 g ry λs3 I3=>⟨.bl (!ov.isSome),H2,I3,rfl,q2⟩
theorem zTq (hu:X.A.units+1<cLine) (ho:PE X o td) (hi:PE X i ty) (hv:PE X value tv) (hs:swapsWith value (some (.Subscript o i pos')) pos.line X.env=pure false) :
  PS X (.Assign [.Subscript o i pos'] value pos) (zWs td ty tv):=by
 intro zB s σ H D I h;refine wpAny_Assign_Subscript (thn (hv zB s σ H _ I h) λr s1 ⟨v,H1,I1,rv,q1⟩=>thn (ho zB s1 σ H1 _ I1 q1) λu s2 ⟨x,H2,I2,rx,q2⟩=>thn (hi zB s2 σ H2 _ I2 q2) λiv s3 ⟨y,H3,I3,ry,a,H4,ex,g,q3⟩=>?_) hs;subst ex;obtain rfl:u=Value.ref a:=rx;exact zOD hu I3 g ry rv λs4 I4=>⟨σ,H4,I4,q3⟩
end
theorem zLK (h:Heap) (hb:sysModules<h.objs.size):zAU P w H (h.push { cls:=.type "dict", data:=.dict #[] }) h.objs.size (.dK []) :=
 ⟨zYZ _,beq_eq_false_iff_ne.mpr (Ne.symm (zX8 hb)),[],.nil,Heap.DictOf.new h⟩
theorem zQ2 (h:Heap) (hb:sysModules<h.objs.size):zAU P w H (h.push { cls:=.type "dict", data:=.dict #[] }) h.objs.size (.dT []) :=
 ⟨zYZ _,beq_eq_false_iff_ne.mpr (Ne.symm (zX8 hb)),[],.nil,_,#[],0,zXx _ rfl,⟨rfl,rfl,rfl⟩,rfl,rfl,List.nodup_nil⟩
noncomputable def zVB:TE:=λ_ H Q=>∀ p,H p=none->Q (.ref p) (upd H p (.dK []))
noncomputable def zUZ:TE:=λ_ H Q=>∀ p,H p=none->Q (.ref p) (upd H p (.dT []))
section
variable {X:Cx} {pos:Pos}
theorem zQj:PE X (.Dict [] [] pos) zVB:=λzB s σ H Q I h=>
 wpAny_Dict_empty ⟨.ref s.heap.objs.size,_,I.laid (a:=s.heap.objs.size) (o:=.dK []) (t':=s.toks) (λ_ _ q=>zXo _ q) (zXt _) (zLK s.heap I.big),rfl,h _ (I.hok.fresh (zXt _))⟩
theorem zP9:PE X (.Dict [] [] pos) zUZ:=λzB s σ H Q I h=>
 wpAny_Dict_empty ⟨.ref s.heap.objs.size,_,I.laid (a:=s.heap.objs.size) (o:=.dT []) (t':=s.toks) (λ_ _ q=>zXo _ q) (zXt _) (zQ2 s.heap I.big),rfl,h _ (I.hok.fresh (zXt _))⟩
end
def zNS:List (TE × TE)->St->Hp->(List (V × V)->Hp->Prop)->Prop
 |[],_,H,Q=>Q [] H
 | (tk,tv)::r,σ,H,Q=>tk σ H λx H1=>tv σ H1 λy H2=>zNS r σ H2 λps H3=>Q ((x,y)::ps) H3
abbrev VV:List (V × V)->List (Value × Value)->Prop:=Paired λp q=>zp p.1 q.1/\zp p.2 q.2
def PPs (X:Cx) (pos:Pos) (keys:List (Option Expr)) (values:Yi) (trs:List (TE × TE)):Prop :=
 ∀ (zB:Yd) (s:Yl) (σ:St) (H:Hp) (Q:List (V × V)->Hp->Prop),Inv X zB σ H s->zNS trs σ H Q ->
  wpAny (model X.prog X.w) X.A (evalPairs (pairTrees keys values X.env pos)) (λvs s'=>∃ ps H',Inv X zB σ H' s'/\VV ps vs/\Q ps H') X.xe s
theorem zSd:PPs X pos [] [] []:=λzB s σ H Q I h=>pairTrees_nil_walk ⟨[],H,I,.nil,h⟩
theorem zLu (hk:PE X k tk) (hv:PE X v tv) (hr:PPs X pos ks vs trs) :
  PPs X pos (some k::ks) (v::vs) ((tk,tv)::trs):=λzB s σ H Q I h=>
 pairTrees_cons_walk (thn (hk zB s σ H _ I h) λu s1 ⟨x,H1,I1,rx,q1⟩=>thn (hv zB s1 σ H1 _ I1 q1) λw2 s2 ⟨y,H2,I2,ry,q2⟩=>
  thn (hr zB s2 σ H2 _ I2 q2) λws s3 ⟨ps,H3,I3,rel,q3⟩=>⟨(x,y)::ps,H3,I3,.cons ⟨rx,ry⟩ rel,q3⟩)
noncomputable def zE0 (kvs more:List (Key × V)):List (Key × V):=more.foldl (λacc kv=>zCp acc kv.1 kv.2) kvs
theorem KV.merge:∀ {more:List (Key × V)} {rs:List (Key × Value)} {kvs:List (Key × V)} {vs:List (Key × Value)},KV more rs->KV kvs vs->KV (zE0 kvs more) (merged vs rs):=by
 intro more rs kvs vs r;unfold KV at r;induction r generalizing kvs vs with
 |nil=>intro q;exact q
 | @cons p q ps qs h t ih=>
  intro r0;have e:KV (zCp kvs p.1 p.2) (stored vs q.1 q.2):=by
   have:=r0.put p.1 h.2;rw[<-h.1];exact this
  exact ih e
theorem zEt:∀ (more kvs:List (Key × V)),(zE0 kvs more).length<=kvs.length+more.length
 |[],kvs=>by show kvs.length<=kvs.length+0;omega
 |p::r,kvs=>by
  have h1:=zEt r (zCp kvs p.1 p.2);have h2:=zCE kvs p.1 p.2;show (zE0 (zCp kvs p.1 p.2) r).length<=_;rw[zYK];omega
theorem zHB:∀ {kvs:List (Key × V)} {ws:List (Value × Value)},VV (kvs.map λkv=>(kV kv.1,kv.2)) ws -> ∃ rs,Carries (zAQ P w) ws rs/\KV kvs rs
 |[],_,r=>by rw[List.map_nil]at r;cases r;exact ⟨[],True.intro,.nil⟩
 |p::kvs,_,r=>by
  rw[zX6]at r;cases r with
  | @cons a b as bs h t=>
   obtain ⟨rs,c,q⟩:=zHB (P:=P) (w:=w) t;obtain ⟨b1,b2⟩:=b;exact ⟨(p.1,b2)::rs,⟨zGO h.1,rfl,c⟩,.cons ⟨rfl,h.2⟩ q⟩
noncomputable def zXI (trs:List (TE × TE)):TE:=λσ H Q=>∀ p,H p=none->zNS trs σ (upd H p (.dK [])) λps H2=>H2 p=some (.dK []) /\ ∃ kvs:List (Key × V),ps=kvs.map (λkv=>(kV kv.1,kv.2))/\kvs.length<=15/\Q (.ref p) (upd H2 p (.dK (zE0 [] kvs)))
theorem zTo (h:PPs X pos keys values trs) (hall:keys.all (·.isSome)=true) (hl:keys.length=values.length) (h0:keys≠[])
  (h15:keys.length<=15):PE X (.Dict keys values pos) (zXI trs):=by
 intro zB s σ H Q I q;have hn:=I.hok.fresh (zXt s.heap.objs.size);have I1:=I.laid (a:=s.heap.objs.size) (o:=.dK []) (h':=s.heap.push { cls:=.type "dict", data:=.dict #[] }) (t':=s.toks) (λ_ _ q=>zXo _ q) (zXt _) (zLK s.heap I.big);refine wpAny_Dict_walk (knd:=zAQ X.prog X.w) hall hl h0 h15 (thn (h zB _ σ _ _ I1 (q _ hn)) λws s2 ⟨ps,H2,I2,rel,e,kvs,ep,lk,q2⟩=>?_);subst ep;obtain ⟨rs,c,rk⟩:=zHB (P:=X.prog) (w:=X.w) rel;obtain ⟨z,hd,vs0,r0,dd⟩:=zP1 I2.hok e;cases r0;refine ⟨rs,c,dd,λh' dd' hs=>⟨.ref s.heap.objs.size,_,?_,rfl,q2⟩⟩;have hz:(zE0 [] kvs).length<=sizeLine:=by
  have h1:=zEt kvs [];rw[List.length_nil]at h1;rw[sizeLine_eq];omega
 have he:∃ q,h'.get? s.heap.objs.size=some q:=let ⟨q,_,_,hq,_⟩:=dd';⟨q,hq⟩;exact zFE I2 (by rw[e];exact True.intro) hs he (zMe hz hd (rk.merge .nil) dd')
structure M2 (X:Cx) (o:Expr) (m:Str) (apos:Pos) (e f:Expr) (cpos:Pos):Prop where
 base:attributeBase o m X.env (eval o X.env)=eval o X.env
 few:((backTo cpos (starEach [e,f] X.env)).all (λx=> !x.1)&&(backToKw cpos (keywordEach [] X.env)).all (λx=>x.1.isSome)
  && decide (([e,f]:List Expr).length+([]:List Keyword).length+(if ([]:List Keyword).isEmpty then 0 else 1)<30))=true
 line:(apos.endLine==cpos.line)=true
 trees:backTo cpos (starEach [e,f] X.env)=[(false,eval e X.env),(false,eval f X.env)]
def IsD (H:Hp) (a:Yt):Prop:=(∃ kvs,Rd H a (.dK kvs)) \/ ∃ kvs,Rd H a (.dT kvs)
theorem zVG (I:Inv X zB σ H s) (d:IsD H a) :
  s.TypeIs (.ref a) "dict" /\ (∀ b,Value.ref a=.ref b -> ∃ ob,s.heap.get? b=some ob/\ob.dict=none)/\(a==sysModules)=false:=by
 rcases d with ⟨kvs,e⟩|⟨kvs,e⟩
 .obtain ⟨_,hd,vs,_,dd⟩:=zHm I.hok e;refine ⟨dd.typeIs,λb q=>?_,hd⟩;cases q;obtain ⟨ob,_,_,h1,h2,_⟩:=dd;exact ⟨ob,h1,h2.2.1⟩
 .obtain ⟨_,hd,xs,_,dd⟩:=zHx I.hok e;refine ⟨dd.typeIs,λb q=>?_,hd⟩;cases q;obtain ⟨ob,_,_,h1,h2,_⟩:=dd;exact ⟨ob,h1,h2.2.1⟩
section
variable {X:Cx} {zB:Yd} {σ:St} {H:Hp} {s:Yl} {a:Yt} {y d:V} {u r:Yu} {o:Option V} {A:Yn} {E:Yc}
theorem zUM (hu:A.units+1<cLine) (I:Inv X zB σ H s) (g:zDw H a y o) (ry:zp y u) (rd:zp d r) (h:∀ w' s',Inv X zB σ H s'->zp (o.getD d) w'->Q w' s') :
  wpAny (model X.prog X.w) A (call (.builtin "dict.get") [.ref a,u,r]) Q E s:=by
 rcases g with ⟨kvs,k,e,ey,l⟩|⟨kvs,k,b,e,ey,eb,l⟩
 .subst ey;obtain ⟨z,hd,vs,rel,dd⟩:=zHm I.hok e;refine call_meetsIn PySem.F.slot_dict_get dd.typeIs PySem.F.entry_dict_get (PySem.F.args_dict_get_3 _ _ _) (meets_dict_get_default (zAQ X.prog X.w) a (zGO ry) hd r) ⟨_,dd.mapOf,h _ _ (I.tok _) ?_⟩;rw[l];exact (rel.val k).getD rd
 .subst ey;cases (show u=Value.ref b from ry);obtain ⟨z,hd,xs,rel,dd⟩:=zHx I.hok e;refine call_meetsIn PySem.F.slot_dict_get dd.typeIs PySem.F.entry_dict_get (PySem.F.args_dict_get_3 _ _ _) (meetsH_dict_get_default (tupleKind (zAQ X.prog X.w)) a b hd r) ⟨tupleKind_room_in1 hu,k,xs,zEv I.hok eb,dd,h _ _ (I.tok _) ?_⟩;rw[l];exact (rel.val k).getD rd
end
noncomputable def zRH (td ty tx:TE):TE:=λσ H Q=>td σ H λx H1=>∃ a,x=.ref a/\IsD H1 a/\ty σ H1 λy H2=>tx σ H2 λz H3=>∃ o,zDw H3 a y o/\Q (o.getD z) H3
section
variable {X:Cx} {o e f:Expr} {apos cpos:Pos} {td ty tx:TE}
theorem zRr (hu:X.A.units+1<cLine) (ho:PE X o td) (he:PE X e ty) (hf:PE X f tx) (m:M2 X o "get" apos e f cpos):PE X (.Call (.Attribute o "get" apos) [e,f] [] cpos) (zRH td ty tx):=by
 intro zB s σ H Q I h;refine wpAny_Call_method m.base m.few m.line PySem.F.plainAttrs_dict PySem.F.slot_dict_get PySem.F.type_dict_get (thn (ho zB s σ H _ I h) λu s1 ⟨x,H1,I1,rx,a,ex,d,q1⟩=>?_);subst ex;obtain rfl:u=Value.ref a:=rx;obtain ⟨t1,t2,_⟩:=zVG I1 d;refine ⟨t1,t2,?_⟩;rw[m.trees];refine Calls.callWith_builtin rfl (Calls.evalArgs_plain (Calls.spliced_cons (thn (he zB s1 σ H1 _ I1 q1) λiv s2 ⟨y,H2,I2,ry,q2⟩=>
  Calls.spliced_cons (thn (hf zB s2 σ H2 _ I2 q2) λfv s3 ⟨z,H3,I3,rz,ov,g,q3⟩=>Calls.spliced_nil ?_))))
 exact zUM hu I3 g ry rz λw' s4 I4 rw'=>⟨_,H3,I4,rw',q3⟩
end
theorem zAi:∀ (names:List (Str × NameKind)) (n:Nat) (acc:Yv),cellsFrom n names acc=cellsFrom n names []++acc
 |[],_,_=>rfl
 | (name,kind)::r,n,acc=>by
  unfold cellsFrom;split
  .rw[zAi r (n+1) ((name,n)::acc),zAi r (n+1) [(name,n)],zYt];rfl
  .exact zAi r n acc
theorem zCv {α:Type} (x:Str):∀ (l r:List (Str × α)),(l++r).lookup x=(match l.lookup x with|some c=>some c|none=>r.lookup x)
 |[],r=>rfl
 | (k,v)::l,r=>by
  rw[List.cons_append,zZs,zZs];cases hb:x==k with
  |true=>rfl
  |false=>exact zCv x l r
theorem zEw:∀ (names:List (Str × NameKind)) (acc:Yv),
  (∀ y∈names,y.2=.free -> ∃ c,env.cells.lookup y.1=some c) ->
  (∀ x c,acc.lookup x=some c->env.cells.lookup x=some c) ->
  ∃ cl:List (Str × Addr),(forIn names acc (λ(p:Str × NameKind) (cs:Yv)=>(do
    if p.2 == .free then
     let a <- cellOf env p.1;pure (ForInStep.yield ((p.1,a)::cs))
    else pure (ForInStep.yield cs):Sem (ForInStep (List (Str × Addr))))))=pure cl /\
   (∀ x c,cl.lookup x=some c->env.cells.lookup x=some c) /\
   (∀ x,(acc.lookup x).isSome=true->(cl.lookup x).isSome=true) /\ ∀ y∈names,y.2=.free->(cl.lookup y.1).isSome=true
 |[],acc,_,ha=>⟨acc,by rw[List.forIn_nil],ha,λ_ h=>h,λ_ h=>nomatch h⟩
 | (n,k)::r,acc,hf,ha=>by
  rw[List.forIn_cons];by_cases hk:k=.free
  .subst hk;obtain ⟨c,hc⟩:=hf (n,.free) zX1 rfl;have hco:cellOf env n=pure c:=by unfold cellOf;rw[hc]
   obtain ⟨cl,e,h1,h2,h3⟩:=zEw r ((n,c)::acc) (λy hy=>hf y (zX0 _ hy)) (λx d hx=>by
    rw[zZs]at hx;cases hb:x==n with
    |true=>rw[hb]at hx;cases hx;rw[beq_iff_eq.mp hb];exact hc
    |false=>rw[hb]at hx;exact ha x d hx)
   refine ⟨cl,?_,h1,λx hx=>h2 x ?_,λy hy hk=>?_⟩
   .rw[<-e];simp only[beq_self_eq_true,if_true,hco];rfl
   .rw[zZs];cases hb:x==n with
    |true=>rfl
    |false=>exact hx
   .rcases zXz.mp hy with z|z
    .subst z;exact h2 n (by rw[zZs];simp)
    .exact h3 y z hk
  .obtain ⟨cl,e,h1,h2,h3⟩:=zEw r acc (λy hy=>hf y (zX0 _ hy)) ha;refine ⟨cl,?_,h1,h2,λy hy hk'=>?_⟩
   .rw[<-e];have:(k==NameKind.free)=false:=by simpa using hk
    simp only[this,zYo,if_false];rfl
   .rcases zXz.mp hy with z|z
    .subst z;exact absurd hk' hk
    .exact h3 y z hk'
theorem zIS (hf:∀ y∈scope.names,y.2=.free -> ∃ c,env.cells.lookup y.1=some c) :
  ∃ cl,closureFor scope env=pure cl/\(∀ x c,cl.lookup x=some c->env.cells.lookup x=some c) /\ ∀ y∈scope.names,y.2=.free->(cl.lookup y.1).isSome=true:=by
 obtain ⟨cl,e,h1,_,h3⟩:=zEw (env:=env) scope.names [] hf (λx c h=>nomatch h);refine ⟨cl,?_,h1,h3⟩;unfold closureFor;rw[show (pure cl:Sem _)=pure cl >>= pure from rfl,<-e]
theorem zC2
  (hQ:Q (newEnv scope s.heap.objs.size globals (cellsFrom (s.heap.objs.size+1) scope.names cl) qual none .none (some env) builtinsNs)
   { s with heap:=pushCells (s.heap.push { cls:=.type "dict", data:=.dict #[] }) scope.names }) :
  wpAny M A (newFunctionEnv scope globals cl [] qual none .none (some env)) Q E s:=by
 simp only[newFunctionEnv,Option.isSome_some,if_true];refine zXn (wpAny_alloc ?_);refine zXn (wpAny_layCells _ (λname kind cells=>by cases hkc:kind==NameKind.cell <;> simp[hkc]) _ _ _ _ ?_);rw[show ({ s with heap:=s.heap.push { cls:=.type "dict", data:=.dict #[] } }:Shared).heap.objs.size=s.heap.objs.size+1 from zYT ..];exact zXn (zXp (zXp hQ))
noncomputable def zM (X:Cx) (zB:Yd) (scope:Y0) (cl:Yv) (s:Yl) (H:Hp) (fp:Yg):Cx where
 prog:=X.prog
 w:=X.w
 K:=X.K
 mg:=X.mg
 base:=X.base
 A:=X.A
 N:=X.N
 s₀:=s
 H₀:=H
 env:={ scope:=relabel scope X.env,locals:=s.heap.objs.size+1,globals:=X.env.globals,cells:=cellsFrom (s.heap.objs.size+1+1) scope.names cl,qual:=X.env.qual,func:=none,code:=X.env.code,frame:=X.env.frame,builtins:=X.env.builtins }
 outer:=X.stack
 stack:=X.stack
 ex:=fp
 fn:=λx=>decide (scope.names.lookup x=some .cell)
 calm:=X.calm
 pn:=X.pn++zB
 xe:=λ_ _=>False
theorem zBF {scope:Y0} {env:Env} (x:Str):∀ {names:List (Str × NameKind)} {k:NameKind},
  (names.map λ(n,k)=>if (k==NameKind.free&&env.scope.kind == .function&&env.kindOf n==some .cell) then (n,NameKind.cell) else (n,k)).lookup x=some k ->
  names.lookup x=some k\/(names.lookup x=some .free/\k=.cell)
 |[],_,h=>by simp at h
 | (n,k')::r,k,h=>by
  rw[zX6]at h;by_cases hc:(k'==NameKind.free&&env.scope.kind == .function&&env.kindOf n==some .cell)=true
  .simp only[hc,if_true]at h;rw[zZs]at h ⊢;cases hb:x==n with
   |true=>
    rw[hb]at h;simp only[zYN,beq_iff_eq]at hc;exact .inr ⟨by rw[hc.1.1],(zYn h).symm⟩
   |false=>rw[hb]at h;exact zBF (scope:=scope) x h
  .simp only[hc,zYo,if_false]at h;rw[zZs]at h ⊢;cases hb:x==n with
   |true=>rw[hb]at h;exact .inl h
   |false=>rw[hb]at h;exact zBF (scope:=scope) x h
theorem zHU:∀ (names:List (Str × NameKind)) (n:Nat) (acc:Yv) (x:Str) (c:Yt),(x,c)∈cellsFrom n names acc->(x,c)∉acc->(x,NameKind.cell)∈names
 |[],_,_,_,_,h,h'=>absurd h h'
 | (name,kind)::r,n,acc,x,c,h,h'=>by
  unfold cellsFrom at h;split at h
  .rename_i hk;by_cases e:(x,c)=(name,n)
   .cases e;rw[beq_iff_eq]at hk;subst hk;exact zX1
   .exact zX0 _ (zHU r _ _ x c h λz=>(zXz.mp z).elim e h')
  .exact zX0 _ (zHU r _ _ x c h h')
structure CompScope (X:Cx) (scope:Y0):Prop where
 kind:scope.kind=.function
 names:∀ y∈scope.names,y.2=.local->scope.names.lookup y.1=some .local
 cells:∀ y∈scope.names,y.2=.cell->scope.names.lookup y.1=some .cell
 free:∀ y∈scope.names,y.2=.free->X.env.kindOf y.1=some .cell\/X.env.kindOf y.1=some .free
section
variable {X:Cx} {zB:Yd} {σ σc:St} {H:Hp} {s s4:Yl} {scope:Y0} {cl:Yv} {fp:Yg}
theorem zFe (S:CompScope X scope) (I:Inv X zB σ H s) (hf:∀ b∈fp,zCV X zB H b) (ho:∀ b:Nat,b∈fp->b<s.heap.objs.size)
  (c1:∀ x c,cl.lookup x=some c->X.env.cells.lookup x=some c) (c2:∀ y∈scope.names,y.2=.free->(cl.lookup y.1).isSome=true)
  (hl:σc.length=σ.length) (hσ:∀ (i:Nat) x v,X.N[i]?=some x->σc[i]?=some (some v)->(relabel scope X.env).names.lookup x≠none->scope.names.lookup x=some .free/\σ[i]?=some (some v))
  (lo:Obj) (hlo:∀ v,lo.data≠.cell v) (hfr:lo.isFreed=false)
  (h4:s4={ s with heap:=pushCells ((s.heap.push lo).push { cls:=.type "dict", data:=.dict #[] }) scope.names }) :
  Inv (zM X zB scope cl s H fp) [(s.heap.objs.size,lo)] σc H s4:=by
 subst h4;have sz1:(s.heap.push lo).objs.size=s.heap.objs.size+1:=zYT ..;have sz2:((s.heap.push lo).push { cls:=.type "dict", data:=.dict #[] }).objs.size=s.heap.objs.size+1+1:=by rw[zYT,sz1]
 have hk:∀ b o,s.heap.get? b=some o->(pushCells ((s.heap.push lo).push { cls:=.type "dict", data:=.dict #[] }) scope.names).get? b=some o:=λb o e=>
  pushCells_keeps _ _ b o (zXo _ (zXo _ e))
 have ok:=cellsFrom_ok scope.names ((s.heap.push lo).push { cls:=.type "dict", data:=.dict #[] }) (s.heap.objs.size+1+1) [] ⟨λ_ _ hm=>(nomatch hm),List.Pairwise.nil⟩ (by rw[sz2];exact zXt _);rw[sz2]at ok;have look:∀ x c,(cellsFrom (s.heap.objs.size+1+1) scope.names cl).lookup x=some c->((cellsFrom (s.heap.objs.size+1+1) scope.names []).lookup x=some c)\/((cellsFrom (s.heap.objs.size+1+1) scope.names []).lookup x=none/\X.env.cells.lookup x=some c):=λx c e=>by
  rw[zAi,zCv]at e;cases q:(cellsFrom (s.heap.objs.size+1+1) scope.names []).lookup x with
  |some d=>rw[q]at e;exact .inl e
  |none=>rw[q]at e;exact .inr ⟨rfl,c1 x c e⟩
 have old:∀ x (c:Nat),X.env.cells.lookup x=some c->c<s.heap.objs.size:=λx c e=>let ⟨_,q⟩:=I.cell x c e;q.lt;have new:∀ x (c:Nat),(cellsFrom (s.heap.objs.size+1+1) scope.names []).lookup x=some c->s.heap.objs.size+1+1<=c:=λx c e=>(ok.empty x c (zYp e)).2;have own:∀ x,scope.names.lookup x=some .cell -> ∃ c,(cellsFrom (s.heap.objs.size+1+1) scope.names []).lookup x=some c:=λx e=>zHQ e;have cne:∀ x (c:Nat),(cellsFrom (s.heap.objs.size+1+1) scope.names cl).lookup x=some c->c<s.heap.objs.size\/s.heap.objs.size+1+1<=c:=λx c e=>by
  rcases look x c e with q|⟨_,q⟩
  .exact .inr (new x c q)
  .exact .inl (old x c q)
 refine ⟨⟨I.ok.mod,S.kind,I.ok.glob,I.ok.blt,zZV _,λx y c h1 h2=>?_,λx hx=>?_,λx c hx h=>?_,I.ok.hd,I.ok.frames,.inl rfl,λb hb=>⟨?_,λx c e z=>?_⟩,I.bs,zYE I.ok.bsz I.sz,λb o e hb=>?_,λb hb z=>?_,I.stack,I.stkFree⟩,
  rfl,I.bare,Un.kept hk,⟨λ_=>none,?_,λi x v h1 h2 h3=>?_⟩,λx c e=>?_,I.hok.fresh (zZV _),λx c e=>?_,λp hp=>?_,I.hok.kept hk,hl.trans I.len⟩
 .rcases look x c h1 with a|⟨_,a⟩ <;> rcases look y c h2 with b|⟨_,b⟩
  .exact name_of_addr ok.apart (zYp a) (zYp b)
  .exact absurd (Nat.lt_of_le_of_lt (new x c a) (old y c b)) (by omega)
  .exact absurd (Nat.lt_of_le_of_lt (new y c b) (old x c a)) (by omega)
  .exact I.ok.inj x y c a b
 .have hx':(relabel scope X.env).names.lookup x=some .cell\/(relabel scope X.env).names.lookup x=some .free:=hx;have go:scope.names.lookup x=some .cell\/scope.names.lookup x=some .free:=by
   rcases hx' with q|q
   .rcases zBF (scope:=scope) x q with z|z
    .exact .inl z
    .exact .inr z.1
   .rcases zBF (scope:=scope) x q with z|z
    .exact .inr z
    .exact .inr z.1
  show ∃ c,(cellsFrom (s.heap.objs.size+1+1) scope.names cl).lookup x=some c;rw[zAi,zCv];rcases go with q|q
  .obtain ⟨c,e⟩:=own x q;exact ⟨c,by rw[e]⟩
  .cases e:(cellsFrom (s.heap.objs.size+1+1) scope.names []).lookup x with
   |some d=>exact ⟨d,rfl⟩
   |none=>exact Option.isSome_iff_exists.mp (c2 (x,.free) (zYp q) rfl)
 .obtain ⟨d,e⟩:=own x (zYj hx);have h':(cellsFrom (s.heap.objs.size+1+1) scope.names cl).lookup x=some c:=h;rw[zAi,zCv,e]at h';cases h';exact zYE (zYE (zZV _) (zZV _)) (new x _ e)
 .exact zX8 (zYc (ho b hb))
 .rcases look x c e with q|⟨_,q⟩
  .have a:=new x c q;rw[z]at a;exact absurd (Nat.lt_of_le_of_lt a (ho b hb)) (by omega)
  .exact (hf b hb).2.2.2.2.1 x c q z
 .rcases (hf b hb).2.2.2.1 with z|z
  .exact I.ok.noex b o e z
  .exact absurd (zYC (zXy e) (zYE I.ok.bsz z)) (zYV _)
 .rcases zXz.mp (I.stkSub b z)with q|q
  .exact (hf b hb).2.1 q
  .exact (hf b hb).2.2.1 q
 .have q:((s.heap.push lo).push { cls:=.type "dict", data:=.dict #[] }).Ns (s.heap.push lo).objs.size (λ_=>none):=Heap.Ns.new ..;rw[sz1]at q;exact q.keeps (pushCells_keeps _ _)
 .have h3':(relabel scope X.env).names.lookup x≠none:=by
   rcases h3 with z|z|z <;> (intro q;have z':(relabel scope X.env).names.lookup x=_:=z;rw[q]at z';cases z')
  obtain ⟨fr,hv⟩:=hσ i x v h1 h2 h3';obtain ⟨m,hn,hlk⟩:=I.loc;have kx:=S.free (x,.free) (zYp fr) rfl;obtain ⟨u,rv,lk⟩:=hlk i x v h1 hv (by rcases kx with z|z;exact .inr (.inl z);exact .inr (.inr z));refine ⟨u,rv,?_⟩;rcases lk with ⟨z,_⟩|⟨_,c,e,ic⟩
  .rcases kx with k|k <;> (rw[k]at z;cases z)
  .have kind:(relabel scope X.env).names.lookup x=some .cell\/(relabel scope X.env).names.lookup x=some .free:=by
    cases q:(relabel scope X.env).names.lookup x with
    |none=>exact absurd q h3'
    |some k=>
     rcases zBF (scope:=scope) x q with z|z
     .rw[fr]at z;cases z;exact .inr rfl
     .rw[z.2];exact .inl rfl
   refine .inr ⟨kind,c,?_,ic.keeps hk⟩;show (cellsFrom (s.heap.objs.size+1+1) scope.names cl).lookup x=some c;rw[zAi,zCv];obtain ⟨d,hd⟩:=Option.isSome_iff_exists.mp (c2 (x,.free) (zYp fr) rfl);have:=c1 x d hd;rw[e]at this;cases this;have nn:(cellsFrom (s.heap.objs.size+1+1) scope.names []).lookup x=none:=by
    cases q:(cellsFrom (s.heap.objs.size+1+1) scope.names []).lookup x with
    |none=>rfl
    |some d'=>
     have z:=S.cells (x,.cell) (zHU scope.names _ [] x d' (zYp q) λz=>nomatch z) rfl;rw[fr]at z;cases z
   rw[nn];exact hd
 .rcases look x c e with q|⟨_,q⟩
  .exact ⟨none,(ok.empty x c (zYp q)).1⟩
  .obtain ⟨v,z⟩:=I.cell x c q;exact ⟨v,z.keeps hk⟩
 .rcases look x c e with q|⟨_,q⟩
  .exact I.hok.fresh (by have:=new x c q;omega)
  .exact I.freeC x c q
 .have hp':p∈X.pn++zB\/p=(s.heap.objs.size,lo):=by
   rcases zYD.mp hp with z|z
   .exact .inl z
   .exact .inr (by simpa using z)
  rcases hp' with z|z
  .obtain ⟨e,n,ne,nf,d⟩:=I.pin p z;have lt:(p.1:Nat)<s.heap.objs.size:=zXy e;refine ⟨hk _ _ e,n,?_,λq=>?_,d⟩
   .exact zX8 (zYc lt)
   .rcases zXz.mp (I.stkSub _ q)with r|r
    .exact ne r
    .exact nf r
  .subst z;refine ⟨pushCells_keeps _ _ _ _ (zXo _ (zXx _ hfr)),I.hok.fresh (zXt _),?_,λq=>?_,hlo⟩
   .show s.heap.objs.size≠s.heap.objs.size+1;omega
   .rcases zXz.mp (I.stkSub _ q)with r|r
    .exact absurd I.lt (by rw[<-r];exact zYV _)
    .exact I.nofs (zXt _) r
end
noncomputable def clr (own:Yj) (σ:St):St:=own.foldl (λσ i=>σ.set i none) σ
theorem zBc:∀ (own:Yj) (σ:St),(clr own σ).length=σ.length
 |[],_=>rfl
 |i::r,σ=>by
  show (clr r (σ.set i none)).length=_;rw[zBc r,List.length_set]
theorem zC5:∀ (own:Yj) (σ:St) (j:Nat) (v:V),(clr own σ)[j]?=some (some v)->σ[j]?=some (some v)/\j∉own
 |[],_,_,_,h=>⟨h,λz=>nomatch z⟩
 |i::r,σ,j,v,h=>by
  have h':(clr r (σ.set i none))[j]?=some (some v):=h;obtain ⟨a,b⟩:=zC5 r _ j v h';rw[zZM]at a;split at a
  .split at a <;> cases a
  .rename_i hne;exact ⟨a,λz=>(zXz.mp z).elim (λe=>hne e.symm) b⟩
def Ext (a b:St):Prop:=b.length=a.length /\ ∀ (i:Nat) v,a[i]?=some (some v)->b[i]?=some (some v)
theorem Ext.refl (a:St):Ext a a:=⟨rfl,λ_ _ h=>h⟩
theorem Ext.set (e:Ext (clr own σ) a) (h:i∈own):Ext (clr own σ) (a.set i (some v)):=by
 refine ⟨by rw[List.length_set];exact e.1,λj u q=>?_⟩;rw[zZM];split
 .rename_i z;exact absurd (z▸h) (zC5 own σ j u q).2
 .exact e.2 j u q
def zGk (X:Cx) (ifs:Yi) (t:TT):Prop :=
 ∀ (zB:Yd) (s:Yl) (σ:St) (H:Hp) (Q:Bool->Hp->Prop),Inv X zB σ H s->t σ H Q ->
  wpAny (model X.prog X.w) X.A (forIn ifs true λc r=>if r=true then do let ok <- isTrue c X.env (eval c X.env);pure (ForInStep.yield ok) else pure (ForInStep.yield r)) (TP X zB σ Q) X.xe s
noncomputable def zXX:TT:=λ_ H Q=>Q true H
theorem zRh:zGk X [] zXX:=λ_ _ _ H _ I h=>wpAny_tests_nil ⟨H,I,h⟩
theorem zRQ (h:PT X c t):zGk X [c] t:=λzB s σ H Q I hq=>wpAny_tests_one (h zB s σ H Q I hq)
section
variable {prog:Ym} {w:Yo} {A:Yn} {E:Yc} {R:Yx} {s:Yl}
theorem zKJ (I:Nat->Shared->Prop)
  (turn:∀ n s,I n s->wpAny (model prog w) A (pyNext it) (λr s₁=>match r with
   |none=>R (.ok .next) s₁
   |some v=>wpAny (model prog w) A (letOwnedTupleGo target it v) (λ_ s₁'=>wpAny (model prog w) A (assign target env v) (λ_ s₂=>
     wpAny (model prog w) A (forIn ifs true λc r=>if r=true then do let ok <- isTrue c env (eval c env);pure (ForInStep.yield ok) else pure (ForInStep.yield r)) (λok s₃=>
      if ok=true then wpAny (model prog w) A (eval elt env) (λx s₄=>
       wpAny (model prog w) A (call (.builtin "list.append") [acc,x]) (λ_ s₅=>∃ m,m<n/\I m s₅) (λ_ _=>False) s₄) (λ_ _=>False) s₃
      else ∃ m,m<n/\I m s₃) (λ_ _=>False) s₂) (λ_ _=>False) s₁') (λ_ _=>False) s₁) (λ_ _=>False) s)
  (n:Nat) (h:I n s) :
  codeAny (model prog w) A (.compLoop (.ListComp elt [⟨target,iter,ifs,0⟩] scope pos) 0 it acc env) R s:=by
 refine codeAny_loop rfl I (λn s hI=>?_) n h;show wpAny _ A ((compTurn (.ListComp elt [⟨target,iter,ifs,0⟩] scope pos) 0 it acc env).onRaise (λx=>do noteFrame x env;theTreesLotGoes x)) _ _ s;refine wpAny_noted ?_;rw[compTurn_list];refine zXn (zYl (zXn (zYJ (turn n s hI) (λr s₁ h₁=>?_) λ_ _ h'=>h'.elim)));cases r with
 |none=>exact zXp h₁
 |some v=>
  refine zXn (zYJ h₁ (λ_ s₁' h₁'=>?_) λ_ _ h'=>h'.elim);refine zXn (zYJ h₁' (λ_ s₂ h₂=>zXn (zYJ h₂ (λok s₃ h₃=>?_) λ_ _ h'=>h'.elim)) λ_ _ h'=>h'.elim);cases ok with
  |false=>exact zXp ⟨rfl,h₃⟩
  |true=>
   exact zXn (zXn (zYJ h₃ (λx s₄ h₄=>zXn (zYJ h₄ (λ_ s₅ h₅=>zXp (zXp ⟨rfl,h₅⟩)) λ_ _ h'=>h'.elim)) λ_ _ h'=>h'.elim))
end
noncomputable def zQd (own:Yj) (wi:TI) (g:TG) (tc:TT) (te:TE):TE:=λσ H Q=>wi σ H λJ H1=>∃ W:Nat->Nat->List V->Hp->Prop,(∃ m,W 0 m [] H1) /\ ∀ i m ys H,W i m ys H ->
 (J.stop i H/\ys.length<=sizeLine /\ ∀ D,H D=none->Q (.ref D) (upd H D (.lst ys))) \/
 (J.go i H /\ ∀ x H',J.yld i H x H'->g x (clr own σ) H' λσ2 H2=>Ext (clr own σ) σ2/\tc σ2 H2 λb H3=>
  if b=true then te σ2 H3 λv H4=>ys.length<sizeLine /\ ∃ m',m'<m/\W (i+1) m' (ys++[v]) H4 else ∃ m',m'<m/\W (i+1) m' ys H3)
noncomputable abbrev zn (its:List Value) (n:Nat):Obj:={ cls:=.type "list", data:=.seq its.toArray n }
section
variable {X:Cx} {zB:Yd} {σ:St} {H:Hp} {s:Yl}
theorem Inv.repin (I:Inv X (pl++[(D,o)]) σ H s) (hpl:∀ p∈X.pn++pl,p.1≠D) (hs:Heap.SameBut D s.heap h') (hD:X.s₀.heap.objs.size<=D) (hc:∀ x c,X.env.cells.lookup x=some c->c≠D)
  (e:h'.get? D=some o') (hn:∀ v,o'.data≠.cell v):Inv X (pl++[(D,o')]) σ H { s with heap:=h' }:=by
 obtain ⟨e0,n0,ne0,nf0,d0⟩:=I.pin (D,o) (by simp);have I1:Inv X pl σ H s:=I.pins_of λp hp=>I.pin p (by simp[hp]);have I2:Inv X pl σ H { s with heap:=h' }:=I1.turned (t':=s.toks) (it:=D) (λb u hb q=>hs.extBut b u hb q) n0 ne0 (.inr hD) hc hpl;exact I2.pins_of λp hp=>by
  rcases zYD.mp hp with z|z
  .exact I2.pin p (zX7 _ z)
  .have:p=(D,o'):=by simpa using z
   subst this;exact ⟨e,n0,ne0,nf0,hn⟩
end
section
variable {X:Cx} {zB:Yd} {σ:St} {H:Hp} {s:Yl} {scope:Y0} {cl:Yv} {fp:Yg} {it:Yt} {tn:Nat->Heap->Prop} {J:It} {tg elt iter:Expr} {ifs:Yi} {pos:Pos}
 {own:Yj} {g:TG} {tc:TT} {te:TE} {E:Yc}
structure CompIn (X:Cx) (scope:Y0) (own:Yj):Prop where
 sc:CompScope X scope
 nm:∀ (i:Nat) x,X.N[i]?=some x->i∈own\/scope.names.lookup x=none\/scope.names.lookup x=some .free
theorem zCU (x:Str) (h:scope.names.lookup x=none):(relabel scope env).names.lookup x=none:=by
 cases q:(relabel scope env).names.lookup x with
 |none=>rfl
 |some k=>
  rcases zBF (scope:=scope) x q with z|z
  .rw[h]at z;cases z
  .rw[h]at z;cases z.1
theorem zHs (C:CompIn X scope own) (hcalm:X.calm=true) (I:Inv X zB σ H s) (T:Turn X.prog X.w X.K tg J fp it tn) (st:tn 0 s.heap) (hf:∀ b∈fp,zCV X zB H b)
  (c1:∀ x c,cl.lookup x=some c->X.env.cells.lookup x=some c) (c2:∀ y∈scope.names,y.2=.free->(cl.lookup y.1).isSome=true)
  (hg:PG (zM X zB scope cl s H fp) tg g) (hi:zGk (zM X zB scope cl s H fp) ifs tc) (he:PE (zM X zB scope cl s H fp) elt te)
  {RR:Value->Addr->Result->Shared->Prop} {QQ:List V->Hp->Prop} {W:Nat->Nat->List V->Hp->Prop} {m0:Nat} (w0:W 0 m0 [] H)
  (turn:∀ i m ys H,W i m ys H->(J.stop i H/\ys.length<=sizeLine/\QQ ys H) \/
   (J.go i H /\ ∀ x H',J.yld i H x H'->g x (clr own σ) H' λσ2 H2=>Ext (clr own σ) σ2/\tc σ2 H2 λb H3=>
    if b=true then te σ2 H3 λv H4=>ys.length<sizeLine /\ ∃ m',m'<m/\W (i+1) m' (ys++[v]) H4 else ∃ m',m'<m/\W (i+1) m' ys H3))
  (fin:∀ σc H' s' its n ys,Inv (zM X zB scope cl s H fp) [(s.heap.objs.size,zn its n)] σc H' s'->zb ys its->ys.length<=sizeLine->QQ ys H'->RR (.ref s.heap.objs.size) (s.heap.objs.size+1) (.ok .next) s') :
  wpAny (model X.prog X.w) X.A (newList []) (λacc s₃=>wpAny (model X.prog X.w) X.A (newFunctionEnv scope X.env.globals cl [] X.env.qual none .none (some X.env)) (λcenv s₄=>
   codeAny (model X.prog X.w) X.A (.compStart (.ListComp elt [⟨tg,iter,ifs,0⟩] scope pos) 0 (.ref it) acc { cenv with scope:=relabel scope X.env }) (RR acc cenv.locals) s₄) E s₃) E s:=by
 have ob:∀ b:Nat,b∈fp->b<s.heap.objs.size:=λb hb=>let ⟨_,e,_⟩:=T.obj 0 _ st b hb;zXy e;refine zYG (zC2 ?_);have sz1:(s.heap.push (zn [] 0)).objs.size=s.heap.objs.size+1:=zYT ..;have I4:=zFe (X:=X) (zB:=zB) (σ:=σ) (σc:=clr own σ) (H:=H) (s:=s) (scope:=scope) (cl:=cl) (fp:=fp) C.sc I hf ob c1 c2 (zBc own σ) (λi x v h1 h2 h3=>by
  obtain ⟨a,b⟩:=zC5 own σ i v h2;rcases C.nm i x h1 with z|z|z
  .exact absurd z b
  .exact absurd (zCU x z) h3
  .exact ⟨z,a⟩) (zn [] 0) (by intro v z;cases z) rfl rfl
 have st4:tn 0 (pushCells ((s.heap.push (zn [] 0)).push { cls:=.type "dict", data:=.dict #[] }) scope.names):=T.keep 0 _ _ st λb _ o e=>pushCells_keeps _ _ b o (zXo _ (zXo _ e));unfold newEnv;rw[sz1];have hDfp:s.heap.objs.size∉fp:=λz=>zYV _ (ob _ z);have hcD:∀ x c,(zM X zB scope cl s H fp).env.cells.lookup x=some c->c≠s.heap.objs.size:=λx c e z=>by
  obtain ⟨v,o,ho,hd⟩:=I4.cell x c e;obtain ⟨q,_⟩:=I4.pin (s.heap.objs.size,zn [] 0) (by simp);rw[z,q]at ho;cases ho;cases hd
 have fpk:∀ {H':Hp} {pl:Yd},(∀ b∈fp,H' b=none)->(∀ p∈pl,p.1=s.heap.objs.size) -> ∀ b∈fp,zCV (zM X zB scope cl s H fp) pl H' b:=λ{H' pl} hn hp b hb=>
  ⟨hn b hb,(I4.ok.exf b hb).1,I4.ok.exfs b hb,.inl hb,(I4.ok.exf b hb).2,λp hq=>by
   rcases zYD.mp hq with z|z
   .exact (hf b hb).2.2.2.2.2 p z
   .intro e;have e2:=hp p z;rw[e]at e2;exact hDfp (e2▸hb)⟩
 have loop:codeAny (model X.prog X.w) X.A (.compLoop (.ListComp elt [⟨tg,iter,ifs,0⟩] scope pos) 0 (.ref it) (.ref s.heap.objs.size) (zM X zB scope cl s H fp).env) (RR (.ref s.heap.objs.size) (s.heap.objs.size+1))
   { s with heap:=pushCells ((s.heap.push (zn [] 0)).push { cls:=.type "dict", data:=.dict #[] }) scope.names }:=by
  refine zKJ (λn s'=>∃ i H' ys its k,Inv (zM X zB scope cl s H fp) [(s.heap.objs.size,zn its k)] (clr own σ) H' s'/\zb ys its/\tn i s'.heap/\(∀ b∈fp,H' b=none)/\W i n ys H') ?_ m0
   ⟨0,H,[],[],0,I4,.nil,st4,λb hb=>(hf b hb).1,w0⟩
  rintro n s5 ⟨i,H5,ys,its,k,I5,r5,st5,f5,w5⟩;have pinD:∀ p∈[(s.heap.objs.size,zn its k)],p.1=s.heap.objs.size:=λp hp=>by
   have:p=(s.heap.objs.size,zn its k):=by simpa using hp
   rw[this]
  rcases turn i n ys H5 w5 with ⟨stop,hz,qq⟩|⟨go,step⟩
  .refine thn (T.done (zM X zB scope cl s H fp) rfl rfl rfl hcalm i _ s5 _ H5 _ I5 (fpk f5 pinD) st5 stop) λr s6 ⟨hr,I6⟩=>?_;subst hr;exact fin _ H5 s6 its k ys I6 r5 hz qq
  .refine thn (T.item (zM X zB scope cl s H fp) rfl rfl rfl hcalm i _ s5 _ H5 _ I5 (fpk f5 pinD) st5 go) λr s6 ⟨u,hr,h6⟩=>?_;subst hr;refine thn h6 λ_ s7 ⟨x,H7,I7,r7,y7,st7,f7⟩=>?_;have I7':=I7.pinned (fpk f7 pinD) (T.obj _ _ st7);refine thn (hg _ s7 _ H7 x u _ I7' r7 (step x H7 y7)) λ_ s8 ⟨σ8,H8,I8,x8,q8⟩=>?_;refine thn (hi _ s8 σ8 H8 _ I8 q8) λok s9 ⟨H9,I9,q9⟩=>?_;have back:∀ {s':Yl} {Hx:Hp},Inv (zM X zB scope cl s H fp) ([(s.heap.objs.size,zn its k)]++zDD fp s7.heap) σ8 Hx s'->tn (i+1) s'.heap /\ ∀ b∈fp,Hx b=none:=λ{s' Hx} Ix=>
    ⟨T.keep _ _ _ st7 λb hb o e=>(Ix.pin (b,o) (zX7 _ (zX7 _ (zAT hb e)))).1,λb hb=>by
     obtain ⟨o,e,d⟩:=T.obj _ _ st7 b hb;exact (Ix.pin (b,o) (zX7 _ (zX7 _ (zAT hb e)))).2.1⟩
   cases ok with
   |false=>
    obtain ⟨m',hm,w'⟩:=q9;obtain ⟨b1,b2⟩:=back I9;exact ⟨m',hm,i+1,H9,ys,its,k,(I9.weak (by rw[x8.1]) x8.2).unpinned,r5,b1,b2,w'⟩
   |true=>
    refine thn (he _ s9 σ8 H9 _ I9 q9) λv s10 ⟨y,H10,I10,r10,hlt,m',hm,w'⟩=>?_;obtain ⟨b1,b2⟩:=back I10;have J10:=(I10.weak (by rw[x8.1]) x8.2).unpinned;obtain ⟨e10,n10,ne10,nf10,d10⟩:=J10.pin (s.heap.objs.size,zn its k) (by simp);have hlen:its.toArray.size<=sizeLine:=by
     have:=r5.length;rw[zXv,<-this];exact Nat.le_of_lt hlt
    refine wpAny_list_append_plain (hsz:=hlen) (show s10.heap.PlainList s.heap.objs.size its.toArray from ⟨k,e10⟩) λh' hl' hs'=>?_;obtain ⟨k',e'⟩:=hl';have e'':h'.get? s.heap.objs.size=some (zn (its++[v]) k'):=by rw[e'];simp[zn]
    refine ⟨m',hm,i+1,H10,ys++[y],its++[v],k',?_,r5.append (.cons r10 .nil),T.keep _ _ _ b1 λb hb o e=>hs'.extBut b o (λz=>hDfp (z▸hb)) e,b2,w'⟩;refine Inv.repin (pl:=[]) J10 (λp hp=>?_) hs' (zXt _) hcD e'' (by intro v z;cases z);rw[zYX]at hp;have hp':p∈X.pn++zB:=hp;exact zX8 (zXy (I.pin p hp').1)
 exact codeAny_compStart_list loop (T.self _ 0 _ _ _ st4 loop)
end
section
variable {X:Cx} {zB:Yd} {σ:St} {H:Hp} {s:Yl} {scope:Y0} {cl:Yv} {fp:Yg}
theorem zH9 (I:Inv X zB σ H s) (hf:∀ b∈fp,zCV X zB H b)
  (Ic:Inv (zM X zB scope cl s H fp) [(s.heap.objs.size,zn its n)] σc H' s') (rv:zb ys its) (hz:ys.length<=sizeLine) (hs:Heap.SameBut (s.heap.objs.size+1) s'.heap h') :
  Inv X zB σ (upd H' s.heap.objs.size (.lst ys)) { s' with heap:=h' }/\H' s.heap.objs.size=none:=by
 obtain ⟨eD,nD,_⟩:=Ic.pin (s.heap.objs.size,zn its n) (by simp);have nC:H' (s.heap.objs.size+1)=none:=Ic.free;have eD':h'.get? s.heap.objs.size=some (zn its n):=hs.extBut _ _ (zX8 (zYk _)) eD;have lt1:∀ {b:Yt} {o:Obj},s.heap.get? b=some o->b≠s.heap.objs.size+1/\b≠s.heap.objs.size:=λe=>⟨zX8 (zYc (zXy e)),zX8 (zXy e)⟩;have tr:∀ b u,H' b=some u->b≠s.heap.objs.size+1/\b≠s.heap.objs.size:=λb u e=>⟨λz=>(by rw[z,nC]at e;cases e),λz=>(by rw[z,nD]at e;cases e)⟩;refine ⟨?_,nD⟩;have B:=Ic.base;have un:Un (frs X.stack) fp H (upd H' s.heap.objs.size (.lst ys)) s.heap h':=by
  refine ⟨λb o e q hb hx=>hs.extBut b o (lt1 e).1 (B.keep b o e q hb hx),λb o e q hb hx=>?_,λb o e q hx=>?_,λb o e hx=>?_,λb xs e=>?_,λb o xs e=>?_,λb ps e=>?_⟩
  .obtain ⟨sl,e1⟩:=B.slot b o e q hb hx;exact ⟨sl,hs.extBut b _ (lt1 e).1 e1⟩
  .rw[zZ (lt1 e).2];exact B.free b o e q hx
  .obtain ⟨o',e1⟩:=B.there b o e hx;exact ⟨o',hs.extBut b _ (lt1 e).1 e1⟩
  .have q:=B.tups b xs e;rw[zZ (tr b _ q).2];exact q
  .have q:=B.frzs b o xs e;rw[zZ (tr b _ q).2];exact q
  .obtain ⟨more,q⟩:=B.tbls b ps e;exact ⟨more,by rw[zZ (tr b _ q).2];exact q⟩
 have hok:HOk X.prog X.w (upd H' s.heap.objs.size (.lst ys)) h':=λb u e=>by
  by_cases hb:b=s.heap.objs.size
  .subst hb;rw[zAH]at e;cases e;exact ⟨hz,its,n,rv,eD'⟩
  .rw[zZ hb]at e;refine (Ic.hok b u e).stay (λc v hc q=>hs.extBut c v ?_ q) (λc q=>by rw[zZ (tr c _ q).2];exact q) λc xs q=>by rw[zZ (tr c _ q).2];exact q
   rcases hc with z|z
   .rw[z];exact (tr b u e).1
   .exact (tr c _ z).1
 exact I.call' (s':={ s' with heap:=h' }) (ch:=fp) Ic.os un hok Ic.bare λb hb=>⟨(hf b hb).2.2.2.1,(hf b hb).2.1,(hf b hb).2.2.2.2.1,(hf b hb).2.2.2.2.2⟩
end
section
variable {X:Cx} {scope:Y0} {tg elt iter:Expr} {ifs:Yi} {pos:Pos} {own:Yj} {wi:TI} {g:TG} {tc:TT} {te:TE}
structure CompParts (X:Cx) (scope:Y0) (tg:Expr) (ifs:Yi) (elt:Expr) (g:TG) (tc:TT) (te:TE):Prop where
 g:∀ zB cl s H fp,PG (zM X zB scope cl s H fp) tg g
 c:∀ zB cl s H fp,zGk (zM X zB scope cl s H fp) ifs tc
 e:∀ zB cl s H fp,PE (zM X zB scope cl s H fp) elt te
theorem CompScope.closure (S:CompScope X scope) (I:Inv X zB σ H s) :
  ∃ cl,closureFor scope X.env=pure cl/\(∀ x c,cl.lookup x=some c->X.env.cells.lookup x=some c) /\ ∀ y∈scope.names,y.2=.free->(cl.lookup y.1).isSome=true :=
 zIS λy hy hk=>I.ok.has y.1 (S.free y hy hk)
theorem zS2 (C:CompIn X scope own) (hcalm:X.calm=true) (hi:PI X tg iter wi) (p:CompParts X scope tg ifs elt g tc te) (hs:∀ x,foldedSetIterable iter X.env x=pure x:=by intro _;rfl) :
  PE X (.ListComp elt [⟨tg,iter,ifs,0⟩] scope pos) (zQd own wi g tc te):=by
 intro zB s σ H Q I h;obtain ⟨cl,hcl,c1,c2⟩:=C.sc.closure I;rw[eval_ListComp];refine zZh (use:=none) rfl hs hcl C.sc.kind C.sc.names (thn (hi zB s σ H _ I h) λv s1 h1=>thn h1 λitv s2 h2=>?_);obtain ⟨it,fp,tn,J,H2,e,I2,T,st2,f2,W,⟨m0,w0⟩,turn⟩:=h2;subst e;refine zHs C hcalm I2 T st2 f2 c1 c2 (p.g _ _ _ _ _) (p.c _ _ _ _ _) (p.e _ _ _ _ _) (RR:=λacc C r s'=>compPost (model X.prog X.w) X.A X.xe none (EP X zB σ Q) acc C r s') (QQ:=λys H=>∀ D,H D=none->Q (.ref D) (upd H D (.lst ys))) w0 turn ?_;intro σc H' s' its n ys Ic rv hz qq;obtain ⟨m,hn,_⟩:=Ic.loc;refine ⟨m,hn,λh' hs'=>?_⟩;obtain ⟨J',nD⟩:=zH9 I2 f2 Ic rv hz hs';exact ⟨.ref s2.heap.objs.size,_,J',rfl,qq _ nD⟩
theorem zMm (hN:X.N.Nodup) (hi':X.N[i]?=some x) (hx:Loc X.env.scope x) (hfn:X.fn x=true\/X.env.scope.names.lookup x=some .local)
  (C:CompIn X scope own) (hcalm:X.calm=true) (hi:PI X tg iter wi) (p:CompParts X scope tg ifs elt g tc te)
  (hsw:swapsWith (.ListComp elt [⟨tg,iter,ifs,0⟩] scope pos) (some (.Name x pos')) pos''.line X.env=pure true) (hs:∀ x,foldedSetIterable iter X.env x=pure x:=by intro _;rfl) :
  PS X (.Assign [.Name x pos'] (.ListComp elt [⟨tg,iter,ifs,0⟩] scope pos) pos'') (zQ5 (zQd own wi g tc te) (zCs i)):=by
 intro zB s σ H D I h;obtain ⟨cl,hcl,c1,c2⟩:=C.sc.closure I;rw[exec_Assign_Name_used _ _ _ _ hsw];refine zXn (zYl (zXn ?_))
 refine zXn (zYJ (zZh (use:=some (assign (.Name x pos') X.env)) (Q:=λ_ s'=>SP X zB D .next s') rfl hs hcl C.sc.kind C.sc.names
  (thn (hi zB s σ H _ I h) λv s1 h1=>thn h1 λitv s2 h2=>?_)) (λ_ s' hq=>zXp (zXp hq)) λ_ _ e=>e)
 obtain ⟨it,fp,tn,J,H2,e,I2,T,st2,f2,W,⟨m0,w0⟩,turn⟩:=h2;subst e
 refine zHs C hcalm I2 T st2 f2 c1 c2 (p.g _ _ _ _ _) (p.c _ _ _ _ _) (p.e _ _ _ _ _) (RR:=λacc C r s'=>compPost (model X.prog X.w) X.A X.xe (some (assign (.Name x pos') X.env)) (λ_ s'=>SP X zB D .next s') acc C r s')
  (QQ:=λys H=>∀ E,H E=none->zCs i (.ref E) σ (upd H E (.lst ys)) D.nx) w0 turn ?_
 intro σc H' s' its n ys Ic rv hz qq;obtain ⟨m,hn,_⟩:=Ic.loc;obtain ⟨J',nD⟩:=zH9 (h':=s'.heap) I2 f2 Ic rv hz (.refl ..);obtain ⟨oC,es,ep,hoC,hdC,r1,r2⟩:=id hn;have nC:upd H' s2.heap.objs.size (.lst ys) (s2.heap.objs.size+1)=none:=by rw[zZ (zZI (zYk _))];exact Ic.free
 have K':Inv X (zB++[(s2.heap.objs.size+1,oC)]) σ (upd H' s2.heap.objs.size (.lst ys)) s':=J'.pins_of λq hq=>by
  rcases zYD.mp hq with z|z
  .exact J'.pin q (zX7 _ z)
  .have e:q=(s2.heap.objs.size+1,oC):=by simpa using z
   subst e;refine ⟨hoC,nC,zZI (zYc I2.lt),I2.nofs (zZV _),λv z=>?_⟩;have z':oC.data=.cell v:=z;rw[hdC]at z';cases z'
 refine thn (zKr hN hi' hx hfn _ s' σ _ (.ref s2.heap.objs.size) (.ref s2.heap.objs.size) _ K' rfl (qq _ nD)) λ_ s'' ⟨σ'',H'',I'',q''⟩=>?_;obtain ⟨eC,_⟩:=I''.pin (s2.heap.objs.size+1,oC) (by simp);refine ⟨m,⟨oC,es,ep,eC,hdC,r1,r2⟩,λh' hs'=>⟨σ'',H'',?_,q''⟩⟩;have I3:Inv X zB σ'' H'' s'':=I''.unpinned;obtain ⟨_,nC'',neC,_,_⟩:=I''.pin (s2.heap.objs.size+1,oC) (by simp);refine I3.turned (t':=s''.toks) (it:=s2.heap.objs.size+1) (λb o hb e=>hs'.extBut b o hb e) nC'' neC (.inr (zYE I2.sz (zZV _))) (λx c e z=>?_) (λq hq z=>?_)
 .obtain ⟨v,o,ho,hd⟩:=I3.cell x c e;rw[z,eC]at ho;cases ho;rw[hdC]at hd;cases hd
 .obtain ⟨e,_⟩:=I2.pin q hq;exact zX8 (zYc (zXy e)) z
end
noncomputable abbrev zBh (elt t1 i1:Expr) (f1:Yi) (t2 i2:Expr) (f2:Yi) (scope:Y0) (pos:Pos):Expr:=.ListComp elt [⟨t1,i1,f1,0⟩,⟨t2,i2,f2,0⟩] scope pos
theorem zID (elt t1 i1:Expr) (f1:Yi) (t2 i2:Expr) (f2:Yi) (scope:Y0) (pos:Pos) (it acc:Yu) (env:Env) :
  compTurn (zBh elt t1 i1 f1 t2 i2 f2 scope pos) 0 it acc env=(do
   standAt i1.pos;match <- pyNext it with
   |none=>pure (.done .next)
   |some v=>
    letOwnedTupleGo t1 it v;assign t1 env v;let mut ok:=true
    for c in f1 do
     if ok then ok <- isTrue c env (eval c env)
    if ok then
     let x <- eval i2 env;standAt i2.pos;let x <- foldedSetIterable i2 env x;let _ <- runOwn (.compStart (zBh elt t1 i1 f1 t2 i2 f2 scope pos) 1 (<- holding [x] (pyIter x)) acc env) env
    again (.compLoop (zBh elt t1 i1 f1 t2 i2 f2 scope pos) 0 it acc env)):=by rfl
theorem zKZ (elt t1 i1:Expr) (f1:Yi) (t2 i2:Expr) (f2:Yi) (scope:Y0) (pos:Pos) (it acc:Yu) (env:Env) :
  compTurn (zBh elt t1 i1 f1 t2 i2 f2 scope pos) 1 it acc env=(do
   standAt i2.pos;match <- pyNext it with
   |none=>pure (.done .next)
   |some v=>
    letOwnedTupleGo t2 it v;assign t2 env v;let mut ok:=true
    for c in f2 do
     if ok then ok <- isTrue c env (eval c env)
    if ok then
     (do let _ <- call (.builtin "list.append") [acc,<-eval elt env])
    again (.compLoop (zBh elt t1 i1 f1 t2 i2 f2 scope pos) 1 it acc env)):=by rfl
section
variable {prog:Ym} {w:Yo} {A:Yn} {E:Yc} {R:Yx} {s:Yl}
variable {elt t1 i1 t2 i2:Expr} {f1 f2:Yi} {scope:Y0} {pos:Pos} {it acc:Yu} {env:Env}
theorem zKC (I:Nat->Shared->Prop)
  (turn:∀ n s,I n s->wpAny (model prog w) A (pyNext it) (λr s₁=>match r with
   |none=>R (.ok .next) s₁
   |some v=>wpAny (model prog w) A (letOwnedTupleGo t2 it v) (λ_ s₁'=>wpAny (model prog w) A (assign t2 env v) (λ_ s₂=>
     wpAny (model prog w) A (forIn f2 true λc r=>if r=true then do let ok <- isTrue c env (eval c env);pure (ForInStep.yield ok) else pure (ForInStep.yield r)) (λok s₃=>
      if ok=true then wpAny (model prog w) A (eval elt env) (λx s₄=>
       wpAny (model prog w) A (call (.builtin "list.append") [acc,x]) (λ_ s₅=>∃ m,m<n/\I m s₅) (λ_ _=>False) s₄) (λ_ _=>False) s₃
      else ∃ m,m<n/\I m s₃) (λ_ _=>False) s₂) (λ_ _=>False) s₁') (λ_ _=>False) s₁) (λ_ _=>False) s)
  (n:Nat) (h:I n s) :
  codeAny (model prog w) A (.compLoop (zBh elt t1 i1 f1 t2 i2 f2 scope pos) 1 it acc env) R s:=by
 refine codeAny_loop rfl I (λn s hI=>?_) n h;show wpAny _ A ((compTurn (zBh elt t1 i1 f1 t2 i2 f2 scope pos) 1 it acc env).onRaise (λx=>do noteFrame x env;theTreesLotGoes x)) _ _ s;refine wpAny_noted ?_;rw[zKZ];refine zXn (zYl (zXn (zYJ (turn n s hI) (λr s₁ h₁=>?_) λ_ _ h'=>h'.elim)));cases r with
 |none=>exact zXp h₁
 |some v=>
  refine zXn (zYJ h₁ (λ_ s₁' h₁'=>?_) λ_ _ h'=>h'.elim);refine zXn (zYJ h₁' (λ_ s₂ h₂=>zXn (zYJ h₂ (λok s₃ h₃=>?_) λ_ _ h'=>h'.elim)) λ_ _ h'=>h'.elim);cases ok with
  |false=>exact zXp ⟨rfl,h₃⟩
  |true=>
   exact zXn (zXn (zYJ h₃ (λx s₄ h₄=>zXn (zYJ h₄ (λ_ s₅ h₅=>zXp (zXp ⟨rfl,h₅⟩)) λ_ _ h'=>h'.elim)) λ_ _ h'=>h'.elim))
theorem zIg
  (h0:codeAny (model prog w) A (.compLoop (zBh elt t1 i1 f1 t2 i2 f2 scope pos) 1 it acc env) R s)
  (h:wpAny (model prog w) A (pyIter it) (λit' s'=>codeAny (model prog w) A (.compLoop (zBh elt t1 i1 f1 t2 i2 f2 scope pos) 1 it' acc env) R s')
   (notedBy (model prog w) A env λx s'=>R (.error x) s') s) :
  codeAny (model prog w) A (.compStart (zBh elt t1 i1 f1 t2 i2 f2 scope pos) 1 it acc env) R s:=by
 refine codeAny_of_tree ?_;show wpAny _ _ ((compStart (zBh elt t1 i1 f1 t2 i2 f2 scope pos) 1 it acc env).onRaise (λx=>do noteFrame x env;standAt theWindowsPlace)) _ _ s;refine wpAny_notedAt ?_;unfold compStart;refine zXn (wpAny_askSetting (wpAny_ite ?_));split
 .first
   |exact zXn (zXp (zXp (And.intro rfl h0)))
   |exact zXp (And.intro rfl h0)
 .first
   |exact zXn (zZA (zXn (zYl (zXn (zYJ h (λit' s' h'=>zXp (And.intro rfl h')) λ_ _ x=>x)))))
   | (refine zXn (zZA ?_);show wpAny _ _ (standAt i2.pos >>= _) _ _ s;exact zXn (zYl (zXn (zYJ h (λit' s' h'=>zXp (And.intro rfl h')) λ_ _ x=>x))))
theorem zIY (hs2:∀ x,foldedSetIterable i2 env x=pure x) (I:Nat->Shared->Prop)
  (turn:∀ n s,I n s->wpAny (model prog w) A (pyNext it) (λr s₁=>match r with
   |none=>R (.ok .next) s₁
   |some v=>wpAny (model prog w) A (letOwnedTupleGo t1 it v) (λ_ s₁'=>wpAny (model prog w) A (assign t1 env v) (λ_ s₂=>
     wpAny (model prog w) A (forIn f1 true λc r=>if r=true then do let ok <- isTrue c env (eval c env);pure (ForInStep.yield ok) else pure (ForInStep.yield r)) (λok s₃=>
      if ok=true then wpAny (model prog w) A (eval i2 env) (λx s₄=>wpAny (model prog w) A (pyIter x) (λit2 s₅=>
       codeAny (model prog w) A (.compStart (zBh elt t1 i1 f1 t2 i2 f2 scope pos) 1 it2 acc env) (λr s₆=>r=.ok .next /\ ∃ m,m<n/\I m s₆) s₅) (λ_ _=>False) s₄) (λ_ _=>False) s₃
      else ∃ m,m<n/\I m s₃) (λ_ _=>False) s₂) (λ_ _=>False) s₁') (λ_ _=>False) s₁) (λ_ _=>False) s)
  (n:Nat) (h:I n s) :
  codeAny (model prog w) A (.compLoop (zBh elt t1 i1 f1 t2 i2 f2 scope pos) 0 it acc env) R s:=by
 refine codeAny_loop rfl I (λn s hI=>?_) n h;show wpAny _ A ((compTurn (zBh elt t1 i1 f1 t2 i2 f2 scope pos) 0 it acc env).onRaise (λx=>do noteFrame x env;theTreesLotGoes x)) _ _ s;refine wpAny_noted ?_;rw[zID];refine zXn (zYl (zXn (zYJ (turn n s hI) (λr s₁ h₁=>?_) λ_ _ h'=>h'.elim)));cases r with
 |none=>exact zXp h₁
 |some v=>
  refine zXn (zYJ h₁ (λ_ s₁' h₁'=>?_) λ_ _ h'=>h'.elim);refine zXn (zYJ h₁' (λ_ s₂ h₂=>zXn (zYJ h₂ (λok s₃ h₃=>?_) λ_ _ h'=>h'.elim)) λ_ _ h'=>h'.elim);cases ok with
  |false=>exact zXp ⟨rfl,h₃⟩
  |true=>
   refine zXn (zYJ h₃ (λx s₄ h₄=>zXn (zYl (zXn (wpAny_of_eq (hs2 x) (zXn (zYg (zYJ h₄ (λit2 s₅ h₅=>?_) λ_ _ h'=>h'.elim))))))) λ_ _ h'=>h'.elim);refine zXn (wpAny_runOwn (codeAny_mono h₅ λr s₆ hr=>?_));obtain ⟨rfl,hr⟩:=hr;exact zXp ⟨rfl,hr⟩
end
def tIn (own2:Yj) (wi2:TI) (g2:TG) (tc2:TT) (te:TE) (σ2:St) (H3:Hp) (ys:List V) (QQ:List V->Hp->Prop):Prop :=
 wi2 σ2 H3 λJ2 H4=>∃ W2:Nat->Nat->List V->Hp->Prop,(∃ m,W2 0 m ys H4) /\ ∀ j m zs H,W2 j m zs H ->
  (J2.stop j H/\QQ zs H) \/
  (J2.go j H /\ ∀ x H',J2.yld j H x H'->g2 x (clr own2 σ2) H' λσ3 H5=>Ext (clr own2 σ2) σ3/\tc2 σ3 H5 λb H6=>
   if b=true then te σ3 H6 λv H7=>zs.length<sizeLine /\ ∃ m',m'<m/\W2 (j+1) m' (zs++[v]) H7 else ∃ m',m'<m/\W2 (j+1) m' zs H6)
section
variable {C:Cx} {elt t1 i1 t2 i2:Expr} {f1 f2:Yi} {scope:Y0} {pos:Pos} {pl:Yd} {σ:St} {H:Hp} {s:Yl} {D:Yt}
 {own2:Yj} {wi2:TI} {g2:TG} {tc2:TT} {te:TE} {R:Yx}
theorem zQJ (hxe:C.xe=λ_ _=>False) (hcalm:C.calm=true) (hi:PI C t2 i2 wi2) (hg:PG C t2 g2) (hc:zGk C f2 tc2) (he:PE C elt te) (hD:C.s₀.heap.objs.size<=D)
  (hcD:∀ x c,C.env.cells.lookup x=some c->c≠D) (hpl:∀ p∈C.pn++pl,p.1≠D) (I:Inv C (pl++[(D,zn its k)]) σ H s) (rv:zb ys its) (h:tIn own2 wi2 g2 tc2 te σ H ys QQ)
  (fin:∀ s' H' its' k' zs,Inv C (pl++[(D,zn its' k')]) (clr own2 σ) H' s'->zb zs its'->QQ zs H'->R (.ok .next) s') :
  wpAny (model C.prog C.w) C.A (eval i2 C.env) (λx s₄=>wpAny (model C.prog C.w) C.A (pyIter x) (λit2 s₅=>
   codeAny (model C.prog C.w) C.A (.compStart (zBh elt t1 i1 f1 t2 i2 f2 scope pos) 1 it2 (.ref D) C.env) R s₅) (λ_ _=>False) s₄) (λ_ _=>False) s:=by
 have hpi:=hi _ s σ H _ I h;rw[hxe]at hpi;refine thn hpi λv s1 h1=>thn h1 λitv s2 h2=>?_;obtain ⟨it,fp,tn,J,H2,e,I2,T,st2,f2',W,⟨m0,w0⟩,turn⟩:=h2;subst e;have hDfp:D∉fp:=λz=>(f2' D z).2.2.2.2.2 (D,zn its k) (by simp) rfl;have loop:∀ s',(∃ H',Inv C (pl++[(D,zn its k)]) (clr own2 σ) H' s'/\tn 0 s'.heap/\(∀ b∈fp,H' b=none)/\W 0 m0 ys H')->codeAny (model C.prog C.w) C.A (.compLoop (zBh elt t1 i1 f1 t2 i2 f2 scope pos) 1 (.ref it) (.ref D) C.env) R s':=by
  rintro s' ⟨H',I',st',hn',w'⟩;have fpk:∀ {H':Hp} {its:Yf} {k:Nat},(∀ b∈fp,H' b=none) -> ∀ b∈fp,zCV C (pl++[(D,zn its k)]) H' b:=λ{H' its k} hn b hb=>by
   obtain ⟨_,a2,a3,a4,a5,a6⟩:=f2' b hb;refine ⟨hn b hb,a2,a3,a4,a5,λp hp=>?_⟩;rcases zYD.mp hp with z|z
   .exact a6 p (zY2 _ z)
   .rcases zYD.mp z with z|z
    .exact a6 p (zX7 _ (zY2 _ z))
    .have:p=(D,zn its k):=by simpa using z
     rw[this];intro q;have q':D=b:=q;exact hDfp (q'▸hb)
  refine zKC (λn s'=>∃ i H' ys its k,Inv C (pl++[(D,zn its k)]) (clr own2 σ) H' s'/\zb ys its/\tn i s'.heap/\(∀ b∈fp,H' b=none)/\W i n ys H') ?_ m0 ⟨0,H',ys,its,k,I',rv,st',hn',w'⟩;rintro n s5 ⟨i,H5,ys,its,k,I5,r5,st5,f5,w5⟩;rcases turn i n ys H5 w5 with ⟨stop,qq⟩|⟨go,step⟩
  .refine thn (T.done C rfl rfl rfl hcalm i _ s5 _ H5 _ I5 (fpk f5) st5 stop) λr s6 ⟨hr,I6⟩=>?_;subst hr;exact fin s6 H5 its k ys I6 r5 qq
  .refine thn (T.item C rfl rfl rfl hcalm i _ s5 _ H5 _ I5 (fpk f5) st5 go) λr s6 ⟨u,hr,h6⟩=>?_;subst hr;refine thn h6 λ_ s7 ⟨x,H7,I7,r7,y7,st7,f7⟩=>?_;have I7':=I7.pinned (fpk f7) (T.obj _ _ st7);have hgg:=hg _ s7 _ H7 x u _ I7' r7 (step x H7 y7);rw[hxe]at hgg;refine thn hgg λ_ s8 ⟨σ8,H8,I8,x8,q8⟩=>?_;have hcc:=hc _ s8 σ8 H8 _ I8 q8;rw[hxe]at hcc;refine thn hcc λok s9 ⟨H9,I9,q9⟩=>?_;have back:∀ {s':Yl} {Hx:Hp},Inv C ((pl++[(D,zn its k)])++zDD fp s7.heap) σ8 Hx s'->tn (i+1) s'.heap /\ ∀ b∈fp,Hx b=none:=λ{s' Hx} Ix=>
    ⟨T.keep _ _ _ st7 λb hb o e=>(Ix.pin (b,o) (zX7 _ (zX7 _ (zAT hb e)))).1,λb hb=>by
     obtain ⟨o,e,d⟩:=T.obj _ _ st7 b hb;exact (Ix.pin (b,o) (zX7 _ (zX7 _ (zAT hb e)))).2.1⟩
   cases ok with
   |false=>
    obtain ⟨m',hm,w'⟩:=q9;obtain ⟨b1,b2⟩:=back I9;exact ⟨m',hm,i+1,H9,ys,its,k,(I9.weak (by rw[x8.1]) x8.2).unpinned,r5,b1,b2,w'⟩
   |true=>
    have hee:=he _ s9 σ8 H9 _ I9 q9;rw[hxe]at hee;refine thn hee λv s10 ⟨y,H10,I10,r10,hlt,m',hm,w'⟩=>?_;obtain ⟨b1,b2⟩:=back I10;have J10:=(I10.weak (by rw[x8.1]) x8.2).unpinned;obtain ⟨e10,n10,ne10,nf10,d10⟩:=J10.pin (D,zn its k) (by simp);have hlen:its.toArray.size<=sizeLine:=by
     have:=r5.length;rw[zXv,<-this];exact Nat.le_of_lt hlt
    refine wpAny_list_append_plain (hsz:=hlen) (show s10.heap.PlainList D its.toArray from ⟨k,e10⟩) λh' hl' hs'=>?_;obtain ⟨k',e'⟩:=hl';have e'':h'.get? D=some (zn (its++[v]) k'):=by rw[e'];simp[zn]
    refine ⟨m',hm,i+1,H10,ys++[y],its++[v],k',?_,r5.append (.cons r10 .nil),T.keep _ _ _ b1 λb hb o e=>hs'.extBut b o (λz=>hDfp (z▸hb)) e,b2,w'⟩;exact Inv.repin (pl:=pl) J10 hpl hs' hD hcD e'' (by intro v z;cases z)
 have l0:=loop s2 ⟨H2,I2.weak (zBc own2 σ) (λi v h=>(zC5 own2 σ i v h).1),st2,λb hb=>(f2' b hb).1,w0⟩;exact zIg l0 (T.self _ 0 _ _ _ st2 l0)
end
section
variable {X:Cx} {zB:Yd} {σ:St} {H:Hp} {s:Yl} {scope:Y0} {cl:Yv} {fp:Yg} {it:Yt} {tn:Nat->Heap->Prop} {J:It} {elt t1 i1 t2 i2:Expr} {f1 f2:Yi} {pos:Pos}
 {own own2:Yj} {g g2:TG} {tc tc2:TT} {te:TE} {wi wi2:TI} {E:Yc}
theorem zLs:∀ (own:Yj) (σ:St) (j:Nat),j∉own->(clr own σ)[j]?=σ[j]?
 |[],_,_,_=>rfl
 |i::r,σ,j,h=>by
  show (clr r (σ.set i none))[j]?=_;rw[zLs r _ j (λz=>h (zX0 _ z)),zYH (λz=>h (by rw[z];exact zX1))]
theorem zKw (hsub:∀ i∈own2,i∈own) (C:CompIn X scope own) (hcalm:X.calm=true) (I:Inv X zB σ H s) (T:Turn X.prog X.w X.K t1 J fp it tn) (st:tn 0 s.heap) (hf:∀ b∈fp,zCV X zB H b)
  (c1:∀ x c,cl.lookup x=some c->X.env.cells.lookup x=some c) (c2:∀ y∈scope.names,y.2=.free->(cl.lookup y.1).isSome=true)
  (hg:PG (zM X zB scope cl s H fp) t1 g) (hi:zGk (zM X zB scope cl s H fp) f1 tc)
  (hi2:PI (zM X zB scope cl s H fp) t2 i2 wi2) (hg2:PG (zM X zB scope cl s H fp) t2 g2) (hc2:zGk (zM X zB scope cl s H fp) f2 tc2) (he:PE (zM X zB scope cl s H fp) elt te)
  (hs2:∀ x,foldedSetIterable i2 (zM X zB scope cl s H fp).env x=pure x)
  {RR:Value->Addr->Result->Shared->Prop} {QQ:List V->Hp->Prop} {W:Nat->Nat->List V->Hp->Prop} {m0:Nat} (w0:W 0 m0 [] H)
  (turn:∀ i m ys H,W i m ys H->(J.stop i H/\ys.length<=sizeLine/\QQ ys H) \/
   (J.go i H /\ ∀ x H',J.yld i H x H'->g x (clr own σ) H' λσ2 H2=>Ext (clr own σ) σ2/\tc σ2 H2 λb H3=>
    if b=true then tIn own2 wi2 g2 tc2 te σ2 H3 ys λzs H4=>∃ m',m'<m/\W (i+1) m' zs H4 else ∃ m',m'<m/\W (i+1) m' ys H3))
  (fin:∀ σc H' s' its n ys,Inv (zM X zB scope cl s H fp) [(s.heap.objs.size,zn its n)] σc H' s'->zb ys its->ys.length<=sizeLine->QQ ys H'->RR (.ref s.heap.objs.size) (s.heap.objs.size+1) (.ok .next) s') :
  wpAny (model X.prog X.w) X.A (newList []) (λacc s₃=>wpAny (model X.prog X.w) X.A (newFunctionEnv scope X.env.globals cl [] X.env.qual none .none (some X.env)) (λcenv s₄=>
   codeAny (model X.prog X.w) X.A (.compStart (zBh elt t1 i1 f1 t2 i2 f2 scope pos) 0 (.ref it) acc { cenv with scope:=relabel scope X.env }) (RR acc cenv.locals) s₄) E s₃) E s:=by
 have ob:∀ b:Nat,b∈fp->b<s.heap.objs.size:=λb hb=>let ⟨_,e,_⟩:=T.obj 0 _ st b hb;zXy e;refine zYG (zC2 ?_);have sz1:(s.heap.push (zn [] 0)).objs.size=s.heap.objs.size+1:=zYT ..;have I4:=zFe (X:=X) (zB:=zB) (σ:=σ) (σc:=clr own σ) (H:=H) (s:=s) (scope:=scope) (cl:=cl) (fp:=fp) C.sc I hf ob c1 c2 (zBc own σ) (λi x v h1 h2 h3=>by
  obtain ⟨a,b⟩:=zC5 own σ i v h2;rcases C.nm i x h1 with z|z|z
  .exact absurd z b
  .exact absurd (zCU x z) h3
  .exact ⟨z,a⟩) (zn [] 0) (by intro v z;cases z) rfl rfl
 have st4:tn 0 (pushCells ((s.heap.push (zn [] 0)).push { cls:=.type "dict", data:=.dict #[] }) scope.names):=T.keep 0 _ _ st λb _ o e=>pushCells_keeps _ _ b o (zXo _ (zXo _ e));unfold newEnv;rw[sz1];have hDfp:s.heap.objs.size∉fp:=λz=>zYV _ (ob _ z);have hcD:∀ x c,(zM X zB scope cl s H fp).env.cells.lookup x=some c->c≠s.heap.objs.size:=λx c e z=>by
  obtain ⟨v,o,ho,hd⟩:=I4.cell x c e;obtain ⟨q,_⟩:=I4.pin (s.heap.objs.size,zn [] 0) (by simp);rw[z,q]at ho;cases ho;cases hd
 have fpk:∀ {H':Hp} {pl:Yd},(∀ b∈fp,H' b=none)->(∀ p∈pl,p.1=s.heap.objs.size) -> ∀ b∈fp,zCV (zM X zB scope cl s H fp) pl H' b:=λ{H' pl} hn hp b hb=>
  ⟨hn b hb,(I4.ok.exf b hb).1,I4.ok.exfs b hb,.inl hb,(I4.ok.exf b hb).2,λp hq=>by
   rcases zYD.mp hq with z|z
   .exact (hf b hb).2.2.2.2.2 p z
   .intro e;have e2:=hp p z;rw[e]at e2;exact hDfp (e2▸hb)⟩
 have loop:codeAny (model X.prog X.w) X.A (.compLoop (zBh elt t1 i1 f1 t2 i2 f2 scope pos) 0 (.ref it) (.ref s.heap.objs.size) (zM X zB scope cl s H fp).env) (RR (.ref s.heap.objs.size) (s.heap.objs.size+1))
   { s with heap:=pushCells ((s.heap.push (zn [] 0)).push { cls:=.type "dict", data:=.dict #[] }) scope.names }:=by
  refine zIY hs2 (λn s'=>∃ i H' ys its k,Inv (zM X zB scope cl s H fp) [(s.heap.objs.size,zn its k)] (clr own σ) H' s'/\zb ys its/\tn i s'.heap/\(∀ b∈fp,H' b=none)/\W i n ys H') ?_ m0
   ⟨0,H,[],[],0,I4,.nil,st4,λb hb=>(hf b hb).1,w0⟩
  rintro n s5 ⟨i,H5,ys,its,k,I5,r5,st5,f5,w5⟩;have pinD:∀ p∈[(s.heap.objs.size,zn its k)],p.1=s.heap.objs.size:=λp hp=>by
   have:p=(s.heap.objs.size,zn its k):=by simpa using hp
   rw[this]
  rcases turn i n ys H5 w5 with ⟨stop,hz,qq⟩|⟨go,step⟩
  .refine thn (T.done (zM X zB scope cl s H fp) rfl rfl rfl hcalm i _ s5 _ H5 _ I5 (fpk f5 pinD) st5 stop) λr s6 ⟨hr,I6⟩=>?_;subst hr;exact fin _ H5 s6 its k ys I6 r5 hz qq
  .refine thn (T.item (zM X zB scope cl s H fp) rfl rfl rfl hcalm i _ s5 _ H5 _ I5 (fpk f5 pinD) st5 go) λr s6 ⟨u,hr,h6⟩=>?_;subst hr;refine thn h6 λ_ s7 ⟨x,H7,I7,r7,y7,st7,f7⟩=>?_;have I7':=I7.pinned (fpk f7 pinD) (T.obj _ _ st7);refine thn (hg _ s7 _ H7 x u _ I7' r7 (step x H7 y7)) λ_ s8 ⟨σ8,H8,I8,x8,q8⟩=>?_;refine thn (hi _ s8 σ8 H8 _ I8 q8) λok s9 ⟨H9,I9,q9⟩=>?_;have back:∀ {σx:St} {s':Yl} {Hx:Hp} {its:Yf} {k:Nat},(clr own σ).length=σx.length->(∀ (i:Nat) v,(clr own σ)[i]?=some (some v)->σx[i]?=some (some v))->Inv (zM X zB scope cl s H fp) (zDD fp s7.heap++[(s.heap.objs.size,zn its k)]) σx Hx s'->Inv (zM X zB scope cl s H fp) [(s.heap.objs.size,zn its k)] (clr own σ) Hx s'/\tn (i+1) s'.heap /\ ∀ b∈fp,Hx b=none:=λ{σx s' Hx its k} hl hk Ix=>
    ⟨(Ix.weak hl hk).pins_of λp hp=>Ix.pin p (zX7 _ (zX7 _ hp)),
     T.keep _ _ _ st7 λb hb o e=>(Ix.pin (b,o) (zX7 _ (zY2 _ (zAT hb e)))).1,λb hb=>by
     obtain ⟨o,e,d⟩:=T.obj _ _ st7 b hb;exact (Ix.pin (b,o) (zX7 _ (zY2 _ (zAT hb e)))).2.1⟩
   have I9':Inv (zM X zB scope cl s H fp) (zDD fp s7.heap++[(s.heap.objs.size,zn its k)]) σ8 H9 s9:=I9.pins_of λp hp=>I9.pin p (zX7 _ (by
    rcases zYD.mp hp with z|z
    .exact zX7 _ z
    .exact zY2 _ z))
   cases ok with
   |false=>
    obtain ⟨m',hm,w'⟩:=q9;obtain ⟨b0,b1,b2⟩:=back (by rw[x8.1]) x8.2 I9';exact ⟨m',hm,i+1,H9,ys,its,k,b0,r5,b1,b2,w'⟩
   |true=>
    refine zQJ (C:=zM X zB scope cl s H fp) rfl hcalm hi2 hg2 hc2 he (zXt _) hcD (λp hp=>?_) I9' r5 q9 λs' H' its' k' zs I' rv' q'=>?_
    .rcases zYD.mp hp with z|z
     .exact zX8 (zXy (I.pin p z).1)
     .obtain ⟨hb,_⟩:=zIw z;exact zX8 (ob _ hb)
    .obtain ⟨m',hm,w'⟩:=q';obtain ⟨b0,b1,b2⟩:=back (by rw[zBc own2,x8.1]) (λi v hv=>by rw[zLs own2 _ i (λz=>(zC5 own σ i v hv).2 (hsub i z))];exact x8.2 i v hv) I';exact ⟨rfl,m',hm,i+1,H',zs,its',k',b0,rv',b1,b2,w'⟩
 exact codeAny_compStart_list loop (T.self _ 0 _ _ _ st4 loop)
noncomputable def zQB (own own2:Yj) (wi:TI) (g:TG) (tc:TT) (wi2:TI) (g2:TG) (tc2:TT) (te:TE):TE:=λσ H Q=>wi σ H λJ H1=>∃ W:Nat->Nat->List V->Hp->Prop,(∃ m,W 0 m [] H1) /\ ∀ i m ys H,W i m ys H ->
 (J.stop i H/\ys.length<=sizeLine /\ ∀ D,H D=none->Q (.ref D) (upd H D (.lst ys))) \/
 (J.go i H /\ ∀ x H',J.yld i H x H'->g x (clr own σ) H' λσ2 H2=>Ext (clr own σ) σ2/\tc σ2 H2 λb H3=>
  if b=true then tIn own2 wi2 g2 tc2 te σ2 H3 ys λzs H4=>∃ m',m'<m/\W (i+1) m' zs H4 else ∃ m',m'<m/\W (i+1) m' ys H3)
structure CompParts2 (X:Cx) (scope:Y0) (t1:Expr) (f1:Yi) (t2 i2:Expr) (f2:Yi) (elt:Expr) (g:TG) (tc:TT) (wi2:TI) (g2:TG) (tc2:TT) (te:TE):Prop where
 g:∀ zB cl s H fp,PG (zM X zB scope cl s H fp) t1 g
 c:∀ zB cl s H fp,zGk (zM X zB scope cl s H fp) f1 tc
 w2:∀ zB cl s H fp,PI (zM X zB scope cl s H fp) t2 i2 wi2
 g2:∀ zB cl s H fp,PG (zM X zB scope cl s H fp) t2 g2
 c2:∀ zB cl s H fp,zGk (zM X zB scope cl s H fp) f2 tc2
 e:∀ zB cl s H fp,PE (zM X zB scope cl s H fp) elt te
 s2:∀ zB cl s H fp x,foldedSetIterable i2 (zM X zB scope cl s H fp).env x=pure x
theorem zPr (hsub:∀ i∈own2,i∈own) (C:CompIn X scope own) (hcalm:X.calm=true) (hi:PI X t1 i1 wi) (p:CompParts2 X scope t1 f1 t2 i2 f2 elt g tc wi2 g2 tc2 te) (hs:∀ x,foldedSetIterable i1 X.env x=pure x:=by intro _;rfl) :
  PE X (zBh elt t1 i1 f1 t2 i2 f2 scope pos) (zQB own own2 wi g tc wi2 g2 tc2 te):=by
 intro zB s σ H Q I h;obtain ⟨cl,hcl,c1,c2⟩:=C.sc.closure I;rw[eval_ListComp];refine zZh (use:=none) rfl hs hcl C.sc.kind C.sc.names (thn (hi zB s σ H _ I h) λv s1 h1=>thn h1 λitv s2 h2=>?_);obtain ⟨it,fp,tn,J,H2,e,I2,T,st2,f2,W,⟨m0,w0⟩,turn⟩:=h2;subst e;refine zKw hsub C hcalm I2 T st2 f2 c1 c2 (p.g _ _ _ _ _) (p.c _ _ _ _ _) (p.w2 _ _ _ _ _) (p.g2 _ _ _ _ _) (p.c2 _ _ _ _ _) (p.e _ _ _ _ _) (p.s2 _ _ _ _ _) (RR:=λacc C r s'=>compPost (model X.prog X.w) X.A X.xe none (EP X zB σ Q) acc C r s') (QQ:=λys H=>∀ D,H D=none->Q (.ref D) (upd H D (.lst ys))) w0 turn ?_;intro σc H' s' its n ys Ic rv hz qq;obtain ⟨m,hn,_⟩:=Ic.loc;refine ⟨m,hn,λh' hs'=>?_⟩;obtain ⟨J',nD⟩:=zH9 I2 f2 Ic rv hz hs';exact ⟨.ref s2.heap.objs.size,_,J',rfl,qq _ nD⟩
end
end L2
namespace L3
open PySem PySem.Spec PyProof.Rows L2
noncomputable abbrev Sv:=List (Option V)
set_option genInjectivity true in
inductive D where
 |non|bl (b:Bool)|int (i:Int)|str (x:Str)|tup (xs:List D)|ref (n:Nat)
set_option genInjectivity true in
inductive MO where
 |lst (xs:List D)|fro (xs:List D)|dict (kvs:List (D × D))|dicT (kvs:List (D × D))|set (xs:List D)|froT (kvs:List (D × D))|froK (kvs:List (D × D))
mutual
def Rep (L:Yg) (H:Hp):D->V->Prop
 |.non,v=>v=.non
 |.bl b,v=>v=.bl b
 |.int i,v=>v=.int i
 |.str x,v=>v=.str x
 |.tup ds,v=>∃ a vs,v=.ref a/\H a=some (.tup vs)/\zR L H ds vs
 |.ref n,v=>∃ a,v=.ref a/\L[n]?=some a
def zR (L:Yg) (H:Hp):List D->List V->Prop
 |[],vs=>vs=[]
 |d::ds,vs=>∃ v r,vs=v::r/\Rep L H d v/\zR L H ds r
end
theorem zR.length:∀ {ds:List D} {vs:List V},zR L H ds vs->vs.length=ds.length
 |[],_,h=>by unfold zR at h;subst h;rfl
 |d::ds,_,h=>by
  unfold zR at h;obtain ⟨v,r,rfl,_,h2⟩:=h;simp[zR.length h2]
theorem zR.nil:zR L H [] []:=by unfold zR;rfl
theorem zR.cons (h:Rep L H d v) (t:zR L H ds vs):zR L H (d::ds) (v::vs):=by
 unfold zR;exact ⟨v,vs,rfl,h,t⟩
theorem zR.get:∀ {ds:List D} {vs:List V} {i:Nat} {d:D},zR L H ds vs->ds[i]?=some d -> ∃ v,vs[i]?=some v/\Rep L H d v
 |[],_,_,_,_,e=>by simp at e
 |d::ds,_,0,d',h,e=>by
  unfold zR at h;obtain ⟨v,r,rfl,h1,h2⟩:=h;simp at e;subst e;exact ⟨v,rfl,h1⟩
 |d::ds,_,i+1,d',h,e=>by
  unfold zR at h;obtain ⟨v,r,rfl,h1,h2⟩:=h;obtain ⟨u,e1,e2⟩:=zR.get (i:=i) h2 (by simpa using e);exact ⟨u,by simpa using e1,e2⟩
theorem zR.app:∀ {ds es:List D} {vs ws:List V},zR L H ds vs->zR L H es ws->zR L H (ds++es) (vs++ws)
 |[],_,_,_,h,t=>by unfold zR at h;subst h;exact t
 |d::ds,_,_,_,h,t=>by
  unfold zR at h;obtain ⟨v,r,rfl,h1,h2⟩:=h;exact .cons h1 (zR.app h2 t)
theorem zR.set (h:Rep L H d v):∀ {ds:List D} {vs:List V} (i:Nat),zR L H ds vs->zR L H (ds.set i d) (vs.set i v)
 |[],_,_,t=>by unfold zR at t;subst t;exact .nil
 |_::_,_,0,t=>by
  unfold zR at t;obtain ⟨v',r,rfl,h1,h2⟩:=t;exact .cons h h2
 |_::_,_,i+1,t=>by
  unfold zR at t;obtain ⟨v',r,rfl,h1,h2⟩:=t;exact .cons h1 (zR.set h i h2)
theorem zR.drop:∀ {ds:List D} {vs:List V} (n:Nat),zR L H ds vs->zR L H (ds.drop n) (vs.drop n)
 |_,_,0,t=>t
 |[],_,n+1,t=>by unfold zR at t;subst t;exact .nil
 |_::_,_,n+1,t=>by
  unfold zR at t;obtain ⟨v',r,rfl,h1,h2⟩:=t;exact zR.drop n h2
theorem zR.take:∀ {ds:List D} {vs:List V} (n:Nat),zR L H ds vs->zR L H (ds.take n) (vs.take n)
 |_,_,0,t=> .nil
 |[],_,n+1,t=>by unfold zR at t;subst t;exact .nil
 |_::_,_,n+1,t=>by
  unfold zR at t;obtain ⟨v',r,rfl,h1,h2⟩:=t;exact .cons h1 (zR.take n h2)
theorem zR.eraseIdx:∀ {ds:List D} {vs:List V} (n:Nat),zR L H ds vs->zR L H (ds.eraseIdx n) (vs.eraseIdx n)
 |[],_,n,t=>by unfold zR at t;subst t;exact .nil
 |_::_,_,0,t=>by
  unfold zR at t;obtain ⟨v',r,rfl,h1,h2⟩:=t;exact h2
 |_::_,_,n+1,t=>by
  unfold zR at t;obtain ⟨v',r,rfl,h1,h2⟩:=t;exact .cons h1 (zR.eraseIdx n h2)
structure Stp (L:Yg) (H:Hp) (L':Yg) (H':Hp):Prop where
 pre:∃ N,L'=L++N
 new:∀ a∈L',a∈L\/H a=none
 old:∀ a o,H a=some o->a∉L->H' a=some o
 tup:∀ a xs,H a=some (.tup xs)->H' a=some (.tup xs)
 frz:∀ a o u,H a=some (.frz o u)->H' a=some (.frz o u)
theorem Stp.refl (L:Yg) (H:Hp):Stp L H L H:=⟨⟨[],by simp⟩,λ_ h=> .inl h,λ_ _ h _=>h,λ_ _ h=>h,λ_ _ _ h=>h⟩
theorem Stp.trans (a:Stp L H L1 H1) (b:Stp L1 H1 L2 H2):Stp L H L2 H2:=by
 obtain ⟨N,rfl⟩:=a.pre;obtain ⟨N',rfl⟩:=b.pre;have back:∀ c,c∉L->H1 c=none->H c=none:=λc hc h1=>by
  cases q:H c with
  |none=>rfl
  |some o=>rw[a.old c o q hc]at h1;cases h1
 refine ⟨⟨N++N',by simp⟩,λc hc=>?_,λc o e hc=>?_,λc xs e=>b.tup c xs (a.tup c xs e),λc o u e=>b.frz c o u (a.frz c o u e)⟩
 .by_cases hL:c∈L
  .exact .inl hL
  .rcases b.new c hc with z|z
   .exact a.new c z
   .exact .inr (back c hL z)
 .refine b.old c o (a.old c o e hc) λz=>?_;rcases a.new c z with q|q
  .exact hc q
  .rw[q]at e;cases e
theorem Stp.grow (h:∀ a o,H a=some o->H' a=some o):Stp L H L H':=⟨⟨[],by simp⟩,λ_ h=> .inl h,λa o e _=>h a o e,λa _ e=>h a _ e,λa _ _ e=>h a _ e⟩
theorem Stp.upd (h:H p=none):Stp L H L (upd H p o):=.grow λa u e=>by rw[zZ (zAL e h)];exact e
theorem zB6 {L N:Yg} {n:Nat} {a:Yt} (h:L[n]?=some a):(L++N)[n]?=some a:=by
 rw[zXu (zXq.mp h).1];exact h
mutual
theorem Rep.stp {L L':Yg} {H H':Hp} (s:Stp L H L' H'):∀ {d:D} {v:V},Rep L H d v->Rep L' H' d v
 |.non,_,h=>by unfold Rep at h ⊢;exact h
 |.bl _,_,h=>by unfold Rep at h ⊢;exact h
 |.int _,_,h=>by unfold Rep at h ⊢;exact h
 |.str _,_,h=>by unfold Rep at h ⊢;exact h
 |.tup ds,_,h=>by
  unfold Rep at h ⊢;obtain ⟨a,vs,rfl,e,r⟩:=h;exact ⟨a,vs,rfl,s.tup a vs e,zR.stp s r⟩
 |.ref n,_,h=>by
  unfold Rep at h ⊢;obtain ⟨a,rfl,e⟩:=h;obtain ⟨N,rfl⟩:=s.pre;exact ⟨a,rfl,zB6 e⟩
theorem zR.stp (s:Stp L H L' H'):∀ {ds:List D} {vs:List V},zR L H ds vs->zR L' H' ds vs
 |[],_,h=>by unfold zR at h ⊢;exact h
 |d::ds,_,h=>by
  unfold zR at h ⊢;obtain ⟨v,r,rfl,h1,h2⟩:=h;exact ⟨v,r,rfl,Rep.stp s h1,zR.stp s h2⟩
end
noncomputable def zCR:D->Option Key
 |.int i=>some (.inl i)
 |.str x=>some (.inr x)
 |_=>none
noncomputable def zHp:List D->Option (List Key)
 |[]=>some []
 |d::r=>match zCR d,zHp r with
  |some k,some ks=>some (k::ks)
  |_,_=>none
noncomputable def tkD:D->Option (List Key)
 |.tup ds=>zHp ds
 |_=>none
def zAy {κ:Type} (kf:D->Option κ) (L:Yg) (H:Hp):List (D × D)->List (κ × V)->Prop
 |[],vs=>vs=[]
 |p::r,vs=>∃ k v r',vs=(k,v)::r'/\kf p.1=some k/\Rep L H p.2 v/\zAy kf L H r r'
theorem zAy.stp {κ:Type} {kf:D->Option κ} {L L':Yg} {H H':Hp} (s:Stp L H L' H'):∀ {ps:List (D × D)} {vs:List (κ × V)},zAy kf L H ps vs->zAy kf L' H' ps vs
 |[],_,h=>h
 |p::r,_,h=>by
  obtain ⟨k,v,r',rfl,e,h1,h2⟩:=h;exact ⟨k,v,r',rfl,e,h1.stp s,zAy.stp s h2⟩
theorem zAy.length {κ:Type} {kf:D->Option κ} {L:Yg} {H:Hp}:∀ {ps:List (D × D)} {vs:List (κ × V)},zAy kf L H ps vs->vs.length=ps.length
 |[],_,h=>by unfold zAy at h;subst h;rfl
 |p::r,_,h=>by
  obtain ⟨k,v,r',rfl,e,h1,h2⟩:=h;simp[zAy.length h2]
def zHR (K:Yb) (L:Yg) (H:Hp) (a:Yt):MO->Prop
 |.lst xs=>∃ vs,H a=some (.lst vs)/\zR L H xs vs
 |.fro xs=>∃ o vs,H a=some (.frz o (.lst vs))/\zR L H xs vs
 |.dict ps=>∃ vs,H a=some (.dK vs)/\zAy zCR L H ps vs
 |.dicT ps=>∃ vs,H a=some (.dT vs)/\zAy tkD L H ps vs
 |.set _=>∃ o u,H a=some (.frz o u)
 |.froT ps=>∃ o vs,H a=some (.frz o (.dT vs))/\zAy tkD L H ps vs
 |.froK ps=>∃ o vs,H a=some (.frz o (.dK vs))/\zAy zCR L H ps vs
theorem zHR.there {K:Yb} {L:Yg} {H:Hp} {a:Yt} {m:MO} (h:zHR K L H a m):∃ o,H a=some o:=by
 cases m with
 |lst xs=>obtain ⟨vs,e,_⟩:=h;exact ⟨_,e⟩
 |fro xs=>obtain ⟨o,vs,e,_⟩:=h;exact ⟨_,e⟩
 |dict ps=>obtain ⟨vs,e,_⟩:=h;exact ⟨_,e⟩
 |dicT ps=>obtain ⟨vs,e,_⟩:=h;exact ⟨_,e⟩
 |set _=>obtain ⟨o,u,e⟩:=h;exact ⟨_,e⟩
 |froT ps=>obtain ⟨o,vs,e,_⟩:=h;exact ⟨_,e⟩
 |froK ps=>obtain ⟨o,vs,e,_⟩:=h;exact ⟨_,e⟩
theorem zHR.stp {K:Yb} {L L':Yg} {H H':Hp} {a:Yt} {m:MO} (s:Stp L H L' H') (hk:∀ o,H a=some o->H' a=some o) (h:zHR K L H a m):zHR K L' H' a m:=by
 cases m with
 |lst xs=>obtain ⟨vs,e,r⟩:=h;exact ⟨vs,hk _ e,r.stp s⟩
 |fro xs=>obtain ⟨o,vs,e,r⟩:=h;exact ⟨o,vs,hk _ e,r.stp s⟩
 |dict ps=>obtain ⟨vs,e,r⟩:=h;exact ⟨vs,hk _ e,r.stp s⟩
 |dicT ps=>obtain ⟨vs,e,r⟩:=h;exact ⟨vs,hk _ e,r.stp s⟩
 |set _=>obtain ⟨o,u,e⟩:=h;exact ⟨o,u,hk _ e⟩
 |froT ps=>obtain ⟨o,vs,e,r⟩:=h;exact ⟨o,vs,hk _ e,r.stp s⟩
 |froK ps=>obtain ⟨o,vs,e,r⟩:=h;exact ⟨o,vs,hk _ e,r.stp s⟩
structure Cor (K:Yb) (L:Yg) (M:List MO) (H:Hp):Prop where
 len:L.length=M.length
 nd:L.Nodup
 obj:∀ (n:Nat) a m,L[n]?=some a->M[n]?=some m->zHR K L H a m
def zBj (L:Yg) (H:Hp) (σ:List (Option D)) (τ:Sv):Prop:=τ.length=σ.length /\ ∀ (i:Nat) d,σ[i]?=some (some d) -> ∃ v,τ[i]?=some (some v)/\Rep L H d v
theorem zBj.stp (s:Stp L H L' H') (h:zBj L H σ τ):zBj L' H' σ τ :=
 ⟨h.1,λi d e=>let ⟨v,e1,r⟩:=h.2 i d e;⟨v,e1,r.stp s⟩⟩
theorem Cor.tracked {K:Yb} {L:Yg} {M:List MO} {H:Hp} (c:Cor K L M H) {a:Yt} (h:a∈L):∃ o,H a=some o:=by
 obtain ⟨n,hn⟩:=List.getElem?_of_mem h;have hl:n<M.length:=by rw[<-c.len];exact (zXq.mp hn).1
 have m:=c.obj n a M[n] hn (zXr hl);exact m.there
theorem Cor.grow {K:Yb} {L:Yg} {M:List MO} {H H':Hp} (c:Cor K L M H) (h:∀ a o,H a=some o->H' a=some o):Cor K L M H':=by
 exact ⟨c.len,c.nd,λn a m e1 e2=>(c.obj n a m e1 e2).stp (.grow h) λo e=>h a o e⟩
theorem Cor.upd {K:Yb} {L:Yg} {M:List MO} {H:Hp} {p:Yt} {o:HO} (c:Cor K L M H) (h:H p=none):Cor K L M (upd H p o):=c.grow λa u e=>by rw[zZ (zAL e h)];exact e
theorem Cor.write {K:Yb} {L:Yg} {M:List MO} {H:Hp} {n:Nat} {p:Yt} {xs xs':List D} {vs':List V} (c:Cor K L M H) (h1:L[n]?=some p) (h2:M[n]?=some (.lst xs)) (r:zR L H xs' vs') :
  Cor K L (M.set n (.lst xs')) (L2.upd H p (.lst vs'))/\Stp L H L (L2.upd H p (.lst vs')):=by
 obtain ⟨vs,hp,_⟩:=c.obj n p _ h1 h2;have st:Stp L H L (L2.upd H p (.lst vs')):=by
  refine ⟨⟨[],by simp⟩,λa ha=> .inl ha,λa o e ha=>?_,λa o e=>?_,λa o u e=>?_⟩
  .rw[zZ (show a≠p from λz=>ha (by rw[z];exact zYe h1))];exact e
  .rw[zZ (zJA e hp (by intro z;cases z))];exact e
  .rw[zZ (zJA e hp (by intro z;cases z))];exact e
 refine ⟨⟨by simp[c.len],c.nd,λk a m e1 e2=>?_⟩,st⟩;rw[zZM]at e2;split at e2
 .rename_i hk;subst hk;rw[h1]at e1;cases e1;split at e2
  .cases e2;exact ⟨vs',zAH,r.stp st⟩
  .cases e2
 .rename_i hk;have hne:a≠p:=λz=>hk (by
   subst z;exact (List.getElem?_inj (zXq.mp h1).1 c.nd).mp (h1.trans e1.symm))
  exact (c.obj k a m e1 e2).stp st λo e=>by rw[zZ hne];exact e
set_option genInjectivity true in
inductive EV where
 |dat (d:D)|fl (xs:List D)
def za (H0:Hp) (L:Yg) (H:Hp):EV->V->Prop
 |.dat d,v=>Rep L H d v
 |.fl xs,v=>∃ p vs,v=.ref p/\H0 p=none/\H p=some (.lst vs)/\p∉L/\zR L H xs vs
noncomputable abbrev Sd:=List (Option D)
noncomputable abbrev Mem:=List MO
noncomputable abbrev FE:=Sd->Mem->Option (EV × Mem)
noncomputable abbrev FD:=Sd->Mem->Option (D × Mem)
noncomputable abbrev FT:=Sd->Mem->Option (Bool × Mem)
noncomputable abbrev FA:=Sd->Mem->Option (List D × Mem)
theorem Stp.out (s:Stp L H L' H') (h:H p=some o) (hp:p∉L):p∉L':=λz=>by
 rcases s.new p z with q|q
 .exact hp q
 .rw[h]at q;cases q
theorem za.stp (s:Stp L H L' H') (h:za H0 L H e v):za H0 L' H' e v:=by
 cases e with
 |dat d=>exact Rep.stp s h
 |fl xs=>
  obtain ⟨p,vs,rfl,e0,e1,e2,r⟩:=h;exact ⟨p,vs,rfl,e0,s.old p _ e1 e2,s.out e1 e2,r.stp s⟩
theorem za.back {H0 H1:Hp} {L0 L1 L:Yg} {H:Hp} (s:Stp L0 H0 L1 H1) {M:List MO} {K:Yb} (c:Cor K L0 M H0) {e:EV} {v:V} (h:za H1 L H e v) (hL:∀ a∈L1,a∈L):za H0 L H e v:=by
 cases e with
 |dat d=>exact h
 |fl xs=>
  obtain ⟨p,vs,rfl,e0,e1,e2,r⟩:=h;refine ⟨p,vs,rfl,?_,e1,e2,r⟩;cases q:H0 p with
  |none=>rfl
  |some o=>
   by_cases hp:p∈L0
   .obtain ⟨N,hN⟩:=s.pre;exact absurd (hL p (by rw[hN];exact zY2 _ hp)) e2
   .rw[s.old p o q hp]at e0;cases e0
section
variable (K:Yb)
noncomputable def trE (f:FE):TE:=λτ H Q=>∃ L σ M d M',Cor K L M H/\zBj L H σ τ/\f σ M=some (d,M') /\ ∀ L' H' v,Stp L H L' H'->Cor K L' M' H'->za H L' H' d v->Q v H'
noncomputable def trD (f:FD):TE:=λτ H Q=>∃ L σ M d M',Cor K L M H/\zBj L H σ τ/\f σ M=some (d,M') /\ ∀ L' H' v,Stp L H L' H'->Cor K L' M' H'->Rep L' H' d v->Q v H'
noncomputable def trT (f:FT):TT:=λτ H Q=>∃ L σ M d M',Cor K L M H/\zBj L H σ τ/\f σ M=some (d,M') /\ ∀ L' H',Stp L H L' H'->Cor K L' M' H'->Q d H'
noncomputable def trA (f:FA):TA:=λτ H Q=>∃ L σ M ds M',Cor K L M H/\zBj L H σ τ/\f σ M=some (ds,M') /\ ∀ L' H' vs,Stp L H L' H'->Cor K L' M' H'->zR L' H' ds vs->Q vs H'
end
section
variable {X:Cx} {e:Expr}
theorem PE.imp (h:PE X e t) (hi:∀ τ H Q,t' τ H Q->t τ H Q):PE X e t':=λzB s σ H Q I q=>h zB s σ H Q I (hi _ _ _ q)
theorem PT.imp (h:PT X e t) (hi:∀ τ H Q,t' τ H Q->t τ H Q):PT X e t':=λzB s σ H Q I q=>h zB s σ H Q I (hi _ _ _ q)
theorem PS.imp {st:Stmt} {t t':TS} (h:PS X st t) (hi:∀ D τ H,t' D τ H->t D τ H):PS X st t':=λzB s σ H D I q=>h zB s σ H D I (hi _ _ _ q)
theorem PSs.imp {st:Yy} {t t':TS} (h:PSs X st t) (hi:∀ D τ H,t' D τ H->t D τ H):PSs X st t':=λzB s σ H D I q=>h zB s σ H D I (hi _ _ _ q)
structure QE (X:Cx) (e:Expr) (f:FE):Prop where
 un:PE X e (trE X.K f)
structure QD (X:Cx) (e:Expr) (f:FD):Prop where
 un:PE X e (trD X.K f)
structure QT (X:Cx) (e:Expr) (f:FT):Prop where
 un:PT X e (trT X.K f)
structure QA (X:Cx) (es:Yi) (f:FA):Prop where
 un:PA X es (trA X.K f)
noncomputable def toD (f:FE):FD:=λσ M=>match f σ M with
 |some (.dat d,M')=>some (d,M')
 |some (.fl xs,M')=>some (.ref M'.length,M'++[.lst xs])
 |none=>none
mutual
theorem Rep.more (N:Yg):∀ {d:D} {v:V},Rep L H d v->Rep (L++N) H d v
 |.non,_,h=>by unfold Rep at h ⊢;exact h
 |.bl _,_,h=>by unfold Rep at h ⊢;exact h
 |.int _,_,h=>by unfold Rep at h ⊢;exact h
 |.str _,_,h=>by unfold Rep at h ⊢;exact h
 |.tup ds,_,h=>by
  unfold Rep at h ⊢;obtain ⟨a,vs,rfl,e,r⟩:=h;exact ⟨a,vs,rfl,e,zR.more N r⟩
 |.ref n,_,h=>by
  unfold Rep at h ⊢;obtain ⟨a,rfl,e⟩:=h;exact ⟨a,rfl,zB6 e⟩
theorem zR.more (N:Yg):∀ {ds:List D} {vs:List V},zR L H ds vs->zR (L++N) H ds vs
 |[],_,h=>by unfold zR at h ⊢;exact h
 |d::ds,_,h=>by
  unfold zR at h ⊢;obtain ⟨v,r,rfl,h1,h2⟩:=h;exact ⟨v,r,rfl,Rep.more N h1,zR.more N h2⟩
end
theorem zAy.more {κ:Type} {kf:D->Option κ} {L:Yg} {H:Hp} (N:Yg):∀ {ps:List (D × D)} {vs:List (κ × V)},zAy kf L H ps vs->zAy kf (L++N) H ps vs
 |[],_,h=>h
 |p::r,_,h=>by
  obtain ⟨k,v,r',rfl,e,h1,h2⟩:=h;exact ⟨k,v,r',rfl,e,h1.more N,zAy.more N h2⟩
theorem zHR.more {K:Yb} {L:Yg} {H:Hp} {a:Yt} {m:MO} (N:Yg) (h:zHR K L H a m):zHR K (L++N) H a m:=by
 cases m with
 |lst xs=>obtain ⟨vs,e,r⟩:=h;exact ⟨vs,e,r.more N⟩
 |fro xs=>obtain ⟨o,vs,e,r⟩:=h;exact ⟨o,vs,e,r.more N⟩
 |dict ps=>obtain ⟨vs,e,r⟩:=h;exact ⟨vs,e,r.more N⟩
 |dicT ps=>obtain ⟨vs,e,r⟩:=h;exact ⟨vs,e,r.more N⟩
 |set _=>exact h
 |froT ps=>obtain ⟨o,vs,e,r⟩:=h;exact ⟨o,vs,e,r.more N⟩
 |froK ps=>obtain ⟨o,vs,e,r⟩:=h;exact ⟨o,vs,e,r.more N⟩
theorem zUC {K:Yb} {L L':Yg} {M':List MO} {H H':Hp} {p:Yt} {xs:List D} {vs:List V} (s:Stp L H L' H') (c:Cor K L' M' H') (h0:H p=none) (h1:H' p=some (.lst vs)) (h2:p∉L') (r:zR L' H' xs vs) :
  Cor K (L'++[p]) (M'++[.lst xs]) H'/\Stp L H (L'++[p]) H':=by
 refine ⟨⟨by simp[c.len],?_,λn a m e1 e2=>?_⟩,?_⟩
 .rw[zY1];exact ⟨c.nd,by simp,λa ha b hb z=>by
   have:b=p:=by simpa using hb
   subst this;subst z;exact h2 ha⟩
 .by_cases hn:n<L'.length
  .rw[zXu hn]at e1;rw[zXu (by rw[<-c.len];exact hn)]at e2;exact (c.obj n a m e1 e2).more [p]
  .have hn':n=L'.length:=by
    have:=(zXq.mp e1).1;rw[zX3]at this;simp at this;omega
   subst hn';simp at e1;rw[c.len]at e2;simp at e2;subst e1;subst e2;exact ⟨vs,h1,r.more [p]⟩
 .obtain ⟨N,hN⟩:=s.pre;refine ⟨⟨N++[p],by rw[hN];simp⟩,λa ha=>?_,s.old,s.tup,s.frz⟩;rcases zYD.mp ha with z|z
  .exact s.new a z
  .have:a=p:=by simpa using z
   subst this;exact .inr h0
theorem Rep.last {L:Yg} {M:List MO} {H:Hp} {K:Yb} {p:Yt} (c:Cor K L M H):Rep (L++[p]) H (.ref M.length) (.ref p):=by
 unfold Rep;exact ⟨p,rfl,by rw[<-c.len];simp⟩
theorem zA5 {f:FE} (h:QE X e f):QD X e (toD f):=.mk <| PE.imp h.un λτ H Q zz=>by
 obtain ⟨L,σ,M,d,M',c,rs,hf,q⟩:=zz;unfold toD at hf;split at hf
 .rename_i d' M1 e1;cases hf;exact ⟨L,σ,M,_,_,c,rs,e1,λL' H' v s c' r=>q L' H' v s c' r⟩
 .rename_i xs M1 e1;cases hf;refine ⟨L,σ,M,_,_,c,rs,e1,λL' H' v s c' r=>?_⟩;obtain ⟨p,vs,rfl,e0,e2,e3,r⟩:=r;obtain ⟨c2,s2⟩:=zUC s c' e0 e2 e3 r;exact q _ H' _ s2 c2 (Rep.last c')
 .cases hf
noncomputable def zC (i:Nat):FE:=λσ M=>match σ[i]? with
 |some (some d)=>some (.dat d,M)
 |_=>none
theorem zCA (h:PE X (.Name x pos) (zVF i)):QE X (.Name x pos) (zC i):=.mk <| PE.imp h λτ H Q zz=>by
 obtain ⟨L,σ,M,d,M',c,rs,hf,q⟩:=zz;unfold zC at hf;split at hf
 .rename_i d' e1;cases hf;obtain ⟨v,e2,r⟩:=rs.2 i d' e1;exact ⟨v,e2,q L H v (.refl L H) c r⟩
 .cases hf
noncomputable def fC (d:D):FE:=λ_ M=>some (.dat d,M)
theorem zGt (hd:∀ L H,Rep L H d v) (h:PE X e (tC v)):QE X e (fC d):=.mk <| PE.imp h λτ H Q zz=>by
 obtain ⟨L,σ,M,d',M',c,rs,hf,q⟩:=zz;unfold fC at hf;cases hf;exact q L H v (.refl L H) c (hd L H)
theorem zWh {i j pos}:QE X (.Constant (.int i) j pos) (fC (.int i)):=zGt (λ_ _=>by unfold Rep;rfl) zUp
theorem zWi {b j pos}:QE X (.Constant (.bool b) j pos) (fC (.bl b)):=zGt (λ_ _=>by unfold Rep;rfl) zWe
theorem zWR {j pos}:QE X (.Constant .none j pos) (fC .non):=zGt (λ_ _=>by unfold Rep;rfl) zVd
theorem zWo {x j pos}:QE X (.Constant (.str x) j pos) (fC (.str x)):=zGt (λ_ _=>by unfold Rep;rfl) zU5
noncomputable def zI:FA:=λ_ M=>some ([],M)
noncomputable def zD (f:FD) (g:FA):FA:=λσ M=>match f σ M with
 |some (d,M1)=>match g σ M1 with
  |some (ds,M2)=>some (d::ds,M2)
  |none=>none
 |none=>none
theorem PA.imp (h:PA X es t) (hi:∀ τ H Q,t' τ H Q->t τ H Q):PA X es t':=λpos zB s σ H Q I q=>h pos zB s σ H Q I (hi _ _ _ q)
theorem zKX:QA X [] zI:=.mk <| PA.imp zE8 λτ H Q zz=>by
 obtain ⟨L,σ,M,d,M',c,rs,hf,q⟩:=zz;unfold zI at hf;cases hf;exact q L H [] (.refl L H) c .nil
theorem zEm (h1:QD X e f) (h2:QA X es g) (hs:starEach (e::es) X.env=(false,eval e X.env)::starEach es X.env:=by rfl):QA X (e::es) (zD f g) :=
 .mk <| PA.imp (zC1 h1.un h2.un hs) λτ H Q zz=>by
  obtain ⟨L,σ,M,d,M',c,rs,hf,q⟩:=zz;unfold zD at hf;split at hf
  .rename_i d1 M1 e1;split at hf
   .rename_i ds M2 e2;cases hf;refine ⟨L,σ,M,_,_,c,rs,e1,λL1 H1 v s1 c1 r1=>⟨L1,σ,M1,_,_,c1,rs.stp s1,e2,λL2 H2 vs s2 c2 r2=>?_⟩⟩;exact q L2 H2 _ (s1.trans s2) c2 (.cons (r1.stp s2) r2)
   .cases hf
  .cases hf
noncomputable def zAq (g:FA):FE:=λσ M=>match g σ M with
 |some (ds,M1)=>if ds.length<=sizeLine then some (.dat (.tup ds),M1) else none
 |none=>none
noncomputable def zA7 (g:FA):FE:=λσ M=>match g σ M with
 |some (ds,M1)=>if ds.length<=sizeLine then some (.fl ds,M1) else none
 |none=>none
theorem Rep.newTup (h:H p=none) (r:zR L H ds vs):Rep L (upd H p (.tup vs)) (.tup ds) (.ref p):=by
 unfold Rep;exact ⟨p,vs,rfl,zAH,r.stp (.upd h)⟩
theorem zWf {x1 pos} (h:QA X es g):QE X (.Tuple es x1 pos) (zAq g):=.mk <| PE.imp (zVT h.un) λτ H Q zz=>by
 obtain ⟨L,σ,M,d,M',c,rs,hf,q⟩:=zz;unfold zAq at hf;split at hf
 .rename_i ds M1 e1;split at hf
  .rename_i hz;cases hf;refine ⟨L,σ,M,_,_,c,rs,e1,λL1 H1 vs s1 c1 r1=>⟨by rw[r1.length];exact hz,λp hp=>?_⟩⟩;exact q L1 _ _ (s1.trans (.upd hp)) (c1.upd hp) (Rep.newTup hp r1)
  .cases hf
 .cases hf
theorem zPE {L L1:Yg} {H H1:Hp} {K:Yb} {M M1:List MO} (s:Stp L H L1 H1) (c:Cor K L M H) (c1:Cor K L1 M1 H1) {p:Yt} (hp:H1 p=none):H p=none/\p∉L1:=by
 have hp1:p∉L1:=λz=>by obtain ⟨o,e⟩:=c1.tracked z;rw[hp]at e;cases e
 refine ⟨?_,hp1⟩;cases q:H p with
 |none=>rfl
 |some o=>
  have:p∉L:=λz=>hp1 (by obtain ⟨N,hN⟩:=s.pre;rw[hN];exact zY2 _ z);rw[s.old p o q this]at hp;cases hp
theorem za.newLst {L L1:Yg} {H H1:Hp} {K:Yb} {M M1:List MO} {p:Yt} {ds:List D} {vs:List V} (s:Stp L H L1 H1) (c:Cor K L M H) (c1:Cor K L1 M1 H1) (hp:H1 p=none) (r:zR L1 H1 ds vs) :
  za H L1 (upd H1 p (.lst vs)) (.fl ds) (.ref p):=by
 obtain ⟨a,b⟩:=zPE s c c1 hp;exact ⟨p,vs,rfl,a,zAH,b,r.stp (.upd hp)⟩
theorem zV1 {pos} (h:QA X es g):QE X (.List es pos) (zA7 g):=.mk <| PE.imp (zVO h.un) λτ H Q zz=>by
 obtain ⟨L,σ,M,d,M',c,rs,hf,q⟩:=zz;unfold zA7 at hf;split at hf
 .rename_i ds M1 e1;split at hf
  .rename_i hz;cases hf;refine ⟨L,σ,M,_,_,c,rs,e1,λL1 H1 vs s1 c1 r1=>⟨by rw[r1.length];exact hz,λp hp=>?_⟩⟩;exact q L1 _ _ (s1.trans (.upd hp)) (c1.upd hp) (za.newLst s1 c c1 hp r1)
  .cases hf
 .cases hf
end
noncomputable abbrev FAE:=Sd->Mem->Option (List EV × Mem)
def zC4 (H0:Hp) (L:Yg) (H:Hp):List EV->List V->Prop
 |[],vs=>vs=[]
 |e::es,vs=>∃ v r,vs=v::r/\za H0 L H e v/\zC4 H0 L H es r
theorem Stp.sub (s:Stp L H L' H'):∀ a∈L,a∈L':=λa h=>by
 obtain ⟨N,hN⟩:=s.pre;rw[hN];exact zY2 _ h
theorem zC4.back {H0 H1:Hp} {L0 L1 L:Yg} {H:Hp} (s:Stp L0 H0 L1 H1) {M:List MO} {K:Yb} (c:Cor K L0 M H0) (hL:∀ a∈L1,a∈L):∀ {es:List EV} {vs:List V},zC4 H1 L H es vs->zC4 H0 L H es vs
 |[],_,h=>h
 |e::es,_,h=>by
  obtain ⟨v,r,rfl,h1,h2⟩:=h;exact ⟨v,r,rfl,h1.back s c hL,zC4.back s c hL h2⟩
noncomputable def zWY (K:Yb) (f:FAE):TA:=λτ H Q=>∃ L σ M ds M',Cor K L M H/\zBj L H σ τ/\f σ M=some (ds,M') /\ ∀ L' H' vs,Stp L H L' H'->Cor K L' M' H'->zC4 H L' H' ds vs->Q vs H'
structure QAE (X:Cx) (es:Yi) (f:FAE):Prop where
 un:PA X es (zWY X.K f)
section
variable {X:Cx} {a b e:Expr} {es:Yi} {pos:Pos}
noncomputable def zk:FAE:=λ_ M=>some ([],M)
noncomputable def zU (f:FE) (g:FAE):FAE:=λσ M=>match f σ M with
 |some (d,M1)=>match g σ M1 with
  |some (ds,M2)=>some (d::ds,M2)
  |none=>none
 |none=>none
theorem zJm:QAE X [] zk:=.mk <| PA.imp zE8 λτ H Q zz=>by
 obtain ⟨L,σ,M,d,M',c,rs,hf,q⟩:=zz;unfold zk at hf;cases hf;exact q L H [] (.refl L H) c rfl
theorem zGr (h1:QE X e f) (h2:QAE X es g) (hs:starEach (e::es) X.env=(false,eval e X.env)::starEach es X.env:=by rfl):QAE X (e::es) (zU f g) :=
 .mk <| PA.imp (zC1 h1.un h2.un hs) λτ H Q zz=>by
  obtain ⟨L,σ,M,d,M',c,rs,hf,q⟩:=zz;unfold zU at hf;split at hf
  .rename_i d1 M1 e1;split at hf
   .rename_i ds M2 e2;cases hf;refine ⟨L,σ,M,_,_,c,rs,e1,λL1 H1 v s1 c1 r1=>⟨L1,σ,M1,_,_,c1,rs.stp s1,e2,λL2 H2 vs s2 c2 r2=>?_⟩⟩;exact q L2 H2 _ (s1.trans s2) c2 ⟨v,vs,rfl,r1.stp s2,r2.back s1 c s2.sub⟩
   .cases hf
  .cases hf
noncomputable abbrev K2:=EV->EV->Mem->Option (EV × Mem)
def zDH (K:Yb) (r:R2) (k:K2):Prop:=∀ {L:Yg} {M M':Mem} {H H0:Hp} {x y d:EV} {v w:V} {Q:VK},Cor K L M H->za H0 L H x v->za H0 L H y w->k x y M=some (d,M') ->
 (∀ L' H' u,Stp L H L' H'->Cor K L' M' H'->za H L' H' d u->Q u H')->r v w H Q
noncomputable def fOp (k:K2) (f g:FE):FE:=λσ M=>match f σ M with
 |some (x,M1)=>match g σ M1 with
  |some (y,M2)=>k x y M2
  |none=>none
 |none=>none
theorem zDd {K:Yb} {r:R2} {k:K2} {f g:FE} (hk:zDH K r k) {τ:Sv} {H:Hp} {Q:VK} (h:trE K (fOp k f g) τ H Q):tOp r (trE K f) (trE K g) τ H Q:=by
 obtain ⟨L,σ,M,d,M',c,rs,hf,q⟩:=h;unfold fOp at hf;split at hf
 .rename_i x M1 e1;split at hf
  .rename_i y M2 e2;refine ⟨L,σ,M,_,_,c,rs,e1,λL1 H1 v s1 c1 r1=>⟨L1,σ,M1,_,_,c1,rs.stp s1,e2,λL2 H2 w s2 c2 r2=>?_⟩⟩;refine hk (H0:=H) c2 (r1.stp s2) (r2.back s1 c s2.sub) hf λL3 H3 u s3 c3 r3=>?_;exact q L3 H3 u ((s1.trans s2).trans s3) c3 (r3.back (s1.trans s2) c s3.sub)
  .cases hf
 .cases hf
theorem zLT (hk:zDH X.K r k) (ho:OpR X (binaryOp op) r) (h1:QE X a f) (h2:QE X b g):QE X (.BinOp a op b pos) (fOp k f g):=.mk <| PE.imp (zWT ho h1.un h2.un) λ_ _ _ h=>zDd hk h
theorem zWz (hk:zDH X.K r k) (ho:OpR X (compareOp op) r) (h1:QE X a f) (h2:QE X b g) (hm:behindInMarks op b=false):QE X (.Compare a [op] [b] pos) (fOp k f g) :=
 .mk <| PE.imp (zTY ho h1.un h2.un hm) λ_ _ _ h=>zDd hk h
noncomputable def tst (f:FE):FT:=λσ M=>match f σ M with
 |some (.dat (.bl c),M')=>some (c,M')
 |_=>none
theorem zEX {K:Yb} {f:FE} {τ:Sv} {H:Hp} {Q:Bool->Hp->Prop} (h:trT K (tst f) τ H Q):zNh (trE K f) τ H Q:=by
 obtain ⟨L,σ,M,d,M',c,rs,hf,q⟩:=h;unfold tst at hf;split at hf
 .rename_i k M1 e1;cases hf;refine ⟨L,σ,M,_,_,c,rs,e1,λL1 H1 v s1 c1 r1=>?_⟩;have:v=.bl d:=by unfold za Rep at r1;exact r1
  exact ⟨d,this,q L1 H1 s1 c1⟩
 .cases hf
theorem zEx (h:∀ τ H Q,t τ H Q->t' τ H Q) (q:zNh t τ H Q):zNh t' τ H Q:=h _ _ _ q
theorem zDt {op:CmpOp} {r:R2} {k:K2} {f g:FE} (hk:zDH X.K r k) (ho:OpR X (compareOp op) r) (h1:QE X a f) (h2:QE X b g) (hm:behindInMarks op b=false):QT X (.Compare a [op] [b] pos) (tst (fOp k f g)) :=
 .mk <| PT.imp (zSC ho h1.un h2.un hm) λ_ _ _ h=>zEx (λ_ _ _ z=>zDd hk z) (zEX h)
theorem zKo (h:QE X e f) (he:∀ whole,isTrue e X.env whole=(do let v <- whole;standAt e.pos;holding [v] (truthy v)):=by intro _;rfl):QT X e (tst f) :=
 .mk <| PT.imp (zUN h.un he) λ_ _ _ h=>zEX h
noncomputable def kI (C:Int->Int->Bool) (g:Int->Int->D):K2:=λx y M=>match x,y with
 |.dat (.int i),.dat (.int j)=>if C i j then some (.dat (g i j),M) else none
 |_,_=>none
noncomputable def kI0 (g:Int->Int->D):K2:=kI (λ_ _=>true) g
theorem zLN {K:Yb} {C:Int->Int->Bool} {C':Int->Int->Prop} {g:Int->Int->D} {g':Int->Int->V} (hC:∀ i j,C i j=true->C' i j) (hg:∀ L H i j,Rep L H (g i j) (g' i j)):zDH K (rI C' g') (kI C g):=by
 intro L M M' H H0 x y d v w Q c rx ry hk q;unfold kI at hk;split at hk
 .rename_i i j;split at hk
  .rename_i hc;cases hk;refine ⟨i,j,by unfold za Rep at rx;exact rx,by unfold za Rep at ry;exact ry,hC i j hc,q L H _ (.refl L H) c (hg L H i j)⟩
  .cases hk
 .cases hk
theorem zGB {K:Yb} {g:Int->Int->D} {g':Int->Int->V} (hg:∀ L H i j,Rep L H (g i j) (g' i j)):zDH K (rI0 g') (kI0 g):=by
 intro L M M' H H0 x y d v w Q c rx ry hk q;obtain ⟨i,j,h1,h2,_,h4⟩:=zLN (C:=λ_ _=>true) (C':=λ_ _=>True) (λ_ _ _=>trivial) hg c rx ry hk q;exact ⟨i,j,h1,h2,h4⟩
theorem zAb:Rep L H (.int i) (.int i):=by unfold Rep;rfl
theorem zB2:Rep L H (.bl i) (.bl i):=by unfold Rep;rfl
noncomputable def zOZ (i j:Int):Bool:=(decide (-(2 ^ 64)<i)&&decide (i<2 ^ 64))||(decide (-(2 ^ 64)<j)&&decide (j<2 ^ 64))
noncomputable abbrev zXN:K2:=kI0 λi j=> .int (i+j)
noncomputable abbrev zIE:K2:=kI0 λi j=> .int (i-j)
noncomputable abbrev zMH:K2:=kI zOZ λi j=> .int (i*j)
noncomputable abbrev zDy:K2:=kI (λ_ j=>decide (0<j)) λi j=> .int (i % j)
noncomputable abbrev zM9:K2:=kI (λ_ j=>decide (0<j)&&decide (j<1073741824)) λi j=> .int (i / j)
noncomputable abbrev zOE:K2:=kI (λi j=>decide (0<=j)&&decide (j<=1000000)&&decide (i.natAbs<2 ^ 64)) λi j=> .int (i ^ j.toNat)
noncomputable abbrev kLt:K2:=kI0 λi j=> .bl (decide (i<j))
noncomputable abbrev kLe:K2:=kI0 λi j=> .bl (decide (i<=j))
noncomputable abbrev kGt:K2:=kI0 λi j=> .bl (decide (j<i))
noncomputable abbrev kGe:K2:=kI0 λi j=> .bl (decide (j<=i))
section
variable {f g:FE}
theorem zW5 (h1:QE X a f) (h2:QE X b g):QE X (.BinOp a .Sub b pos) (fOp zIE f g):=zLT (zGB λ_ _ _ _=>zAb) zVP h1 h2
theorem zVy (h1:QE X a f) (h2:QE X b g):QE X (.BinOp a .Mult b pos) (fOp zMH f g):=zLT (zLN (λi j h=>by
 unfold zOZ at h;simp only[Bool.or_eq_true,zYN,zY0]at h;exact h) λ_ _ _ _=>zAb) zUb h1 h2
theorem zWC (h1:QE X a f) (h2:QE X b g):QE X (.BinOp a .Mod b pos) (fOp zDy f g):=zLT (zLN (λi j h=>zYj h) λ_ _ _ _=>zAb) zVL h1 h2
theorem zWG (h1:QE X a f) (h2:QE X b g):QE X (.BinOp a .FloorDiv b pos) (fOp zM9 f g):=zLT (zLN (λi j h=>by
 simp only[zYN,zY0]at h;exact h) λ_ _ _ _=>zAb) zSN h1 h2
theorem zWF (h1:QE X a f) (h2:QE X b g):QE X (.BinOp a .Pow b pos) (fOp zOE f g):=zLT (zLN (λi j h=>by
 simp only[zYN,zY0]at h;exact ⟨h.1.1,h.1.2,h.2⟩) λ_ _ _ _=>zAb) zVH h1 h2
theorem zWM (h1:QE X a f) (h2:QE X b g):QT X (.Compare a [.Lt] [b] pos) (tst (fOp kLt f g)):=zDt (zGB λ_ _ _ _=>zB2) zXB h1 h2 (zEN _)
theorem zWu (h1:QE X a f) (h2:QE X b g):QT X (.Compare a [.LtE] [b] pos) (tst (fOp kLe f g)):=zDt (zGB λ_ _ _ _=>zB2) zXJ h1 h2 (zEN _)
theorem zWV (h1:QE X a f) (h2:QE X b g):QT X (.Compare a [.Gt] [b] pos) (tst (fOp kGt f g)):=zDt (zGB λ_ _ _ _=>zB2) zWW h1 h2 (zEN _)
theorem zW3 (h1:QE X a f) (h2:QE X b g):QT X (.Compare a [.GtE] [b] pos) (tst (fOp kGe f g)):=zDt (zGB λ_ _ _ _=>zB2) zWI h1 h2 (zEN _)
end
end
noncomputable def zBW (M:Mem):EV->Option (List D)
 |.fl xs=>some xs
 |.dat (.ref n)=>match M[n]? with
  |some (.lst xs)=>some xs
  |some (.fro xs)=>some xs
  |_=>none
 |_=>none
noncomputable def zBz:EV->Option (List D)
 |.dat (.tup xs)=>some xs
 |_=>none
noncomputable def zAJ (M:Mem) (x:EV):Option (List D):=match zBz x with
 |some xs=>some xs
 |none=>zBW M x
theorem zA6 {K:Yb} {L:Yg} {M:Mem} {H H0:Hp} {x:EV} {v:V} {xs:List D} (c:Cor K L M H) (r:za H0 L H x v) (h:zBW M x=some xs):∃ a vs,v=.ref a/\Rd H a (.lst vs)/\zR L H xs vs:=by
 cases x with
 |fl ys=>
  cases h;obtain ⟨p,vs,rfl,_,e,_,r⟩:=r;exact ⟨p,vs,rfl,.inl e,r⟩
 |dat d=>
  cases d with
  |ref n=>
   unfold za Rep at r;obtain ⟨a,rfl,e⟩:=r;unfold zBW at h;dsimp only at h;cases q:M[n]? with
   |none=>rw[q]at h;cases h
   |some m=>
    rw[q]at h;have z:=c.obj n a m e q;cases m with
    |lst ys=>cases h;obtain ⟨vs,e1,r1⟩:=z;exact ⟨a,vs,rfl,.inl e1,r1⟩
    |fro ys=>cases h;obtain ⟨o,vs,e1,r1⟩:=z;exact ⟨a,vs,rfl,.inr ⟨o,e1⟩,r1⟩
    |dict _=>cases h
    |dicT _=>cases h
    |set _=>cases h
    |froT _=>cases h
    |froK _=>cases h
  |_=>cases h
theorem zBk {L:Yg} {H H0:Hp} {x:EV} {v:V} {xs:List D} (r:za H0 L H x v) (h:zBz x=some xs):∃ a vs,v=.ref a/\H a=some (.tup vs)/\zR L H xs vs:=by
 cases x with
 |fl ys=>cases h
 |dat d=>
  cases d with
  |tup ys=>cases h;unfold za Rep at r;exact r
  |_=>cases h
theorem zFd {K:Yb} {L:Yg} {M:Mem} {H H0:Hp} {x:EV} {v:V} {xs:List D} (c:Cor K L M H) (r:za H0 L H x v) (h:zAJ M x=some xs):∃ a vs,v=.ref a/\(SqL K H a vs\/SqT K H a vs)/\zR L H xs vs:=by
 unfold zAJ at h;cases q:zBz x with
 |some ys=>
  rw[q]at h;cases h;obtain ⟨a,vs,e,h1,h2⟩:=zBk r q;exact ⟨a,vs,e,.inr (.of h1),h2⟩
 |none=>
  rw[q]at h;obtain ⟨a,vs,e,h1,h2⟩:=zA6 c r h;exact ⟨a,vs,e,.inl (.inl h1),h2⟩
theorem zVV {L:Yg} {H:Hp} {xs:List D} {vs:List V} {i:Int} {d:D} (r:zR L H xs vs) (h:atI xs i=some d):∃ v,atI vs i=some v/\Rep L H d v:=by
 unfold atI at h ⊢;rw[r.length];cases q:ixN xs.length i with
 |none=>rw[q]at h;cases h
 |some j=>rw[q]at h;exact r.get h
theorem zSt {L:Yg} {H:Hp} {i:Str}:Rep L H (.str i) (.str i):=by unfold Rep;rfl
noncomputable def kIx:K2:=λx y M=>match y with
 |.dat (.int i)=>match zAJ M x with
  |some xs=>match atI xs i with
   |some d=>some (.dat d,M)
   |none=>none
  |none=>match x with
   |.dat (.str z)=>if z.length<=sizeLine then match atI z.cps.toList i with
     |some c=>some (.dat (.str ⟨#[c]⟩),M)
     |none=>none
    else none
   |_=>none
 |_=>none
theorem zUu {K:Yb}:zDH K (rIx K) kIx:=by
 intro L M M' H H0 x y d v w Q c rx ry hk q;unfold kIx at hk;split at hk
 .rename_i i;have ew:w=.int i:=by unfold za Rep at ry;exact ry
  split at hk
  .rename_i xs e1;split at hk
   .rename_i d' e2;cases hk;obtain ⟨a,vs,rfl,hs,r⟩:=zFd c rx e1;obtain ⟨u,e3,r3⟩:=zVV r e2;rcases hs with hs|hs
    .exact .inl ⟨a,vs,i,u,rfl,ew,hs,e3,q L H u (.refl L H) c r3⟩
    .exact .inr (.inl ⟨a,vs,i,u,rfl,ew,hs,e3,q L H u (.refl L H) c r3⟩)
   .cases hk
  .split at hk
   .rename_i z _;split at hk
    .rename_i hz;split at hk
     .rename_i ch e2;cases hk;have ev:v=.str z:=by unfold za Rep at rx;exact rx
      exact .inr (.inr ⟨z,i,ch,ev,ew,hz,e2,q L H _ (.refl L H) c (zSt (L:=L) (H:=H))⟩)
     .cases hk
    .cases hk
   .cases hk
 .cases hk
section
variable {prog:Ym} {w:Yo} {A:Yn} {E:Yc} {s:Yl}
theorem zM0 {t sl:Yt} {items:Yp} {vl vu:Yu} {lo hi:Ys} {Q:Yc} (T:IsTup s.heap t items) (S:s.heap.IsSliceOf sl vl vu .none) (pl:IsPart vl lo) (pu:IsPart vu hi)
  (h1:HT.sIx items.size 0 lo=0) (h2:HT.sIx items.size items.size hi=items.size) (h:Q (.ref t) s):wpAny (model prog w) A (getItem (.ref t) (.ref sl)) Q E s:=by
 obtain ⟨o,O,C,G⟩:=id S;have TS:s.TypeIs (.ref sl) "slice" := ⟨o,O,C⟩;unfold getItem;try with_reducible refine zYg ?_
 first|refine zXn (zXp ?_)|skip
 refine zXn (wpAny_sequenceKey T.typeIs (by decide) ?_);refine zXn (zYP (name:=Str.ofString "__getitem__") T.typeIs zZL (zYQ zZL T.typeIs entry_tuple_getitem ?_ (args_tuple_getitem _ _)));refine zXn (m:=Builtin.Tuple.tupleItemsOf (.ref t)) (tupleItemsOf_ T (zXn (wpAny_typeOf TS ?_)));rw[zX2 (by decide)];refine zXn (HT.zDL S pl pu ?_);rw[h1,h2];show wpAny _ _ (if ((((0:Nat):Int)==0&&(1:Int)==1&&(items.size-0)==items.size))=true then _ else _) _ _ s;rw[zX2 (by simp)];unfold Builtin.Tuple.tupleIsExact;refine zXn (zXn (wpAny_typeOf T.typeIs (zXp ?_)));rw[zX2 (by decide)];exact zXn (zZA (zXp ⟨_,rfl,zXp h⟩))
end
def zXb (K:Yb):V->Option Int->Option Int->Hp->VK->Prop:=λx lo hi H Q=>∃ a xs,x=.ref a/\SqT K H a xs/\(HT.sIx xs.length 0 lo=0/\HT.sIx xs.length xs.length hi=xs.length)/\Q (.ref a) H
theorem zTP {X:Cx}:SlR X (zXb X.K):=by
 intro zB s σ H x v vl vu lo hi sl Q I rx hs pl pu h;obtain ⟨a,xs,rfl,hx,hw,q⟩:=h;cases rx;obtain ⟨its,r,ht,hz⟩:=I.tuple hx;have hlen:its.toArray.size=xs.length:=by rw[zXv];exact r.length.symm
 exact ⟨"tuple", _,zZL.lookup,ht.typeIs,zM0 ht hs pl pu (by rw[hlen];exact hw.1) (by rw[hlen];exact hw.2) ⟨.ref a,H,I,rfl,q⟩⟩
section
variable {X:Cx} {a b e:Expr} {es:Yi} {pos:Pos} {f g:FE}
theorem zXh (h1:QE X a f) (h2:QE X b g) (hs:zNq b:=by intro _ _;rfl):QE X (.Subscript a b pos) (fOp kIx f g):=.mk <| PE.imp (zWb zUU h1.un h2.un hs) λ_ _ _ h=>zDd zUu h
noncomputable abbrev FO:=Sd->Mem->Option (Option Int × Mem)
noncomputable def trO (K:Yb) (f:FO):TO:=λτ H Q=>∃ L σ M d M',Cor K L M H/\zBj L H σ τ/\f σ M=some (d,M') /\ ∀ L' H',Stp L H L' H'->Cor K L' M' H'->Q d H'
structure QO (X:Cx) (e:Option Expr) (f:FO):Prop where
 un:PO X e (trO X.K f)
noncomputable def zBy:FO:=λ_ M=>some (none,M)
noncomputable def zBZ (f:FE):FO:=λσ M=>match f σ M with
 |some (.dat (.int i),M')=>some (some i,M')
 |_=>none
theorem PO.imp {e:Option Expr} {t t':TO} (h:PO X e t) (hi:∀ τ H Q,t' τ H Q->t τ H Q):PO X e t':=λzB s σ H Q I q=>h zB s σ H Q I (hi _ _ _ q)
theorem zSv:QO X none zBy:=.mk <| PO.imp zSU λτ H Q zz=>by
 obtain ⟨L,σ,M,d,M',c,rs,hf,q⟩:=zz;unfold zBy at hf;cases hf;exact q L H (.refl L H) c
theorem zTa (h:QE X e f):QO X (some e) (zBZ f):=.mk <| PO.imp (zSe h.un) λτ H Q zz=>by
 obtain ⟨L,σ,M,d,M',c,rs,hf,q⟩:=zz;unfold zBZ at hf;split at hf
 .rename_i i M1 e1;cases hf;refine ⟨L,σ,M,_,_,c,rs,e1,λL1 H1 v s1 c1 r1=>?_⟩;exact ⟨i,by unfold za Rep at r1;exact r1,q L1 H1 s1 c1⟩
 .cases hf
noncomputable def zDi (xs:List D) (lo hi:Ys):List D:=(xs.drop (HT.sIx xs.length 0 lo)).take (HT.sIx xs.length xs.length hi-HT.sIx xs.length 0 lo)
theorem zNf {L:Yg} {H:Hp} {xs:List D} {vs:List V} {lo hi:Ys} (r:zR L H xs vs):zR L H (zDi xs lo hi) (zL3 vs lo hi):=by
 unfold zDi zL3;rw[r.length];exact (r.drop _).take _
noncomputable def kSl (x:EV) (lo hi:Ys) (M:Mem):Option (EV × Mem):=match zBz x with
 |some xs=>some (.dat (.tup (zDi xs lo hi)),M)
 |none=>match zBW M x with
  |some xs=>some (.fl (zDi xs lo hi),M)
  |none=>none
noncomputable def fSl (f:FE) (fl fh:FO):FE:=λσ M=>match f σ M with
 |some (x,M1)=>match fl σ M1 with
  |some (lo,M2)=>match fh σ M2 with
   |some (hi,M3)=>kSl x lo hi M3
   |none=>none
  |none=>none
 |none=>none
theorem zTE {lo hi:Option Expr} {p2:Pos} {fl fh:FO} (h:QE X e f) (hl:QO X lo fl) (hh:QO X hi fh):QE X (.Subscript e (.Slice lo hi none p2) pos) (fSl f fl fh) :=
 .mk <| PE.imp (zQw (SlR.or zSP (SlR.or zUd zTP)) h.un hl.un hh.un) λτ H Q zz=>by
  obtain ⟨L,σ,M,d,M',c,rs,hf,q⟩:=zz;unfold fSl at hf;split at hf
  .rename_i x M1 e1;split at hf
   .rename_i l M2 e2;split at hf
    .rename_i u M3 e3;refine ⟨L,σ,M,_,_,c,rs,e1,λL1 H1 v s1 c1 r1=>⟨L1,σ,M1,_,_,c1,rs.stp s1,e2,λL2 H2 s2 c2=>⟨L2,σ,M2,_,_,c2,rs.stp (s1.trans s2),e3,λL3 H3 s3 c3=>?_⟩⟩⟩;have s:=(s1.trans s2).trans s3;have r3:za H L3 H3 x v:=(r1.stp s2).stp s3;unfold kSl at hf;cases t:zBz x with
     |some xs=>
      rw[t]at hf;cases hf;obtain ⟨a,vs,rfl,e4,r4⟩:=zBk r3 t;by_cases hw:HT.sIx vs.length 0 l=0/\HT.sIx vs.length vs.length u=vs.length
      .refine .inr (.inr ⟨a,vs,rfl,.of e4,hw,?_⟩);have ec:zDi xs l u=xs:=by
        unfold zDi;rw[<-r4.length,hw.1,hw.2,r4.length];simp
       rw[ec]at q;refine q L3 H3 _ s c3 ?_;unfold za Rep;exact ⟨a,vs,rfl,e4,r4⟩
      .refine .inr (.inl ⟨a,vs,rfl,.of e4,hw,λp hp=>?_⟩);exact q L3 _ _ (s.trans (.upd hp)) (c3.upd hp) (Rep.newTup hp (zNf r4))
     |none=>
      rw[t]at hf;dsimp only at hf;split at hf
      .rename_i xs e4;cases hf;obtain ⟨a,vs,rfl,e5,r5⟩:=zA6 c3 r3 e4;refine .inl ⟨a,vs,rfl,.inl e5,λp hp=>?_⟩;exact q L3 _ _ (s.trans (.upd hp)) (c3.upd hp) (za.newLst s c c3 hp (zNf r5))
      .cases hf
    .cases hf
   .cases hf
  .cases hf
noncomputable abbrev KB:=List EV->Mem->Option (EV × Mem)
def zIA (K:Yb) (r:List V->Hp->VK->Prop) (k:KB):Prop:=∀ {L:Yg} {M M':Mem} {H H0:Hp} {xs:List EV} {d:EV} {vs:List V} {Q:VK},Cor K L M H->zC4 H0 L H xs vs->k xs M=some (d,M') ->
 (∀ L' H' u,Stp L H L' H'->Cor K L' M' H'->za H L' H' d u->Q u H')->r vs H Q
noncomputable def fB (k:KB) (f:FAE):FE:=λσ M=>match f σ M with
 |some (xs,M1)=>k xs M1
 |none=>none
theorem zQg {K:Yb} {r:List V->Hp->VK->Prop} {k:KB} {f:FAE} (hk:zIA K r k) {τ:Sv} {H:Hp} {Q:VK} (h:trE K (fB k f) τ H Q):tCB r (zWY K f) τ H Q:=by
 obtain ⟨L,σ,M,d,M',c,rs,hf,q⟩:=h;unfold fB at hf;split at hf
 .rename_i xs M1 e1;refine ⟨L,σ,M,_,_,c,rs,e1,λL1 H1 vs s1 c1 r1=>?_⟩;refine hk c1 r1 hf λL2 H2 u s2 c2 r2=>?_;exact q L2 H2 u (s1.trans s2) c2 (r2.back s1 c s2.sub)
 .cases hf
theorem zC4.one {H0:Hp} {L:Yg} {H:Hp} {x:EV} {vs:List V} (h:zC4 H0 L H [x] vs):∃ v,vs=[v]/\za H0 L H x v:=by
 obtain ⟨v,r,rfl,h1,h2⟩:=h;unfold zC4 at h2;subst h2;exact ⟨v,rfl,h1⟩
noncomputable def zAv:KB:=λxs M=>match xs with
 |[x]=>match zAJ M x with
  |some ys=>some (.dat (.int ys.length),M)
  |none=>none
 |_=>none
theorem zTg:zIA X.K (λxs H Q=>∃ p ys,xs=[.ref p]/\(SqL X.K H p ys\/SqT X.K H p ys)/\Q (.int ys.length) H) zAv:=by
 intro L M M' H H0 xs d vs Q c r hk q;unfold zAv at hk;split at hk
 .rename_i x;split at hk
  .rename_i ys e1;cases hk;obtain ⟨v,rfl,r1⟩:=r.one;obtain ⟨a,ws,rfl,hs,r2⟩:=zFd c r1 e1;refine ⟨a,ws,rfl,hs,q L H _ (.refl L H) c ?_⟩;rw[r2.length];exact (zAb (L:=L) (H:=H))
  .cases hk
 .cases hk
theorem zDn {x:Str} {p:Pos} {id:String} {r:List V->Hp->VK->Prop} {k:KB} {f:FAE} (hk:zIA X.K r k) (hc:zCP X (.builtin id) r) (hv:bootBuiltins x=some (.builtin id)) (hg:Gl X x) (hm:X.mg x=none) (ha:QAE X (e::es) f) (hn:x ≠ "__name__" := by decide) (hdb:(x==("__debug__" : Str))=false:=by decide)
  (he:starEach (e::es) X.env=(false,eval e X.env)::starEach es X.env:=by rfl) (hpl:(backTo pos (starEach es X.env)).any (·.1)=false:=by rfl):QE X (.Call (.Name x p) (e::es) [] pos) (fB k f) :=
 .mk <| PE.imp (zK5 hc hg hm hv ha.un hn hdb he hpl) λ_ _ _ h=>zQg hk h
theorem zKz {x:Str} {p:Pos} {T:String} {r:List V->Hp->VK->Prop} {k:KB} {f:FAE} (hk:zIA X.K r k) (hc:zCP X (.type T) r) (hv:bootBuiltins x=some (.type T)) (hg:Gl X x) (hm:X.mg x=none) (ha:QAE X (e::es) f) (hn:x ≠ "__name__" := by decide) (hdb:(x==("__debug__" : Str))=false:=by decide)
  (he:starEach (e::es) X.env=(false,eval e X.env)::starEach es X.env:=by rfl) (hpl:(backTo pos (starEach es X.env)).any (·.1)=false:=by rfl):QE X (.Call (.Name x p) (e::es) [] pos) (fB k f) :=
 .mk <| PE.imp (zDO hc hg hm hv ha.un hn hdb he hpl) λ_ _ _ h=>zQg hk h
noncomputable def zAR:KB:=λxs M=>match xs with
 |[x]=>match zAJ M x with
  |some ys=>some (.dat (.tup ys),M)
  |none=>none
 |_=>none
theorem zO0:zIA X.K (λxs H Q=>∃ p ys,xs=[.ref p]/\((SqL X.K H p ys /\ ∀ l,H l=none->Q (.ref l) (upd H l (.tup ys)))\/(SqT X.K H p ys/\Q (.ref p) H))) zAR:=by
 intro L M M' H H0 xs d vs Q c r hk q;unfold zAR at hk;split at hk
 .rename_i x;split at hk
  .rename_i ys e1;cases hk;obtain ⟨v,rfl,r1⟩:=r.one;unfold zAJ at e1;cases t:zBz x with
   |some zs=>
    rw[t]at e1;cases e1;obtain ⟨a,ws,rfl,e2,r2⟩:=zBk r1 t;refine ⟨a,ws,rfl,.inr ⟨.of e2,q L H _ (.refl L H) c ?_⟩⟩;unfold za Rep;exact ⟨a,ws,rfl,e2,r2⟩
   |none=>
    rw[t]at e1;obtain ⟨a,ws,rfl,e2,r2⟩:=zA6 c r1 e1;refine ⟨a,ws,rfl,.inl ⟨.inl e2,λp hp=>?_⟩⟩;exact q L _ _ (.upd hp) (c.upd hp) (Rep.newTup hp r2)
  .cases hk
 .cases hk
end
set_option genInjectivity true in
inductive Out where
 |nx|ret (d:D)|brk|cnt
noncomputable abbrev FS:=Sd->Mem->Option (Out × Sd × Mem)
def zV6 (E:Ends) (L:Yg) (H:Hp) (σ:Sd):Out->Prop
 |.nx=>∀ τ,zBj L H σ τ->E.nx τ H
 |.ret d=>∀ v,Rep L H d v->E.rt v H
 |.brk=>∀ τ,zBj L H σ τ->E.bk τ H
 |.cnt=>∀ τ,zBj L H σ τ->E.ct τ H
noncomputable def trS (K:Yb) (f:FS):TS:=λE τ H=>∃ L σ M o σ' M',Cor K L M H/\zBj L H σ τ/\f σ M=some (o,σ',M') /\ ∀ L' H',Stp L H L' H'->Cor K L' M' H'->zV6 E L' H' σ' o
structure QS (X:Cx) (st:Stmt) (f:FS):Prop where
 un:PS X st (trS X.K f)
structure QSs (X:Cx) (st:Yy) (f:FS):Prop where
 un:PSs X st (trS X.K f)
theorem zBj.set (h:zBj L H σ τ) (r:Rep L H d v):zBj L H (σ.set i (some d)) (τ.set i (some v)):=by
 refine ⟨by simp[h.1],λj e q=>?_⟩;rw[zZM]at q ⊢;split at q
 .rename_i z;subst z;split at q
  .rename_i hl;cases q;rw[zX2 rfl,zX2 (by rw[h.1];exact hl)];exact ⟨v,rfl,r⟩
  .cases q
 .rename_i z;rw[zX5 z];exact h.2 j e q
theorem zK3 {K:Yb} {f:FE} {τ:Sv} {H:Hp} {Q:VK} (h:trD K (toD f) τ H Q):trE K f τ H Q:=by
 obtain ⟨L,σ,M,d,M',c,rs,hf,q⟩:=h;unfold toD at hf;split at hf
 .rename_i d' M1 e1;cases hf;exact ⟨L,σ,M,_,_,c,rs,e1,λL' H' v s c' r=>q L' H' v s c' r⟩
 .rename_i xs M1 e1;cases hf;refine ⟨L,σ,M,_,_,c,rs,e1,λL' H' v s c' r=>?_⟩;obtain ⟨p,vs,rfl,e0,e2,e3,r⟩:=r;obtain ⟨c2,s2⟩:=zUC s c' e0 e2 e3 r;exact q _ H' _ s2 c2 (Rep.last c')
 .cases hf
noncomputable def zBX:FS:=λσ M=>some (.nx,σ,M)
noncomputable def zW (f g:FS):FS:=λσ M=>match f σ M with
 |some (.nx,σ1,M1)=>g σ1 M1
 |r=>r
noncomputable def sIf (c:FT) (f g:FS):FS:=λσ M=>match c σ M with
 |some (true,M1)=>f σ M1
 |some (false,M1)=>g σ M1
 |none=>none
noncomputable def zAO (f:FE):FS:=λσ M=>match toD f σ M with
 |some (d,M1)=>some (.ret d,σ,M1)
 |none=>none
noncomputable def zj (i:Nat) (f:FE):FS:=λσ M=>match toD f σ M with
 |some (d,M1)=>some (.nx,σ.set i (some d),M1)
 |none=>none
noncomputable def zBO (f:FE):FS:=λσ M=>match f σ M with
 |some (_,M1)=>some (.nx,σ,M1)
 |none=>none
section
variable {X:Cx} {st:Stmt} {rest:Yy} {e c:Expr} {pos:Pos}
theorem zKL:QSs X [] zBX:=.mk <| PSs.imp zSr λE τ H zz=>by
 obtain ⟨L,σ,M,o,σ',M',c,rs,hf,q⟩:=zz;unfold zBX at hf;cases hf;exact q L H (.refl L H) c τ rs
theorem zGm (h1:QS X st f) (h2:QSs X rest g):QSs X (st::rest) (zW f g):=.mk <| PSs.imp (zPw h1.un h2.un) λE τ H zz=>by
 obtain ⟨L,σ,M,o,σ',M',c,rs,hf,q⟩:=zz;unfold zW at hf;split at hf
 .rename_i σ1 M1 e1;refine ⟨L,σ,M,_,_,_,c,rs,e1,λL1 H1 s1 c1 τ1 r1=>⟨L1,σ1,M1,_,_,_,c1,r1,hf,λL2 H2 s2 c2=>q L2 H2 (s1.trans s2) c2⟩⟩
 .rename_i hne;refine ⟨L,σ,M,_,_,_,c,rs,hf,λL1 H1 s1 c1=>?_⟩;have z:=q L1 H1 s1 c1;cases o with
  |nx=>exact absurd hf (hne σ' M')
  |ret d=>exact z
  |brk=>exact z
  |cnt=>exact z
theorem zH2 (h1:QS X st f):QSs X [st] f:=.mk <| PSs.imp (zS5 h1.un) λ_ _ _ h=>h
theorem zSE (hc:QT X c fc) (ha:QSs X a f) (hb:QSs X b g):QS X (.If c a b pos) (sIf fc f g):=.mk <| PS.imp (zWD hc.un ha.un hb.un) λE τ H zz=>by
 obtain ⟨L,σ,M,o,σ',M',c,rs,hf,q⟩:=zz;unfold sIf at hf;split at hf
 .rename_i M1 e1;refine ⟨L,σ,M,_,_,c,rs,e1,λL1 H1 s1 c1=>?_⟩;exact zG4 ⟨L1,σ,M1,_,_,_,c1,rs.stp s1,hf,λL2 H2 s2 c2=>q L2 H2 (s1.trans s2) c2⟩
 .rename_i M1 e1;refine ⟨L,σ,M,_,_,c,rs,e1,λL1 H1 s1 c1=>?_⟩;exact zHD ⟨L1,σ,M1,_,_,_,c1,rs.stp s1,hf,λL2 H2 s2 c2=>q L2 H2 (s1.trans s2) c2⟩
 .cases hf
theorem zLq (h:QE X e f):QS X (.Return (some e) pos) (zAO f):=.mk <| PS.imp (zVj (zA5 h).un) λE τ H zz=>by
 obtain ⟨L,σ,M,o,σ',M',c,rs,hf,q⟩:=zz;unfold zAO at hf;split at hf
 .rename_i d M1 e1;cases hf;exact ⟨L,σ,M,_,_,c,rs,e1,λL1 H1 v s1 c1 r1=>q L1 H1 s1 c1 v r1⟩
 .cases hf
theorem zHI {K:Yb} {i:Nat} {f:FE} {t:TE} (ht:∀ τ H Q,trE K f τ H Q->t τ H Q) {E:Ends} {τ:Sv} {H:Hp} (h:trS K (zj i f) E τ H):zQ5 t (zCs i) E τ H:=by
 obtain ⟨L,σ,M,o,σ',M',c,rs,hf,q⟩:=h;unfold zj at hf;split at hf
 .rename_i d M1 e1;cases hf;exact ht _ _ _ (zK3 ⟨L,σ,M,_,_,c,rs,e1,λL1 H1 v s1 c1 r1=>q L1 H1 s1 c1 _ ((rs.stp s1).set r1)⟩)
 .cases hf
theorem zWX {i:Nat} {x:Str} {f:FE} {pos':Pos} (hN:X.N.Nodup) (hi:X.N[i]?=some x) (hx:Loc X.env.scope x) (h:QE X e f) (hs:swapsWith e (some (.Name x pos')) pos.line X.env=pure false:=by rfl)
  (hf:X.fn x=true\/X.env.scope.names.lookup x=some .local:=by first|exact .inl rfl|exact .inr rfl|assumption):QS X (.Assign [.Name x pos'] e pos) (zj i f) :=
 .mk <| PS.imp (zUx hN hi hx h.un hs hf) λ_ _ _ z=>zHI (λ_ _ _ z=>z) z
theorem zVr (h:QE X e f) (hs:swapsWith e none pos.line X.env=pure false:=by rfl):QS X (.Expr e pos) (zBO f):=.mk <| PS.imp (zTn h.un hs) λE τ H zz=>by
 obtain ⟨L,σ,M,o,σ',M',c,rs,hf,q⟩:=zz;unfold zBO at hf;split at hf
 .rename_i d M1 e1;cases hf;exact ⟨L,σ,M,_,_,c,rs,e1,λL1 H1 v s1 c1 r1=>q L1 H1 s1 c1 τ (rs.stp s1)⟩
 .cases hf
noncomputable abbrev FG:=D->Sd->Option Sd
def GOk (g:TG) (fg:FG):Prop:=∀ {L:Yg} {H:Hp} {σ σ':Sd} {τ:Sv} {d:D} {v:V} {Q:Sv->Hp->Prop},zBj L H σ τ->Rep L H d v->fg d σ=some σ'->(∀ τ',zBj L H σ' τ'->Q τ' H)->g v τ H Q
noncomputable def gN (i:Nat):FG:=λd σ=>some (σ.set i (some d))
theorem zRi:GOk (zCs i) (gN i):=by
 intro L H σ σ' τ d v Q rs r hf q;unfold gN at hf;cases hf;exact q _ (rs.set r)
noncomputable abbrev FI:=Sd->Mem->Option (List D × Option (Mem->Prop) × Mem)
def zAr (g:Option (Mem->Prop)) (xs:List D) (M:Mem):Prop:=match g with
 |none=>True
 |some p=>p M
def zW0 (K:Yb) (J:It) (L:Yg) (H:Hp) (xs:List D) (g:Option (Mem->Prop)):Prop:=∀ L' H' M',Stp L H L' H'->Cor K L' M' H'->zAr g xs M' ->
 (∀ (i:Nat) d,xs[i]?=some d->J.go i H' /\ ∀ v H'',J.yld i H' v H''->(∀ a o,H' a=some o->H'' a=some o)/\Rep L' H'' d v)/\J.stop xs.length H'
noncomputable def trI (K:Yb) (f:FI):TI:=λτ H R=>∃ L σ M xs g M',Cor K L M H/\zBj L H σ τ/\f σ M=some (xs,g,M') /\ ∀ L' H' J,Stp L H L' H'->Cor K L' M' H'->zW0 K J L' H' xs g->R J H'
structure QI (X:Cx) (tg e:Expr) (f:FI):Prop where
 un:PI X tg e (trI X.K f)
theorem PI.imp (h:PI X tg e t) (hi:∀ τ H R,t' τ H R->t τ H R):PI X tg e t':=λzB s σ H R I q=>h zB s σ H R I (hi _ _ _ q)
noncomputable def zC6 (g:FG) (b:FS) (all:List D) (gd:Option (Mem->Prop)):List D->Sd->Mem->Option (Out × Sd × Mem)
 |[],σ,M=>open Classical in if zAr gd all M then some (.nx,σ,M) else none
 |x::r,σ,M=>open Classical in if zAr gd all M then match g x σ with
   |some σ1=>match b σ1 M with
    |some (.nx,σ2,M2)=>zC6 g b all gd r σ2 M2
    |some (.cnt,σ2,M2)=>zC6 g b all gd r σ2 M2
    |some (.brk,σ2,M2)=>some (.nx,σ2,M2)
    |some (.ret d,σ2,M2)=>some (.ret d,σ2,M2)
    |none=>none
   |none=>none
  else none
noncomputable def zDA (fi:FI) (g:FG) (b:FS):FS:=λσ M=>match fi σ M with
 |some (xs,gd,M1)=>zC6 g b xs gd xs σ M1
 |none=>none
theorem zCY {α:Type} {xs:List α} (h:i<xs.length):xs.drop i=xs[i]::xs.drop (i+1):=List.drop_eq_getElem_cons h
theorem Stp.yld (s:Stp L H L' H') (h:∀ a o,H' a=some o->H'' a=some o):Stp L H L' H'':=s.trans (.grow h)
theorem zPm {K:Yb} {fi:FI} {g:TG} {fg:FG} {b:FS} (hg:GOk g fg) {E:Ends} {τ:Sv} {H:Hp} (h:trS K (zDA fi fg b) E τ H):zV5 (trI K fi) g (trS K b) E τ H:=by
 obtain ⟨L,σ,M,o,σf,Mf,c,rs,hf,q⟩:=h;unfold zDA at hf;split at hf
 .rename_i xs gd M1 e1;refine ⟨L,σ,M,_,_,_,c,rs,e1,λL1 H1 J s1 c1 it=>?_⟩
  refine ⟨λi m τ' H'=>m=xs.length-i/\i<=xs.length /\ ∃ L' σ' M',Stp L1 H1 L' H'/\Cor K L' M' H'/\zBj L' H' σ' τ'/\zC6 fg b xs gd (xs.drop i) σ' M'=some (o,σf,Mf),
   ⟨xs.length,by simp,zYZ _,L1,σ,M1,.refl _ _,c1,rs.stp s1,by simpa using hf⟩,?_⟩
  rintro i m τ' H' ⟨rfl,hi,L',σ',M',s',c',rs',e'⟩;by_cases hlt:i<xs.length
  .rw[zCY hlt]at e';unfold zC6 at e';split at e'
   .rename_i hgd;obtain ⟨step,_⟩:=it L' H' M' s' c' hgd;obtain ⟨go,yl⟩:=step i xs[i] (zXr hlt);cases eg:fg xs[i] σ' with
    |none=>rw[eg]at e';cases e'
    |some σ1=>
     rw[eg]at e';dsimp only at e';refine .inr ⟨go,λτ2 H2=>∃ L2 σ2 M2,Stp L1 H1 L2 H2/\Cor K L2 M2 H2/\zBj L2 H2 σ2 τ2/\zC6 fg b xs gd (xs.drop (i+1)) σ2 M2=some (o,σf,Mf),λτ2 H2 ⟨L2,σ2,M2,a1,a2,a3,a4⟩=>⟨xs.length-(i+1),by omega,rfl,hlt,L2,σ2,M2,a1,a2,a3,a4⟩,λv H2 hy=>?_⟩;obtain ⟨gr,rv⟩:=yl v H2 hy;refine hg (zBj.stp (.grow gr) rs') rv eg λτ2 r2=>?_;cases eb:b σ1 M' with
     |none=>rw[eb]at e';cases e'
     |some r=>
      obtain ⟨o2,σ2,M2⟩:=r;rw[eb]at e';refine ⟨L',σ1,M',_,_,_,c'.grow gr,r2,eb,λL3 H3 s3 c3=>?_⟩;have s13:Stp L1 H1 L3 H3:=(s'.yld gr).trans s3;cases o2 with
      |nx=>exact λτ3 r3=>⟨L3,σ2,M2,s13,c3,r3,e'⟩
      |cnt=>exact λτ3 r3=>⟨L3,σ2,M2,s13,c3,r3,e'⟩
      |brk=>cases e';exact q L3 H3 (s1.trans s13) c3
      |ret d=>cases e';exact q L3 H3 (s1.trans s13) c3
   .cases e'
  .have hi':i=xs.length:=by omega
   subst hi';rw[List.drop_length]at e';unfold zC6 at e';split at e'
   .rename_i hgd;cases e';obtain ⟨_,stop⟩:=it L' H' _ s' c' hgd;exact .inl ⟨stop,q L' H' (s1.trans s') c' τ' rs'⟩
   .cases e'
 .cases hf
theorem zWp (hg:GOk g fg) (hp:PassesOwn (model X.prog X.w) X.A X.env X.xe) (hc:X.calm=true) (hi:QI X tg iter fi) (ht:PG X tg g) (hb:QSs X body b)
  (hs:∀ x,foldedSetIterable iter X.env x=pure x:=by intro _;rfl):QS X (.For tg iter body [] pos) (zDA fi fg b):=.mk <| PS.imp (zU3 hp hc hi.un ht hb.un hs) λ_ _ _ h=>zPm hg h
end
section
variable {X:Cx} {e c iter tg elt:Expr} {pos:Pos} {scope:Y0} {ifs:Yi}
noncomputable def zBq (c:FT) (b:FS):Nat->Sd->Mem->Option (Out × Sd × Mem)
 |0,_,_=>none
 |n+1,σ,M=>match c σ M with
  |some (true,M1)=>match b σ M1 with
   |some (.nx,σ2,M2)=>zBq c b n σ2 M2
   |some (.cnt,σ2,M2)=>zBq c b n σ2 M2
   |some (.brk,σ2,M2)=>some (.nx,σ2,M2)
   |some (.ret d,σ2,M2)=>some (.ret d,σ2,M2)
   |none=>none
  |some (false,M1)=>some (.nx,σ,M1)
  |none=>none
theorem zMC {K:Yb} {fc:FT} {b:FS} {n:Nat} {E:Ends} {τ:Sv} {H:Hp} (h:trS K (zBq fc b n) E τ H):zR4 (trT K fc) (trS K b) E τ H:=by
 obtain ⟨L,σ,M,o,σf,Mf,c,rs,hf,q⟩:=h;refine ⟨λm τ' H'=>∃ L' σ' M',Stp L H L' H'/\Cor K L' M' H'/\zBj L' H' σ' τ'/\zBq fc b m σ' M'=some (o,σf,Mf),⟨n,L,σ,M,.refl _ _,c,rs,hf⟩,?_⟩;rintro m τ' H' ⟨L',σ',M',s',c',rs',e'⟩;cases m with
 |zero=>unfold zBq at e';cases e'
 |succ m=>
  unfold zBq at e';split at e'
  .rename_i M1 e1;refine ⟨L',σ',M',_,_,c',rs',e1,λL1 H1 s1 c1=>zG4 ?_⟩;refine ⟨λτ2 H2=>∃ L2 σ2 M2,Stp L H L2 H2/\Cor K L2 M2 H2/\zBj L2 H2 σ2 τ2/\zBq fc b m σ2 M2=some (o,σf,Mf),λτ2 H2 h2=>⟨m,zYk m,h2⟩,?_⟩;cases eb:b σ' M1 with
   |none=>rw[eb]at e';cases e'
   |some r=>
    obtain ⟨o2,σ2,M2⟩:=r;rw[eb]at e';refine ⟨L1,σ',M1,_,_,_,c1,rs'.stp s1,eb,λL3 H3 s3 c3=>?_⟩;have s13:Stp L H L3 H3:=(s'.trans s1).trans s3;cases o2 with
    |nx=>exact λτ3 r3=>⟨L3,σ2,M2,s13,c3,r3,e'⟩
    |cnt=>exact λτ3 r3=>⟨L3,σ2,M2,s13,c3,r3,e'⟩
    |brk=>cases e';exact q L3 H3 s13 c3
    |ret d=>cases e';exact q L3 H3 s13 c3
  .rename_i M1 e1;cases e';exact ⟨L',_,M',_,_,c',rs',e1,λL1 H1 s1 c1=>zHD (q L1 H1 (s'.trans s1) c1 τ' (rs'.stp s1))⟩
  .cases e'
theorem zSY (n:Nat) (hp:PassesOwn (model X.prog X.w) X.A X.env X.xe) (hc:QT X c fc) (hb:QSs X body b):QS X (.While c body [] pos) (zBq fc b n) :=
 .mk <| PS.imp (zQP hp hc.un hb.un) λ_ _ _ h=>zMC h
noncomputable def zBD (own:Yj) (σ:Sd):Sd:=own.foldl (λσ i=>σ.set i none) σ
theorem zEa:∀ (own:Yj) {σ:Sd} {τ:Sv},zBj L H σ τ->zBj L H (zBD own σ) (clr own τ)
 |[],_,_,h=>h
 |i::r,σ,τ,h=>by
  refine zEa r (σ:=σ.set i none) (τ:=τ.set i none) ⟨by simp[h.1],λj d q=>?_⟩;rw[zZM]at q ⊢;split at q
  .split at q <;> cases q
  .rename_i z;rw[zX5 z];exact h.2 j d q
noncomputable def zAx (g:FG) (tc:FT) (te:FE) (σ:Sd) (all:List D) (gd:Option (Mem->Prop)):List D->Mem->Option (List D × Mem)
 |[],M=>open Classical in if zAr gd all M then some ([],M) else none
 |x::r,M=>open Classical in if zAr gd all M then match g x σ with
   |some σ1=>match tc σ1 M with
    |some (true,M1)=>match toD te σ1 M1 with
     |some (d,M2)=>match zAx g tc te σ all gd r M2 with
      |some (ds,M3)=>some (d::ds,M3)
      |none=>none
     |none=>none
    |some (false,M1)=>zAx g tc te σ all gd r M1
    |none=>none
   |none=>none
  else none
noncomputable def zo (own:Yj) (fi:FI) (g:FG) (tc:FT) (te:FE):FE:=λσ M=>match fi σ M with
 |some (xs,gd,M1)=>if xs.length<=sizeLine then match zAx g tc te (zBD own σ) xs gd xs M1 with
   |some (ys,M2)=>some (.fl ys,M2)
   |none=>none
  else none
 |none=>none
def zFZ (own:Yj) (g:TG) (fg:FG):Prop:=∀ {L:Yg} {H:Hp} {σ σ':Sd} {τ τ0:Sv} {d:D} {v:V} {Q:Sv->Hp->Prop},zBj L H σ τ->Ext (clr own τ0) τ->Rep L H d v->fg d σ=some σ'->(∀ τ',zBj L H σ' τ'->Ext (clr own τ0) τ'->Q τ' H)->g v τ H Q
theorem zBi (hi:i∈own):zFZ own (zCs i) (gN i):=by
 intro L H σ σ' τ τ0 d v Q rs ex r hf q;unfold gN at hf;cases hf;exact q _ (rs.set r) (ex.set hi)
theorem zJI {K:Yb} {own:Yj} {fi:FI} {g:TG} {fg:FG} {tc:FT} {te:FE} (hg:zFZ own g fg) {τ:Sv} {H:Hp} {Q:VK} (h:trE K (zo own fi fg tc te) τ H Q):zQd own (trI K fi) g (trT K tc) (trD K (toD te)) τ H Q:=by
 obtain ⟨L,σ,M,d,Mf,c,rs,hf,q⟩:=h;unfold zo at hf;split at hf
 .rename_i xs gd M1 e1;split at hf
  .rename_i hz;split at hf
   .rename_i zs M2 e2;cases hf;refine ⟨L,σ,M,_,_,_,c,rs,e1,λL1 H1 J s1 c1 it=>?_⟩
    refine ⟨λi m ys H'=>m=xs.length-i/\i<=xs.length /\ ∃ L' M' as bs,Stp L1 H1 L' H'/\Cor K L' M' H'/\zR L' H' as ys/\as.length<=i/\zAx fg tc te (zBD own σ) xs gd (xs.drop i) M'=some (bs,Mf)/\as++bs=zs,
     ⟨xs.length,by simp,zYZ _,L1,M1,[],zs,.refl _ _,c1,.nil,zXt _,by simpa using e2,rfl⟩,?_⟩
    rintro i m ys H' ⟨rfl,hi,L',M',as,bs,s',c',r',hl,e',hab⟩;have hys:ys.length<=i:=by rw[r'.length];exact hl
    by_cases hlt:i<xs.length
    .rw[zCY hlt]at e';unfold zAx at e';split at e'
     .rename_i hgd;obtain ⟨step,_⟩:=it L' H' M' s' c' hgd;obtain ⟨go,yl⟩:=step i xs[i] (zXr hlt);split at e'
      .rename_i σ1 eg;refine .inr ⟨go,λv H2 hy=>?_⟩;obtain ⟨gr,rv⟩:=yl v H2 hy;have s2:Stp L1 H1 L' H2:=s'.yld gr;refine hg (zEa own ((rs.stp s1).stp s2)) (.refl _) rv eg λτ2 r2 x2=>⟨x2,?_⟩;split at e'
       .rename_i M3 e3;split at e'
        .rename_i d M4 e4;split at e'
         .rename_i ds M5 e5;cases e';refine ⟨L',σ1,M',_,_,c'.grow gr,r2,e3,λL3 H3 s3 c3=>zG4 ?_⟩;refine ⟨L3,σ1,M3,_,_,c3,r2.stp s3,e4,λL4 H4 w s4 c4 r4=>?_⟩;have st:Stp L' H' L4 H4:=((Stp.grow gr).trans s3).trans s4;refine ⟨Nat.lt_of_le_of_lt hys (zYC hlt hz),xs.length-(i+1),by omega,rfl,hlt,L4,M4,as++[d],ds,s'.trans st,c4,(r'.stp st).app (.cons r4 .nil),by simp;omega,e5,by rw[<-hab];simp⟩
         .cases e'
        .cases e'
       .rename_i M3 e3;refine ⟨L',σ1,M',_,_,c'.grow gr,r2,e3,λL3 H3 s3 c3=>zHD ?_⟩;have st:Stp L' H' L3 H3:=(Stp.grow gr).trans s3;exact ⟨xs.length-(i+1),by omega,rfl,hlt,L3,M3,as,bs,s'.trans st,c3,r'.stp st,by omega,e',hab⟩
       .cases e'
      .cases e'
     .cases e'
    .have hi':i=xs.length:=by omega
     subst hi';rw[List.drop_length]at e';unfold zAx at e';split at e'
     .rename_i hgd;cases e';obtain ⟨_,stop⟩:=it L' H' _ s' c' hgd;refine .inl ⟨stop,zYE hys hz,λp hp=>?_⟩;rw[zYX]at hab;subst hab;exact q L' _ _ ((s1.trans s').trans (.upd hp)) (c'.upd hp) (za.newLst (s1.trans s') c c' hp r')
     .cases e'
   .cases hf
  .cases hf
 .cases hf
structure QIfs (X:Cx) (ifs:Yi) (f:FT):Prop where
 un:zGk X ifs (trT X.K f)
noncomputable def zq:FT:=λ_ M=>some (true,M)
theorem zQe:QIfs X [] zq:=.mk λzB s σ H Q I h=>by
 obtain ⟨L,σ',M,d,M',c,rs,hf,q⟩:=h;unfold zq at hf;cases hf;exact zRh zB s σ H Q I (q L H (.refl L H) c)
theorem zUY (h:QT X c f):QIfs X [c] f:=.mk (zRQ h.un)
structure QParts (X:Cx) (scope:Y0) (tg:Expr) (ifs:Yi) (elt:Expr) (g:TG) (tc:FT) (te:FE):Prop where
 g:∀ zB cl s H fp,PG (zM X zB scope cl s H fp) tg g
 c:∀ zB cl s H fp,QIfs (zM X zB scope cl s H fp) ifs tc
 e:∀ zB cl s H fp,QE (zM X zB scope cl s H fp) elt te
theorem QParts.parts {g:TG} {tc:FT} {te:FE} (p:QParts X scope tg ifs elt g tc te):CompParts X scope tg ifs elt g (trT X.K tc) (trD X.K (toD te)) :=
 ⟨p.g,λzB cl s H fp=>(p.c zB cl s H fp).un,λzB cl s H fp=>(zA5 (p.e zB cl s H fp)).un⟩
theorem zJi (hg:zFZ own g fg) (C:CompIn X scope own) (hcalm:X.calm=true) (hi:QI X tg iter fi) (p:QParts X scope tg ifs elt g tc te) (hs:∀ x,foldedSetIterable iter X.env x=pure x:=by intro _;rfl) :
  QE X (.ListComp elt [⟨tg,iter,ifs,0⟩] scope pos) (zo own fi fg tc te):=.mk <| PE.imp (zS2 C hcalm hi.un p.parts hs) λ_ _ _ h=>zJI hg h
theorem zOT (hN:X.N.Nodup) (hi':X.N[i]?=some x) (hx:Loc X.env.scope x) (hfn:X.fn x=true\/X.env.scope.names.lookup x=some .local)
  (hsw:swapsWith (.ListComp elt [⟨tg,iter,ifs,0⟩] scope pos) (some (.Name x pos')) pos''.line X.env=pure true)
  (hg:zFZ own g fg) (C:CompIn X scope own) (hcalm:X.calm=true) (hi:QI X tg iter fi) (p:QParts X scope tg ifs elt g tc te) (hs:∀ x,foldedSetIterable iter X.env x=pure x:=by intro _;rfl) :
  QS X (.Assign [.Name x pos'] (.ListComp elt [⟨tg,iter,ifs,0⟩] scope pos) pos'') (zj i (zo own fi fg tc te)) :=
 .mk <| PS.imp (zMm hN hi' hx hfn C hcalm hi.un p.parts hsw hs) λ_ _ _ z=>zHI (λ_ _ _ z=>zJI hg z) z
end
noncomputable abbrev FF:=List D->Mem->Option (D × Mem)
noncomputable def spF (K:Yb) (n:Nat) (g:FF):Sp:=λvs H Q _=>∃ L ds M d M',Cor K L M H/\zR L H ds vs/\ds.length=n/\g ds M=some (d,M') /\ ∀ L' H' v,Stp L H L' H'->Cor K L' M' H'->Rep L' H' d v->Q v H'
noncomputable def zP (g:FF) (fa:FA):FE:=λσ M=>match fa σ M with
 |some (ds,M1)=>match g ds M1 with
  |some (d,M2)=>some (.dat d,M2)
  |none=>none
 |none=>none
section
variable {X:Cx} {e:Expr} {es:Yi} {pos p:Pos} {x:Str} {k:Nat} {f:Yt} {fd:Yz} {ps:Yk}
theorem zU2 (F:FnOk X.prog X.w X.K X.mg X.base CX0 k f fd ps (spF X.K (e::es).length g)) (hr:Room k X.A) (hg:Gl X x) (hm:X.mg x=some (.ref f)) (hk:PySem.W.keepIn X.K (.ref f)=true) (hb:zHl X.K fd ps [])
  (ha:QA X (e::es) fa) (hl:∀ σ M ds M1,fa σ M=some (ds,M1)->ds.length=(e::es).length) (hdb:(x==("__debug__" : Str))=false:=by decide) (he:starEach (e::es) X.env=(false,eval e X.env)::starEach es X.env:=by rfl) (hpl:(backTo pos (starEach es X.env)).any (·.1)=false:=by rfl) :
  QE X (.Call (.Name x p) (e::es) [] pos) (zP g fa) :=
 .mk <| PE.imp (zTW F hr hg hm hk hb .nil zWv ha.un hdb he hpl) λτ H Q zz=>by
  obtain ⟨L,σ,M,d,M',c,rs,hf,q⟩:=zz;unfold zP at hf;split at hf
  .rename_i ds M1 e1;split at hf
   .rename_i d' M2 e2;cases hf;refine ⟨L,σ,M,_,_,c,rs,e1,λL1 H1 vs s1 c1 r1=>?_⟩;dsimp only;rw[zYX];exact ⟨L1,ds,M1,d',_,c1,r1,hl _ _ _ _ e1,e2,λL2 H2 v s2 c2 r2=>q L2 H2 v (s1.trans s2) c2 r2⟩
   .cases hf
  .cases hf
def zSL (fa:FA) (n:Nat):Prop:=∀ σ M ds M1,fa σ M=some (ds,M1)->ds.length=n
theorem zL4:zSL zI 0:=λσ M ds M1 h=>by unfold zI at h;cases h;rfl
theorem zFs {f:FD} {g:FA} {n:Nat} (h:zSL g n):zSL (zD f g) (n+1):=λσ M ds M1 q=>by
 unfold zD at q;split at q
 .split at q
  .rename_i e2;cases q;simp[h _ _ _ _ e2]
  .cases q
 .cases q
noncomputable def zA3 (n:Nat) (b:FS):FF:=λds M=>match b (ds.map some++List.replicate (n-ds.length) none) M with
 |some (.ret d,_,M')=>some (d,M')
 |some (.nx,_,M')=>some (.non,M')
 |_=>none
theorem zJM:∀ {ds:List D} {vs:List V},zR L H ds vs->zBj L H (ds.map some++List.replicate (N.length-ds.length) none) (L2.start N vs):=λ{ds vs} r=>by
 unfold L2.start;have hl:=r.length;refine ⟨by simp[hl],λi d q=>?_⟩;by_cases hi:i<ds.length
 .rw[zXu (by simpa using hi),zYA]at q;rw[zXu (by simpa [hl] using hi),zYA];cases e1:ds[i]? with
  |none=>rw[e1]at q;cases q
  |some d'=>
   rw[e1]at q;cases q;obtain ⟨v,e2,r2⟩:=r.get e1;exact ⟨v,by rw[e2];rfl,r2⟩
 .rw[zYx (by simpa using hi),List.getElem?_replicate]at q;split at q <;> cases q
theorem zw {P:Ym} {w:Yo} {K:Yb} {mg:Yh} {base:Heap} {qual:Str} {st:Stmt} {N:Yk} {b:FS} {n:Nat} (F:Fun K x qual st f fd) (S:FnScope N ps (zQ st)) (hn:ps.length=n)
  (hb:∀ (cdv:Yu) (A:Yn) (outer:List Env) (s:Yl) (H:Hp) (E:XK),Room k (A.deeper (envOfC qual (zQ st) s.heap.objs.size f cdv))->QSs (zMv CX0 P w K mg base N qual (zQ st) f cdv A outer s H E).nox (zCy st) b) :
  FnOk P w K mg base CX0 (k+1) f fd ps (spF K n (zA3 N.length b)):=by
 refine F.ok S (λvs H Q E h=>?_) (λcdv A outer s H vs Q E hr h=>⟨_,(hb cdv A outer s H E hr).un,?_⟩)
 .obtain ⟨L,ds,M,d,M',c,r,hl,_⟩:=h;rw[r.length,hl,hn]
 .obtain ⟨L,ds,M,d,M',c,r,hl,hf,q⟩:=h;unfold zA3 at hf;split at hf
  .rename_i d' σ' M1 e1;cases hf;exact ⟨L,_,M,_,_,_,c,zJM r,e1,λL1 H1 s1 c1 v r1=>q L1 H1 v s1 c1 r1⟩
  .rename_i σ' M1 e1;cases hf;exact ⟨L,_,M,_,_,_,c,zJM r,e1,λL1 H1 s1 c1 τ' r1=>q L1 H1 .non s1 c1 (by unfold Rep;rfl)⟩
  .cases hf
mutual
noncomputable def D.und (n:Nat):D->Bool
 |.tup ds=>D.unds n ds
 |.ref k=>decide (k<n)
 |_=>true
noncomputable def D.unds (n:Nat):List D->Bool
 |[]=>true
 |d::ds=>D.und n d&&D.unds n ds
end
mutual
theorem Rep.less:∀ {d:D} {v:V},D.und L.length d=true->Rep (L++N) H d v->Rep L H d v
 |.non,_,_,h=>by unfold Rep at h ⊢;exact h
 |.bl _,_,_,h=>by unfold Rep at h ⊢;exact h
 |.int _,_,_,h=>by unfold Rep at h ⊢;exact h
 |.str _,_,_,h=>by unfold Rep at h ⊢;exact h
 |.tup ds,_,hb,h=>by
  unfold D.und at hb;unfold Rep at h ⊢;obtain ⟨a,vs,rfl,e,r⟩:=h;exact ⟨a,vs,rfl,e,zR.less hb r⟩
 |.ref n,_,hb,h=>by
  unfold D.und at hb;unfold Rep at h ⊢;obtain ⟨a,rfl,e⟩:=h;exact ⟨a,rfl,by rwa [zXu (zYj hb)]at e⟩
theorem zR.less:∀ {ds:List D} {vs:List V},D.unds L.length ds=true->zR (L++N) H ds vs->zR L H ds vs
 |[],_,_,h=>by unfold zR at h ⊢;exact h
 |d::ds,_,hb,h=>by
  unfold D.unds at hb;rw[zYN]at hb;unfold zR at h ⊢;obtain ⟨v,r,rfl,h1,h2⟩:=h;exact ⟨v,r,rfl,Rep.less hb.1 h1,zR.less hb.2 h2⟩
end
theorem zAy.less {κ:Type} {kf:D->Option κ} {L N:Yg} {H:Hp}:∀ {ps:List (D × D)} {vs:List (κ × V)},(ps.all λp=>D.und L.length p.1&&D.und L.length p.2)=true->zAy kf (L++N) H ps vs->zAy kf L H ps vs
 |[],_,_,h=>h
 |p::r,_,hb,h=>by
  rw[List.all_cons,zYN,zYN]at hb;obtain ⟨k,v,r',rfl,e,h1,h2⟩:=h;exact ⟨k,v,r',rfl,e,Rep.less hb.1.2 h1,zAy.less hb.2 h2⟩
noncomputable def MO.und (n:Nat):MO->Bool
 |.lst xs=>D.unds n xs
 |.fro xs=>D.unds n xs
 |.dict kvs=>kvs.all λp=>D.und n p.1&&D.und n p.2
 |.dicT kvs=>kvs.all λp=>D.und n p.1&&D.und n p.2
 |.set xs=>D.unds n xs
 |.froT kvs=>kvs.all λp=>D.und n p.1&&D.und n p.2
 |.froK kvs=>kvs.all λp=>D.und n p.1&&D.und n p.2
noncomputable def zHr (g:FF):FF:=λds M=>match g ds M with
 |some (d,M')=>if D.und M.length d&&(M'.take M.length).all (MO.und M.length)&&decide (M.length<=M'.length) then some (d,M'.take M.length) else none
 |none=>none
theorem zJ1 {P:Ym} {w:Yo} {K:Yb} {mg:Yh} {base:Heap} {n:Nat} {g:FF} (h:FnOk P w K mg base CX0 k f fd ps (spF K n g)):FnOk P w K mg base CX0 k f fd ps (spF K n (zHr g)) :=
 h.imp λvs H Q E ⟨L,ds,M,d,M',c,r,hl,hf,q⟩=>by
  unfold zHr at hf;split at hf
  .rename_i d' M1 e1;split at hf
   .rename_i hb;cases hf;simp only[zYN,zY0,zYO]at hb;obtain ⟨⟨hb1,hb2⟩,hb3⟩:=hb;refine ⟨L,ds,M,_,_,c,r,hl,e1,λL1 H1 v s1 c1 r1=>?_⟩;obtain ⟨N,rfl⟩:=s1.pre;rw[<-c.len]at hb1 hb2 hb3;refine q L H1 v ⟨⟨[],by simp⟩,λa ha=> .inl ha,s1.old,s1.tup,s1.frz⟩ ⟨?_,?_,λi a m e2 e3=>?_⟩ (Rep.less hb1 r1)
    .rw[zZB,<-c.len];omega
    .exact (zY1.mp c1.nd).1
    .rw[<-c.len]at e3;have hi:i<L.length:=(zXq.mp e2).1;have hm:m∈M1.take L.length:=zYe e3;rw[List.getElem?_take_of_lt hi]at e3;have z:=c1.obj i a m (zB6 e2) e3;have bl:=hb2 m hm;cases m with
     |lst xs=>obtain ⟨ws,e4,r4⟩:=z;exact ⟨ws,e4,zR.less bl r4⟩
     |fro xs=>obtain ⟨o,ws,e4,r4⟩:=z;exact ⟨o,ws,e4,zR.less bl r4⟩
     |dict ps=>obtain ⟨vs,e,r⟩:=z;exact ⟨vs,e,zAy.less bl r⟩
     |dicT ps=>obtain ⟨vs,e,r⟩:=z;exact ⟨vs,e,zAy.less bl r⟩
     |set _=>exact z
     |froT ps=>obtain ⟨o,vs,e,r⟩:=z;exact ⟨o,vs,e,zAy.less bl r⟩
     |froK ps=>obtain ⟨o,vs,e,r⟩:=z;exact ⟨o,vs,e,zAy.less bl r⟩
   .cases hf
  .cases hf
noncomputable def zDQ (g:FF):FF:=λds M=>if D.unds 0 ds then match g ds [] with
  |some (d,_)=>if D.und 0 d then some (d,M) else none
  |none=>none
 else none
theorem zCW {P:Ym} {w:Yo} {K:Yb} {mg:Yh} {base:Heap} {n:Nat} {g:FF} (h:FnOk P w K mg base CX0 k f fd ps (spF K n g)):FnOk P w K mg base CX0 k f fd ps (spF K n (zDQ g)) :=
 h.imp λvs H Q E ⟨L,ds,M,d,M',c,r,hl,hf,q⟩=>by
  unfold zDQ at hf;split at hf
  .rename_i hb0;split at hf
   .rename_i d' M1 e1;split at hf
    .rename_i hb;cases hf;refine ⟨[],ds,[],_,_,⟨rfl,.nil,λi a m e=>by simp at e⟩,zR.less (L:=[]) (N:=L) hb0 (by simpa using r),hl,e1,λL1 H1 v s1 c1 r1=>?_⟩;have gr:∀ a o,H a=some o->H1 a=some o:=λa o e=>s1.old a o e (by simp);exact q L H1 v (.grow gr) (c.grow gr) ((Rep.less (L:=[]) (N:=L1) hb (by simpa using r1)).more L |> λz=>by simpa using z)
    .cases hf
   .cases hf
  .cases hf
theorem zU8 (hl:PE X l tl):PI X tg l (λσ H R=>tl σ H λx H1=>∃ a,x=.ref a/\((∃ xs,SqL X.K H1 a xs)/\R (Itl X.K a) H1\/(∃ xs,SqT X.K H1 a xs)/\R (Itt X.K a) H1)):=by
 intro zB s σ H R I h;refine thn (hl zB s σ H _ I h) λv s1 ⟨y,H1,I1,r1,a,hy,h1⟩=>?_;subst hy;cases r1;have fpk:∀ b∈[s1.heap.objs.size],zCV X zB H1 b:=λb hb=>by
  have e:b=s1.heap.objs.size:=by simpa using hb
  subst e;exact I1.fpOk (zXt _) (I1.hok.fresh (zXt _))
 rcases h1 with ⟨⟨xs,hq⟩,q⟩|⟨⟨xs,hq⟩,q⟩
 .obtain ⟨its,rv,pl,hz⟩:=I1.list hq;exact wpAny_pyIter_list pl.isList ⟨s1.heap.objs.size,[s1.heap.objs.size],_,_,H1,rfl,I1.kept (t':=s1.toks) λb o e=>zXo _ e,zPT a _,⟨_,zXx _ rfl,rfl,rfl⟩,fpk,q⟩
 .obtain ⟨its,rv,pl,hz⟩:=I1.tuple hq;exact zZT (show s1.heap.IsTuple a its.toArray from pl) ⟨s1.heap.objs.size,[s1.heap.objs.size],_,_,H1,rfl,I1.kept (t':=s1.toks) λb o e=>zXo _ e,zML a _,⟨_,zXx _ rfl,rfl,rfl⟩,fpk,q⟩
noncomputable def zDr (x:EV) (xs:List D):Option (Mem->Prop):=match x with
 |.dat (.ref n)=>some λM=>M[n]?=some (.lst xs)\/M[n]?=some (.fro xs)
 |_=>none
noncomputable def zt (f:FE):FI:=λσ M=>match f σ M with
 |some (x,M1)=>match zAJ M1 x with
  |some xs=>some (xs,zDr x xs,M1)
  |none=>none
 |none=>none
noncomputable def zAc (f:FA):FI:=λσ M=>match f σ M with
 |some ([.int j],M1)=>if -(2 ^ 62)<=j/\j<2 ^ 62 then some ((List.range j.toNat).map λ(k:Nat)=>D.int k,none,M1) else none
 |some ([.int i,.int j],M1)=>if -(2 ^ 62)<=i/\i<2 ^ 62 /\ -(2 ^ 62)<=j/\j<2 ^ 62 then some ((List.range (j-i).toNat).map λ(k:Nat)=>D.int (i+k),none,M1) else none
 |_=>none
theorem zUm (h:QE X e g):QI X tg e (zt g):=.mk <| PI.imp (zU8 h.un) λτ H R zz=>by
 obtain ⟨L,σ,M,xs,gd,M',c,rs,hf,q⟩:=zz;unfold zt at hf;split at hf
 .rename_i y M1 e1;split at hf
  .rename_i zs e2;cases hf;refine ⟨L,σ,M,_,_,c,rs,e1,λL1 H1 v s1 c1 r1=>?_⟩;unfold zAJ at e2;cases t:zBz y with
   |some ws=>
    rw[t]at e2;cases e2;obtain ⟨a,vs,rfl,e3,r3⟩:=zBk r1 t;refine ⟨a,rfl,.inr ⟨⟨vs,.of e3⟩,q L1 H1 _ s1 c1 λL2 H2 M2 s2 c2 _=>?_⟩⟩;have e4:=s2.tup a vs e3;have r4:=r3.stp s2;refine ⟨λi d hd=>?_,⟨vs,.of e4,by rw[r4.length];exact zXt _⟩⟩;obtain ⟨u,hu,ru⟩:=r4.get hd;refine ⟨⟨vs,u,.of e4,hu⟩,λv H3 ⟨hH,hv⟩=>?_⟩;subst hH;have:=hv vs (.of e4);rw[hu]at this;cases this;exact ⟨λ_ _ z=>z,ru⟩
   |none=>
    rw[t]at e2;obtain ⟨a,vs,rfl,e3,r3⟩:=zA6 c1 r1 e2;refine ⟨a,rfl,.inl ⟨⟨vs,.inl e3⟩,q L1 H1 _ s1 c1 λL2 H2 M2 s2 c2 hgd=>?_⟩⟩;have key:∃ vs',SqL X.K H2 a vs'/\zR L2 H2 xs vs':=by
     cases y with
     |fl ys=>
      cases e2;obtain ⟨p',vs',hp',_,e5,e6,r6⟩:=r1;cases hp';exact ⟨vs',.of (s2.old _ _ e5 e6),r6.stp s2⟩
     |dat d=>
      cases d with
      |ref n=>
       unfold za Rep at r1;obtain ⟨a',ha',e5⟩:=r1;cases ha';have e6:L2[n]?=some a:=by obtain ⟨N,hN⟩:=s2.pre;rw[hN];exact zB6 e5
       rcases hgd with z|z
       .obtain ⟨vs',e7,r7⟩:=c2.obj n a _ e6 z;exact ⟨vs',.of e7,r7⟩
       .obtain ⟨o,vs',e7,r7⟩:=c2.obj n a _ e6 z;exact ⟨vs',.inl (.inr ⟨o,e7⟩),r7⟩
      |_=>cases e2
    obtain ⟨vs',hq,r7⟩:=key;refine ⟨λi d hd=>?_,⟨vs',hq,by rw[r7.length];exact zXt _⟩⟩;obtain ⟨u,hu,ru⟩:=r7.get hd;refine ⟨⟨vs',u,hq,hu⟩,λv H3 ⟨hH,hv⟩=>?_⟩;subst hH;have:=hv vs' hq;rw[hu]at this;cases this;exact ⟨λ_ _ z=>z,ru⟩
  .cases hf
 .cases hf
theorem zEY (h:zR L H [.int j] vs):vs=[.int j]:=by
 unfold zR at h;obtain ⟨v,r,rfl,h1,h2⟩:=h;unfold zR at h2;unfold Rep at h1;subst h1 h2;rfl
theorem zQf {K:Yb} {L:Yg} {H:Hp} {lo:Int} {n:Nat}:zW0 K (Itr lo n) L H ((List.range n).map λ(k:Nat)=>D.int (lo+k)) none:=by
 intro L' H' M' s c _;refine ⟨λi d hd=>?_,by simp[Itr]⟩;rw[zYA]at hd;cases q:(List.range n)[i]? with
 |none=>rw[q]at hd;cases hd
 |some k=>
  rw[q]at hd;cases hd;have hi:i<n:=by have:=(zXq.mp q).1;simpa using this
  rw[zZr hi]at q;cases q;refine ⟨hi,λv H'' ⟨hH,hv⟩=>?_⟩;subst hH hv;exact ⟨λ_ _ z=>z,zAb⟩
theorem zOM {tg a:Expr} {g:FA} (hg:Gl X "range") (hm:X.mg "range" = none) (ha:QA X [a] g) (hl:zSL g 1) (hs:starEach [a] X.env=[(false,eval a X.env)]:=by rfl):QI X tg (.Call (.Name "range" p) [a] [] pos) (zAc g) :=
 .mk <| PI.imp (zPM hg hm ha.un hs) λτ H R zz=>by
  obtain ⟨L,σ,M,xs,gd,M',c,rs,hf,q⟩:=zz;unfold zAc at hf;split at hf
  .rename_i j M1 e1;split at hf
   .rename_i hb;cases hf;refine ⟨L,σ,M,_,_,c,rs,e1,λL1 H1 vs s1 c1 r1=>⟨j,zEY r1,hb.1,hb.2,q L1 H1 _ s1 c1 ?_⟩⟩;have z:=zQf (K:=X.K) (L:=L1) (H:=H1) (lo:=0) (n:=j.toNat);simpa using z
   .cases hf
  .rename_i e1;have:=hl _ _ _ _ e1;simp at this
  .cases hf
end
section
variable {X:Cx} {a b c e:Expr} {es rest:Yi} {pos p apos cpos:Pos}
noncomputable def zD3 (f g:FT):FT:=λσ M=>match f σ M with
 |some (true,M1)=>g σ M1
 |r=>r
noncomputable def zE2 (f g:FT):FT:=λσ M=>match f σ M with
 |some (false,M1)=>g σ M1
 |r=>r
noncomputable def zGT (f:FT):FT:=λσ M=>match f σ M with
 |some (k,M1)=>some (!k,M1)
 |none=>none
structure QW (X:Cx) (e:Expr) (f:FT):Prop where
 un:PW X e (trT X.K f)
theorem PW.imp (h:PW X e t) (hi:∀ τ H Q,t' τ H Q->t τ H Q):PW X e t':=λwh zB s σ H Q I q=>h wh zB s σ H Q I (hi _ _ _ q)
theorem zS3 (h:QT X a f):QW X (.BoolOp .And [a] pos) f:=.mk (zTM h.un)
theorem zPu (h:QT X a f):QW X (.BoolOp .Or [a] pos) f:=.mk (zVs h.un)
theorem zVW (h1:QT X a f) (h2:QW X (.BoolOp .And (b::rest) pos) g):QW X (.BoolOp .And (a::b::rest) pos) (zD3 f g):=.mk <| PW.imp (zUo h1.un h2.un) λτ H Q zz=>by
 obtain ⟨L,σ,M,d,M',c,rs,hf,q⟩:=zz;unfold zD3 at hf;split at hf
 .rename_i M1 e1;exact ⟨L,σ,M,_,_,c,rs,e1,λL1 H1 s1 c1=>zG4 ⟨L1,σ,M1,_,_,c1,rs.stp s1,hf,λL2 H2 s2 c2=>q L2 H2 (s1.trans s2) c2⟩⟩
 .rename_i hne;cases d with
  |true=>exact absurd hf (hne M')
  |false=>exact ⟨L,σ,M,_,_,c,rs,hf,λL1 H1 s1 c1=>zHD (q L1 H1 s1 c1)⟩
theorem zTt (h1:QT X a f) (h2:QW X (.BoolOp .Or (b::rest) pos) g):QW X (.BoolOp .Or (a::b::rest) pos) (zE2 f g):=.mk <| PW.imp (zV0 h1.un h2.un) λτ H Q zz=>by
 obtain ⟨L,σ,M,d,M',c,rs,hf,q⟩:=zz;unfold zE2 at hf;split at hf
 .rename_i M1 e1;exact ⟨L,σ,M,_,_,c,rs,e1,λL1 H1 s1 c1=>zHD ⟨L1,σ,M1,_,_,c1,rs.stp s1,hf,λL2 H2 s2 c2=>q L2 H2 (s1.trans s2) c2⟩⟩
 .rename_i hne;cases d with
  |false=>exact absurd hf (hne M')
  |true=>exact ⟨L,σ,M,_,_,c,rs,hf,λL1 H1 s1 c1=>zG4 (q L1 H1 s1 c1)⟩
theorem zU0 (h:QW X e f):QT X e f:=.mk (PW.pt h.un)
theorem zRC (h:QT X a f):QT X (.UnaryOp .Not a pos) (zGT f):=.mk <| PT.imp (zUz h.un) λτ H Q zz=>by
 obtain ⟨L,σ,M,d,M',c,rs,hf,q⟩:=zz;unfold zGT at hf;split at hf
 .rename_i k M1 e1;cases hf;exact ⟨L,σ,M,_,_,c,rs,e1,λL1 H1 s1 c1=>q L1 H1 s1 c1⟩
 .cases hf
noncomputable def zMJ (f g:FE):FE:=λσ M=>match f σ M with
 |some (.dat (.bl true),M1)=>g σ M1
 |some (.dat (.bl false),M1)=>some (.dat (.bl false),M1)
 |_=>none
noncomputable def zQc (f:FE):FE:=λσ M=>match f σ M with
 |some (.dat (.bl k),M1)=>some (.dat (.bl (!k)),M1)
 |_=>none
theorem zEj (h:za H0 L H (.dat (.bl k)) v):v=.bl k:=by unfold za Rep at h;exact h
theorem zPq {op} (h:QE X a f):QE X (.BoolOp op [a] pos) f:=.mk (zUc h.un)
theorem zNB (h1:QE X a f) (h2:QE X (.BoolOp .And (b::rest) pos) g):QE X (.BoolOp .And (a::b::rest) pos) (zMJ f g):=.mk <| PE.imp (zUR h1.un h2.un) λτ H Q zz=>by
 obtain ⟨L,σ,M,d,M',c,rs,hf,q⟩:=zz;unfold zMJ at hf;split at hf
 .rename_i M1 e1;exact ⟨L,σ,M,_,_,c,rs,e1,λL1 H1 v s1 c1 r1=>⟨true,zEj r1,zG4 ⟨L1,σ,M1,_,_,c1,rs.stp s1,hf,λL2 H2 w s2 c2 r2=>q L2 H2 w (s1.trans s2) c2 (r2.back s1 c s2.sub)⟩⟩⟩
 .rename_i M1 e1;cases hf;exact ⟨L,σ,M,_,_,c,rs,e1,λL1 H1 v s1 c1 r1=>⟨false,zEj r1,zHD (q L1 H1 _ s1 c1 (by have:=zEj r1;subst this;exact r1))⟩⟩
 .cases hf
theorem zUr (h:QE X a f):QE X (.UnaryOp .Not a pos) (zQc f):=.mk <| PE.imp (zUX h.un) λτ H Q zz=>by
 obtain ⟨L,σ,M,d,M',c,rs,hf,q⟩:=zz;unfold zQc at hf;split at hf
 .rename_i k M1 e1;cases hf;exact ⟨L,σ,M,_,_,c,rs,e1,λL1 H1 v s1 c1 r1=>⟨k,zEj r1,q L1 H1 _ s1 c1 (by unfold za Rep;rfl)⟩⟩
 .cases hf
noncomputable def vIf (t:FT) (f g:FE):FE:=λσ M=>match t σ M with
 |some (true,M1)=>f σ M1
 |some (false,M1)=>g σ M1
 |none=>none
theorem zTh (hc:QT X c t) (h1:QE X a f) (h2:QE X b g):QE X (.IfExp c a b pos) (vIf t f g):=.mk <| PE.imp (zQ6 hc.un h1.un h2.un) λτ H Q zz=>by
 obtain ⟨L,σ,M,d,M',c,rs,hf,q⟩:=zz;unfold vIf at hf;split at hf
 .rename_i M1 e1;exact ⟨L,σ,M,_,_,c,rs,e1,λL1 H1 s1 c1=>zG4 ⟨L1,σ,M1,_,_,c1,rs.stp s1,hf,λL2 H2 w s2 c2 r2=>q L2 H2 w (s1.trans s2) c2 (r2.back s1 c s2.sub)⟩⟩
 .rename_i M1 e1;exact ⟨L,σ,M,_,_,c,rs,e1,λL1 H1 s1 c1=>zHD ⟨L1,σ,M1,_,_,c1,rs.stp s1,hf,λL2 H2 w s2 c2 r2=>q L2 H2 w (s1.trans s2) c2 (r2.back s1 c s2.sub)⟩⟩
 .cases hf
noncomputable abbrev KM:=EV->List D->Mem->Option (D × Mem)
noncomputable def fM (k:KM) (f:FE) (g:FA):FE:=λσ M=>match f σ M with
 |some (x,M1)=>match zBW M1 x with
  |some _=>match g σ M1 with
   |some (ds,M2)=>match k x ds M2 with
    |some (d,M3)=>some (.dat d,M3)
    |none=>none
   |none=>none
  |none=>none
 |none=>none
def zSg (K:Yb) (r:V->List V->Hp->VK->Prop) (k:KM):Prop:=∀ {L:Yg} {M M':Mem} {H H0:Hp} {x:EV} {ds:List D} {d:D} {v:V} {vs:List V} {Q:VK},Cor K L M H->za H0 L H x v->zR L H ds vs->k x ds M=some (d,M') ->
 (∀ L' H' u,Stp L H L' H'->Cor K L' M' H'->Rep L' H' d u->Q u H')->r v vs H Q
theorem zM1 {K:PySem.W.Frag} {r:V->List V->Hp->VK->Prop} {k:KM} {f:FE} {g:FA} (hk:zSg K r k) {τ:Sv} {H:Hp} {Q:VK} (h:trE K (fM k f g) τ H Q):tBM K "list" r (trE K f) (trA K g) τ H Q:=by
 obtain ⟨L,σ,M,d,M',c,rs,hf,q⟩:=h;unfold fM at hf;split at hf
 .rename_i x M1 e1;split at hf
  .rename_i xs e2;split at hf
   .rename_i ds M2 e3;split at hf
    .rename_i d' M3 e4;cases hf;refine ⟨L,σ,M,_,_,c,rs,e1,λL1 H1 v s1 c1 r1=>?_⟩;obtain ⟨a,vs,rfl,e5,r5⟩:=zA6 c1 r1 e2;refine ⟨.inl ⟨rfl,vs,.inl e5⟩,L1,σ,M1,_,_,c1,rs.stp s1,e3,λL2 H2 ws s2 c2 r2=>?_⟩;exact hk c2 (r1.stp s2) r2 e4 λL3 H3 u s3 c3 r3=>q L3 H3 u ((s1.trans s2).trans s3) c3 r3
    .cases hf
   .cases hf
  .cases hf
 .cases hf
noncomputable def zAF:KM:=λx ds M=>match x,ds with
 |.dat (.ref n),[d]=>match M[n]? with
  |some (.lst xs)=>if xs.length<sizeLine then some (.non,M.set n (.lst (xs++[d]))) else none
  |_=>none
 |_,_=>none
theorem zR.one (h:zR L H [d] vs):∃ v,vs=[v]/\Rep L H d v:=by
 unfold zR at h;obtain ⟨v,r,rfl,h1,h2⟩:=h;unfold zR at h2;subst h2;exact ⟨v,rfl,h1⟩
theorem zNO {K:Yb}:zSg K zOA zAF:=by
 intro L M M' H H0 x ds d v vs Q c rx rd hk q;unfold zAF at hk;split at hk
 .rename_i n d';split at hk
  .rename_i xs e1;split at hk
   .rename_i hz;cases hk;unfold za Rep at rx;obtain ⟨a,rfl,e2⟩:=rx;obtain ⟨ws,e3,r3⟩:=c.obj n a _ e2 e1;obtain ⟨w,rfl,r4⟩:=rd.one;obtain ⟨c5,s5⟩:=c.write e2 e1 (r3.app (.cons r4 .nil));exact ⟨a,ws,w,rfl,rfl,e3,by rw[r3.length];exact hz,q L _ _ s5 c5 (by unfold Rep;rfl)⟩
   .cases hk
  .cases hk
 .cases hk
theorem zQq (h:QE X a f) (hg:QA X [e] g) (hbase:attributeBase a "append" X.env (eval a X.env)=eval a X.env:=by rfl)
  (hfew:((backTo cpos (starEach [e] X.env)).all (λx=> !x.1)&&(backToKw cpos (keywordEach [] X.env)).all (λx=>x.1.isSome)&&decide ([e].length+([]:List Keyword).length+(if ([]:List Keyword).isEmpty then 0 else 1)<30))=true:=by rfl)
  (hline:(apos.endLine==cpos.line)=true:=by rfl) (hs:starEach [e] X.env=(false,eval e X.env)::starEach [] X.env:=by rfl) (hplain:(backTo cpos (starEach [] X.env)).any (·.1)=false:=by rfl) :
  QE X (.Call (.Attribute a "append" apos) [e] [] cpos) (fM zAF f g) :=
 .mk <| PE.imp (zNi PySem.F.plainAttrs_list PySem.F.slot_list_append PySem.F.type_list_append zOw h.un hg.un hbase hfew hline hs hplain) λ_ _ _ z=>zM1 zNO z
noncomputable def zIb:KM:=λx ds M=>match x,ds with
 |.dat (.ref n),[.int i]=>match M[n]? with
  |some (.lst xs)=>match ixN xs.length i with
   |some k=>match xs[k]? with
    |some d=>if -(2 ^ 63)<=i/\i<2 ^ 63 then some (d,M.set n (.lst (xs.eraseIdx k))) else none
    |none=>none
   |none=>none
  |_=>none
 |_,_=>none
theorem zSV {K:Yb}:zSg K zRs zIb:=by
 intro L M M' H H0 x ds d v vs Q c rx rd hk q;unfold zIb at hk;split at hk
 .rename_i n i;split at hk
  .rename_i xs e1;split at hk
   .rename_i k e2;split at hk
    .rename_i d' e3;split at hk
     .rename_i hb;cases hk;unfold za Rep at rx;obtain ⟨a,rfl,e4⟩:=rx;obtain ⟨ws,e5,r5⟩:=c.obj n a _ e4 e1;obtain ⟨u,e6,r6⟩:=r5.get e3;obtain ⟨c5,s5⟩:=c.write e4 e1 (r5.eraseIdx k);exact ⟨a,ws,i,k,u,rfl,zEY rd,e5,hb.1,hb.2,by rw[r5.length];exact (zKN e2).1,e6,q L _ _ s5 c5 (r6.stp s5)⟩
     .cases hk
    .cases hk
   .cases hk
  .cases hk
 .cases hk
theorem zWx (h:QE X a f) (hg:QA X [e] g) (hbase:attributeBase a "pop" X.env (eval a X.env)=eval a X.env:=by rfl)
  (hfew:((backTo cpos (starEach [e] X.env)).all (λx=> !x.1)&&(backToKw cpos (keywordEach [] X.env)).all (λx=>x.1.isSome)&&decide ([e].length+([]:List Keyword).length+(if ([]:List Keyword).isEmpty then 0 else 1)<30))=true:=by rfl)
  (hline:(apos.endLine==cpos.line)=true:=by rfl) (hs:starEach [e] X.env=(false,eval e X.env)::starEach [] X.env:=by rfl) (hplain:(backTo cpos (starEach [] X.env)).any (·.1)=false:=by rfl) :
  QE X (.Call (.Attribute a "pop" apos) [e] [] cpos) (fM zIb f g) :=
 .mk <| PE.imp (zNi PySem.F.plainAttrs_list PySem.F.slot_list_pop PySem.F.type_list_pop zQF h.un hg.un hbase hfew hline hs hplain) λ_ _ _ z=>zM1 zSV z
noncomputable def zL6 (x:EV) (i:D) (d:D) (M:Mem):Option Mem:=match x,i with
 |.dat (.ref n),.int i=>match M[n]? with
  |some (.lst xs)=>match ixN xs.length i with
   |some j=>some (M.set n (.lst (xs.set j d)))
   |none=>none
  |_=>none
 |_,_=>none
noncomputable def zMa (fv fo fi:FE):FS:=λσ M=>match toD fv σ M with
 |some (d,M1)=>match fo σ M1 with
  |some (x,M2)=>match toD fi σ M2 with
   |some (i,M3)=>match zL6 x i d M3 with
    |some M4=>some (.nx,σ,M4)
    |none=>none
   |none=>none
  |none=>none
 |none=>none
theorem zRq (hv:QE X v fv) (ho:QE X o fo) (hi:QE X i fi)
  (ha:∀ v,assign (.Subscript o i p) X.env v=(do
   let ov <- holding [v] (eval o X.env);let iv <- holding [v,ov] (eval i X.env);standAt p;holding [v,ov,iv] (setItem ov iv v);release [v,ov,iv] []):=by intro _;rfl)
  (hs:swapsWithSole [.Subscript o i p] v pos.line X.env=pure false:=by rfl) (hw:swappedStores [.Subscript o i p] v X.env=pure none:=by rfl) (h1:(assignEach [.Subscript o i p] X.env).map (·.2)=[assign (.Subscript o i p) X.env]:=by rfl) :
  QS X (.Assign [.Subscript o i p] v pos) (zMa fv fo fi):=.mk <| PS.imp (zQA (zA5 hv).un (zU4 ho.un (zA5 hi).un zQs ha) hs hw h1) λE τ H zz=>by
 obtain ⟨L,σ,M,out,σ',M',c,rs,hf,q⟩:=zz;unfold zMa at hf;split at hf
 .rename_i d M1 e1;split at hf
  .rename_i x M2 e2;split at hf
   .rename_i j M3 e3;split at hf
    .rename_i M4 e4;cases hf;refine ⟨L,σ,M,_,_,c,rs,e1,λL1 H1 u s1 c1 r1=>⟨L1,σ,M1,_,_,c1,rs.stp s1,e2,λL2 H2 w s2 c2 r2=>⟨L2,σ,M2,_,_,c2,rs.stp (s1.trans s2),e3,λL3 H3 z s3 c3 r3=>?_⟩⟩⟩;have st:=(s1.trans s2).trans s3;unfold zL6 at e4;split at e4
     .rename_i n k;split at e4
      .rename_i xs e5;split at e4
       .rename_i m e6;cases e4;have r2':=r2.stp s3;unfold za Rep at r2';obtain ⟨a,rfl,e7⟩:=r2';obtain ⟨ws,e8,r8⟩:=c3.obj n a _ e7 e5;obtain ⟨c9,s9⟩:=c3.write e7 e5 (zR.set ((r1.stp s2).stp s3) m r8);exact ⟨a,ws,k,m,rfl,by unfold Rep at r3;exact r3,e8,by rw[r8.length];exact e6,q L3 _ (st.trans s9) c9 τ ((rs.stp st).stp s9)⟩
       .cases e4
      .cases e4
     .cases e4
    .cases hf
   .cases hf
  .cases hf
 .cases hf
noncomputable def zGJ:D->Option V
 |.non=>some .non
 |.bl k=>some (.bl k)
 |.int i=>some (.int i)
 |.str x=>some (.str x)
 |_=>none
theorem zFB (h:Rep L H d v) (e:zGJ d=some u):v=u:=by
 cases d with
 |non=>cases e;unfold Rep at h;exact h
 |bl _=>cases e;unfold Rep at h;exact h
 |int _=>cases e;unfold Rep at h;exact h
 |str _=>cases e;unfold Rep at h;exact h
 |tup _=>cases e
 |ref _=>cases e
noncomputable def zNW (neg:Bool):K2:=λx y M=>match x,y with
 |.dat d,.dat d'=>match zGJ d,zGJ d' with
  |some u,some w=>if zSR u w then some (.dat (.bl (if neg then !decide (u=w) else decide (u=w))),M) else none
  |_,_=>none
 |_,_=>none
theorem zIr (h:zNW neg x y M=some (r,M')):∃ d d' u w,x=.dat d/\y=.dat d'/\zGJ d=some u/\zGJ d'=some w/\zSR u w=true/\r=.dat (.bl (if neg then !decide (u=w) else decide (u=w)))/\M'=M:=by
 unfold zNW at h;split at h
 .rename_i d d';split at h
  .rename_i u w e1 e2;split at h
   .rename_i hs;cases h;exact ⟨d,d',u,w,rfl,rfl,e1,e2,hs,rfl,rfl⟩
   .cases h
  .cases h
 .cases h
theorem zNv {K:Yb}:zDH K rEq (zNW false):=by
 intro L M M' H H0 x y d v w Q c rx ry hk q;obtain ⟨d1,d2,u,z,rfl,rfl,e1,e2,hs,rfl,rfl⟩:=zIr hk;have a1:=zFB rx e1;have a2:=zFB ry e2;subst a1 a2;exact ⟨hs,q L H _ (.refl L H) c (zB2 (L:=L) (H:=H))⟩
theorem zTd {K:Yb}:zDH K rNe (zNW true):=by
 intro L M M' H H0 x y d v w Q c rx ry hk q;obtain ⟨d1,d2,u,z,rfl,rfl,e1,e2,hs,rfl,rfl⟩:=zIr hk;have a1:=zFB rx e1;have a2:=zFB ry e2;subst a1 a2;exact ⟨hs,q L H _ (.refl L H) c (zB2 (L:=L) (H:=H))⟩
noncomputable def zVN (neg:Bool) (K:Yb):R2:=λx y H Q=>∃ p q xs,x=.ref p/\y=.ref q/\SqL K H p xs/\SqL K H q []/\Q (.bl (if neg then !xs.isEmpty else xs.isEmpty)) H
theorem zKT (r:zb [] its):its=[]:=by cases r;rfl
theorem zKv (hu:X.A.units<cLine):OpR X (compareOp .Eq) (zVN false X.K):=by
 intro zB s σ H x y v u Q I rx ry h;obtain ⟨p,q,xs,rfl,rfl,h1,h2,hq⟩:=h;cases rx;cases ry;obtain ⟨its,rv,pl,_⟩:=I.list h1;obtain ⟨its2,rv2,pl2,_⟩:=I.list h2;cases zKT rv2;cases rv with
 |nil=>exact SeqAt.eq_listAt (e:=λ_=>true) pl.isList pl2.isList rfl hu (λj h1=>by simp at h1) ⟨.bl true,H,I,rfl,hq⟩
 |cons _ _=>exact SeqAt.eq_list_lengthsAt pl.isList pl2.isList (by simp) hu ⟨.bl false,H,I,rfl,hq⟩
theorem zRF (hu:X.A.units<cLine):OpR X (compareOp .NotEq) (zVN true X.K):=by
 intro zB s σ H x y v u Q I rx ry h;obtain ⟨p,q,xs,rfl,rfl,h1,h2,hq⟩:=h;cases rx;cases ry;obtain ⟨its,rv,pl,_⟩:=I.list h1;obtain ⟨its2,rv2,pl2,_⟩:=I.list h2;cases zKT rv2;cases rv with
 |nil=>exact SeqAt.RcNeAt.lists (e:=λ_=>true) pl.isList pl2.isList rfl hu (λj h1=>by simp at h1) _ _ _ _ ⟨.bl false,H,I,rfl,hq⟩
 |cons _ _=>exact SeqAt.RcNeAt.lists_lengths pl.isList pl2.isList (by simp) hu _ _ _ _ ⟨.bl true,H,I,rfl,hq⟩
noncomputable def zRJ (neg:Bool):K2:=λx y M=>match zBW M x,zBW M y with
 |some xs,some []=>some (.dat (.bl (if neg then !xs.isEmpty else xs.isEmpty)),M)
 |_,_=>none
theorem zJc {K:Yb} {neg:Bool}:zDH K (zVN neg K) (zRJ neg):=by
 intro L M M' H H0 x y d v w Q c rx ry hk q;unfold zRJ at hk;split at hk
 .rename_i xs e1 e2;cases hk;obtain ⟨p1,vs,rfl,h1,r1⟩:=zA6 c rx e1;obtain ⟨p2,ws,rfl,h2,r2⟩:=zA6 c ry e2;unfold zR at r2;subst r2;refine ⟨p1,p2,vs,rfl,rfl,.inl h1,.inl h2,q L H _ (.refl L H) c ?_⟩;have:vs.isEmpty=xs.isEmpty:=by
   have:=r1.length;cases vs <;> cases xs <;> simp_all
  rw[this];exact (zB2 (L:=L) (H:=H))
 .cases hk
noncomputable def kOr (k1 k2:K2):K2:=λx y M=>match k1 x y M with
 |some r=>some r
 |none=>k2 x y M
theorem zJ2 {K:Yb} {r1 r2:R2} {k1 k2:K2} (h1:zDH K r1 k1) (h2:zDH K r2 k2):zDH K (λx y H Q=>r1 x y H Q\/r2 x y H Q) (kOr k1 k2):=by
 intro L M M' H H0 x y d v w Q c rx ry hk q;unfold kOr at hk;split at hk
 .rename_i r e1;cases hk;exact .inl (h1 c rx ry e1 q)
 .exact .inr (h2 c rx ry hk q)
noncomputable abbrev kEq:K2:=kOr (zNW false) (zRJ false)
noncomputable abbrev kNe:K2:=kOr (zNW true) (zRJ true)
variable {f g:FE}
theorem zWn (hu:X.A.units<cLine) (h1:QE X a f) (h2:QE X b g):QE X (.Compare a [.Eq] [b] pos) (fOp kEq f g):=zWz (zJ2 zNv zJc) (zTw.or (zKv hu)) h1 h2 (zEN _)
theorem zWy (hu:X.A.units<cLine) (h1:QE X a f) (h2:QE X b g):QT X (.Compare a [.Eq] [b] pos) (tst (fOp kEq f g)):=zDt (zJ2 zNv zJc) (zTw.or (zKv hu)) h1 h2 (zEN _)
theorem zTu (hu:X.A.units<cLine) (h1:QE X a f) (h2:QE X b g):QT X (.Compare a [.NotEq] [b] pos) (tst (fOp kNe f g)):=zDt (zJ2 zTd zJc) (zWO.or (zRF hu)) h1 h2 (zEN _)
end
section
variable {X:Cx} {a b c e:Expr} {es rest:Yi} {pos p apos cpos:Pos}
theorem zRV {prog:Ym} {w:Yo} {A:Yn} {E:Yc} {s:Yl} {t b:Yt} {ws:Yf} {Q:Yc} (ht:IsTup s.heap t #[]) (hb:IsTup s.heap b ws.toArray) (h1:Q (.ref b) s) :
  wpAny (model prog w) A (binaryOp .Add (.ref t) (.ref b)) Q E s:=by
 obtain ⟨⟨cls,dd,data,sl⟩,ho,hc,n,hd⟩:=id ht;obtain ⟨⟨cls2,dd2,data2,sl2⟩,ho2,hc2,n2,hd2⟩:=id hb;simp only at hc hd hc2 hd2;subst hc hd hc2 hd2
 exact concat_meets ⟨_,ho,rfl⟩ ⟨_,ho2,rfl⟩ noFill_tuple_add seq_tuple_add PySem.F.slot_tuple_add PySem.F.entry_tuple_add (PySem.F.args_tuple_add_2 _ _)
   (tuple_addW0 t b #[] ws.toArray n n2 dd dd2 sl sl2 (by simp)) ⟨ho,ho2,h1⟩
noncomputable def zP0 (K:Yb):R2:=λx y H Q=>∃ a b ys,x=.ref a/\y=.ref b/\SqT K H a []/\SqT K H b ys/\Q (.ref b) H
theorem zPl:OpR X (binaryOp .Add) (zP0 X.K):=by
 intro zB s σ H x y v u Q I rx ry h;obtain ⟨a,b,ys,rfl,rfl,ha,hb,q⟩:=h;cases rx;cases ry;obtain ⟨its,r1,p1,_⟩:=I.tuple ha;obtain ⟨its2,r2,p2,_⟩:=I.tuple hb;cases zKT r1;exact zRV p1 p2 ⟨.ref b,H,I,rfl,q⟩
noncomputable def zLd:K2:=λx y M=>match zBz x,zBz y with
 |some xs,some ys=>if xs.length+ys.length<=sizeLine then some (.dat (.tup (xs++ys)),M) else none
 |_,_=>none
theorem zP4 {K:Yb}:zDH K (λx y H Q=>zUA K x y H Q\/zP0 K x y H Q) zLd:=by
 intro L M M' H H0 x y d v w Q c rx ry hk q;unfold zLd at hk;split at hk
 .rename_i xs ys e1 e2;split at hk
  .rename_i hz;cases hk;obtain ⟨p1,vs,rfl,h1,r1⟩:=zBk rx e1;obtain ⟨p2,ws,rfl,h2,r2⟩:=zBk ry e2;cases xs with
   |nil=>
    refine .inr ⟨p1,p2,ws,rfl,rfl,.of (by unfold zR at r1;subst r1;exact h1),.of h2,q L H _ (.refl L H) c ?_⟩;unfold za Rep;exact ⟨p2,ws,rfl,h2,r2⟩
   |cons x0 xr=>
    have hv:vs≠[]:=λz=>by have:=r1.length;rw[z]at this;simp at this
    refine .inl ⟨p1,p2,vs,ws,rfl,rfl,.of h1,.of h2,hv,by rw[r1.length,r2.length];exact hz,λz=>?_,λz pp hp=>?_⟩
    .have:ys=[]:=by
      have:=r2.length;rw[z]at this;cases ys with
      |nil=>rfl
      |cons _ _=>simp at this
     subst this;refine q L H _ (.refl L H) c ?_;unfold za Rep;rw[zYX];exact ⟨p1,vs,rfl,h1,r1⟩
    .exact q L _ _ (.upd hp) (c.upd hp) (Rep.newTup hp (r1.app r2))
  .cases hk
 .cases hk
noncomputable abbrev zAX:K2:=kOr zXN zLd
variable {f g:FE}
theorem zUi (h1:QE X a f) (h2:QE X b g):QE X (.BinOp a .Add b pos) (fOp zAX f g):=zLT (zJ2 (zGB λ_ _ _ _=>zAb) zP4) (zUw.or (zTO.or zPl)) h1 h2
structure Kinds (K:Yb):Prop where
 k:∀ t T,t∈["NoneType", "bool", "int", "str", "list", "tuple", "dict"]->T∈["int", "bool", "str", "tuple"]->PySem.W.kitOne K (.type t) (.type T)=some (decide (t=T)||(decide (t = "bool")&&decide (T = "int")))
noncomputable def zMG (M:Mem):EV->Option String
 |.dat .non=>some "NoneType"
 |.dat (.bl _)=>some "bool"
 |.dat (.int _)=>some "int"
 |.dat (.str _)=>some "str"
 |.dat (.tup _)=>some "tuple"
 |.fl _=>some "list"
 |.dat (.ref n)=>match M[n]? with
  |some (.lst _)=>some "list"
  |some (.fro _)=>some "list"
  |some (.dict _)=>some "dict"
  |some (.dicT _)=>some "dict"
  |_=>none
theorem zUK {K:PySem.W.Frag} {L:List Addr} {M:Mem} {H H0:Hp} {x:EV} {v:V} {t:String} (c:Cor K L M H) (r:za H0 L H x v) (h:zMG M x=some t):TyOf K H v (.type t)/\t∈["NoneType", "bool", "int", "str", "list", "tuple", "dict"]:=by
 unfold zMG at h;split at h
 .cases h;unfold za Rep at r;subst r;exact ⟨.non,by simp⟩
 .cases h;unfold za Rep at r;subst r;exact ⟨.bl _,by simp⟩
 .cases h;unfold za Rep at r;subst r;exact ⟨.int _,by simp⟩
 .cases h;unfold za Rep at r;subst r;exact ⟨.str _,by simp⟩
 .cases h;unfold za Rep at r;obtain ⟨a,vs,rfl,e,_⟩:=r;exact ⟨.tup e,by simp⟩
 .cases h;obtain ⟨p,vs,rfl,_,e,_⟩:=r;exact ⟨.lst e,by simp⟩
 .unfold za Rep at r;obtain ⟨a,rfl,e⟩:=r;split at h
  .rename_i e1;cases h;obtain ⟨vs,q,_⟩:=c.obj _ a _ e e1;exact ⟨.lst q,by simp⟩
  .rename_i e1;cases h;obtain ⟨o,vs,q,_⟩:=c.obj _ a _ e e1;exact ⟨.frz q,by simp⟩
  .rename_i e1;cases h;obtain ⟨vs,q,_⟩:=c.obj _ a _ e e1;exact ⟨.dK q,by simp⟩
  .rename_i e1;cases h;obtain ⟨vs,q,_⟩:=c.obj _ a _ e e1;exact ⟨.dT q,by simp⟩
  .cases h
noncomputable def isT (t T:String):Bool:=decide (t=T)||(decide (t = "bool")&&decide (T = "int"))
noncomputable def zFv (T:String) (f:FE):FE:=λσ M=>match f σ M with
 |some (x,M1)=>match zMG M1 x with
  |some t=>some (.dat (.bl (isT t T)),M1)
  |none=>none
 |none=>none
def zXG (K:Yb) (T:String):List V->Hp->VK->Prop:=λxs H Q=>∃ x t b,xs=[x,.ty T]/\TyOf K H x t/\PySem.W.kitOne K t (.type T)=some b/\Q (.bl b) H
theorem zQI:zCP X (.builtin "isinstance") (zXG X.K T):=by
 intro zB s σ H xs us Q I r h;obtain ⟨x,t,b,rfl,ty,e,q⟩:=h;cases r with
 |cons r1 r2=>
  cases r2 with
  |cons r3 r4=>
   cases r4;cases r3;exact zPH I r1 ty e λtk=>⟨.bl b,H,I.tok _,rfl,q⟩
theorem zJN (hK:Kinds X.K) (hT:T∈["int", "bool", "str", "tuple"]) (hg:Gl X "isinstance") (hm:X.mg "isinstance" = none) (hg2:Gl X y) (hm2:X.mg y=none) (hv2:bootBuiltins y=some (.type T)) (hn2:y ≠ "__name__") (hd2:(y==("__debug__" : Str))=false) (h:QE X e f)
  (he:starEach (e::[.Name y p2]) X.env=(false,eval e X.env)::starEach [.Name y p2] X.env:=by rfl) (he2:starEach [.Name y p2] X.env=(false,eval (.Name y p2) X.env)::starEach [] X.env:=by rfl) (hpl:(backTo pos (starEach [.Name y p2] X.env)).any (·.1)=false:=by rfl) :
  QE X (.Call (.Name "isinstance" p1) [e,.Name y p2] [] pos) (zFv T f) :=
 .mk <| PE.imp (zK5 (r:=zXG X.K T) zQI hg hm (by rfl) (zC1 h.un (zC1 (zST (v:=.ty T) hg2 hm2 hv2 rfl hn2 hd2) zE8 he2) he) (by decide) (by decide) he hpl) λτ H Q zz=>by
  obtain ⟨L,σ,M,d,M',c,rs,hf,q⟩:=zz;unfold zFv at hf;split at hf
  .rename_i x M1 e1;split at hf
   .rename_i t e2;cases hf;refine ⟨L,σ,M,_,_,c,rs,e1,λL1 H1 v s1 c1 r1=>?_⟩;obtain ⟨ty,ht⟩:=zUK c1 r1 e2;exact ⟨v,_,_,rfl,ty,hK.k t T ht hT,q L1 H1 _ s1 c1 (zB2 (L:=L1) (H:=H1))⟩
   .cases hf
  .cases hf
theorem zR.two (h:zR L H [d,d'] vs):∃ v v',vs=[v,v']/\Rep L H d v/\Rep L H d' v':=by
 unfold zR at h;obtain ⟨v,r,rfl,h1,h2⟩:=h;obtain ⟨v',rfl,h3⟩:=h2.one;exact ⟨v,v',rfl,h1,h3⟩
section
variable {fa:FAE}
theorem zPz (hg:Gl X "len") (hm:X.mg "len" = none) (ha:QAE X [e] fa) (he:starEach [e] X.env=(false,eval e X.env)::starEach [] X.env:=by rfl) (hpl:(backTo pos (starEach [] X.env)).any (·.1)=false:=by rfl):QE X (.Call (.Name "len" p) [e] [] pos) (fB zAv fa) :=
 zDn zTg zKU PySem.boot_len hg hm ha (by decide) (by decide) he hpl
theorem zTc (hg:Gl X "tuple") (hm:X.mg "tuple" = none) (ha:QAE X [e] fa) (he:starEach [e] X.env=(false,eval e X.env)::starEach [] X.env:=by rfl) (hpl:(backTo pos (starEach [] X.env)).any (·.1)=false:=by rfl):QE X (.Call (.Name "tuple" p) [e] [] pos) (fB zAR fa) :=
 zKz zO0 zIU (by rfl) hg hm ha (by decide) (by decide) he hpl
end
end
noncomputable def zFg (sc scope:Y0):Bool:=scope.names.all λy=>
 (y.2 != .local||scope.names.lookup y.1==some .local)&&(y.2 != .cell||scope.names.lookup y.1==some .cell)&&(y.2 != .free||(sc.names.lookup y.1==some .cell||sc.names.lookup y.1==some .free))
noncomputable def zGs (N:Yk) (scope:Y0) (own:Yj):Bool:=(List.range N.length).all λi=>match N[i]? with
 |some x=>decide (i∈own)||(scope.names.lookup x==none)||(scope.names.lookup x==some .free)
 |none=>true
theorem zF1 (hk:scope.kind=.function) (hs:X.env.scope=sc) (hN:X.N=N) (h1:zFg sc scope=true) (h2:zGs N scope own=true):CompIn X scope own:=by
 unfold zFg at h1;rw[zYO]at h1;refine ⟨⟨hk,λy hy e=>?_,λy hy e=>?_,λy hy e=>?_⟩,λi x e=>?_⟩
 .have:=h1 y hy;simp[e]at this;exact this
 .have:=h1 y hy;simp[e]at this;exact this
 .have:=h1 y hy;simp[e]at this;show X.env.scope.names.lookup y.1=_\/X.env.scope.names.lookup y.1=_;rw[hs];exact this
 .unfold zGs at h2;rw[zYO]at h2;rw[hN]at e;have hi:i<N.length:=(zXq.mp e).1;have:=h2 i (by simpa using hi);rw[e]at this;simp only[Bool.or_eq_true,zY0,beq_iff_eq,or_assoc]at this;exact this
noncomputable def zJ0 (K:Yb):Bool:=K.all λp=>match p.2.cls with
 |.type n=>n != "list"
 |_=>true
theorem zLV:∀ {K:Yb},K.lookup a=some o->(a,o)∈K
 |[],h=>by cases h
 | (b,u)::r,h=>by
  have h':List.lookup a ((b,u)::r)=some o:=h;rw[zZs]at h';cases q:a==b with
  |true=>rw[q]at h';cases h';rw[beq_iff_eq.mp q];exact zX1
  |false=>rw[q]at h';exact zX0 _ (zLV h')
theorem zOX {K:PySem.W.Frag} (h:zJ0 K=true) {o:Obj} (e:K.lookup a=some o) (hc:o.cls=.type "list"):False:=by
 unfold zJ0 at h;rw[zYO]at h;have:=h (a,o) (zLV e);simp[hc]at this
theorem zIv:∀ (ns:Ye),zR L H (ns.map D.int) (ns.map V.int)
 |[]=> .nil
 |n::r=> .cons (by unfold Rep;rfl) (zIv r)
theorem zON {K:Yb} {m:FF} {H:Hp} {a:Yt} {ns:Ye} {E:XK} (hL:zJ0 K=true) (hO:zSu H) (hS:SqL K H a (ns.map V.int)) (h:∃ M',m [.ref 0] [.fro (ns.map D.int)]=some (.bl true,M')) :
  spF K 1 m [.ref a] H (λv _=>v=.bl true) E:=by
 obtain ⟨M',e⟩:=h;have hf:∃ o,H a=some (.frz o (.lst (ns.map V.int))):=by
  rcases hS with (h1|h1)|⟨o,its,n,h1,h2,_⟩
  .rcases hO a with z|⟨o,xs,z⟩
   .rw[h1]at z;cases z
   .rw[h1]at z;cases z
  .exact h1
  .exact (zOX hL h1 h2).elim
 obtain ⟨o,hf⟩:=hf;refine ⟨[a],[.ref 0],[.fro (ns.map D.int)],_,_,⟨rfl,by simp,λn b m e1 e2=>?_⟩,.cons ?_ .nil,rfl,e,λL' H' v s c r=>?_⟩
 .cases n with
  |zero=>simp at e1 e2;subst e1;subst e2;exact ⟨o,_,hf,zIv ns⟩
  |succ n=>simp at e1
 .unfold Rep;exact ⟨a,rfl,rfl⟩
 .unfold Rep at r;exact r
def Ok {α:Type} (x:Option (α × Mem)) (P:α->Mem->Prop):Prop:=∃ a M,x=some (a,M)/\P a M
def OkS (x:Option (Out × Sd × Mem)) (P:Out->Sd->Mem->Prop):Prop:=∃ o σ M,x=some (o,σ,M)/\P o σ M
theorem Ok.mono {α:Type} {x:Option (α × Mem)} {P Q:α->Mem->Prop} (h:Ok x P) (hq:∀ a M,P a M->Q a M):Ok x Q:=let ⟨a,M,e,p⟩:=h;⟨a,M,e,hq a M p⟩
theorem OkS.mono {x:Option (Out × Sd × Mem)} {P Q:Out->Sd->Mem->Prop} (h:OkS x P) (hq:∀ o σ M,P o σ M->Q o σ M):OkS x Q:=let ⟨a,σ,M,e,p⟩:=h;⟨a,σ,M,e,hq a σ M p⟩
theorem zAA {α:Type} {a:α} {M:Mem} {P:α->Mem->Prop}:Ok (some (a,M)) P ↔ P a M:=⟨λ⟨_,_,e,p⟩=>by cases e;exact p,λp=>⟨a,M,rfl,p⟩⟩
theorem zFb {α:Type} {P:α->Mem->Prop}:Ok (none:Option (α × Mem)) P ↔ False:=⟨(λ⟨_,_,e,_⟩=>(nomatch e)),λh=>h.elim⟩
theorem zPo {o:Out} {σ:Sd} {M:Mem} {P:Out->Sd->Mem->Prop}:OkS (some (o,σ,M)) P ↔ P o σ M:=⟨λ⟨_,_,_,e,p⟩=>by cases e;exact p,λp=>⟨o,σ,M,rfl,p⟩⟩
section
variable {σ:Sd} {M:Mem} {f g:FE} {P:EV->Mem->Prop}
theorem zAS {i:Nat}:Ok (zC i σ M) P ↔ ∃ d,σ[i]?=some (some d)/\P (.dat d) M:=by
 unfold zC;constructor
 .rintro ⟨a,M1,e,p⟩;split at e
  .rename_i d e1;cases e;exact ⟨d,e1,p⟩
  .cases e
 .rintro ⟨d,e1,p⟩;rw[e1];exact ⟨_,_,rfl,p⟩
theorem zFH {d:D}:Ok (fC d σ M) P ↔ P (.dat d) M:=zAA
theorem zBT {k:K2}:Ok (fOp k f g σ M) P ↔ Ok (f σ M) λx M1=>Ok (g σ M1) λy M2=>Ok (k x y M2) P:=by
 unfold fOp;constructor
 .rintro ⟨a,M1,e,p⟩;split at e
  .rename_i x M2 e1;split at e
   .rename_i y M3 e2;exact ⟨x,M2,e1,y,M3,e2,a,M1,e,p⟩
   .cases e
  .cases e
 .rintro ⟨x,M2,e1,y,M3,e2,a,M1,e,p⟩;rw[e1];dsimp only;rw[e2];exact ⟨a,M1,e,p⟩
def zGa (P:D->Mem->Prop):EV->Mem->Prop
 |.dat d,M=>P d M
 |.fl xs,M=>P (.ref M.length) (M++[.lst xs])
theorem zAZ {P:D->Mem->Prop}:Ok (toD f σ M) P ↔ Ok (f σ M) (zGa P):=by
 unfold toD;constructor
 .rintro ⟨a,M1,e,p⟩;split at e
  .rename_i d M2 e1;cases e;exact ⟨_,_,e1,p⟩
  .rename_i xs M2 e1;cases e;exact ⟨_,_,e1,p⟩
  .cases e
 .rintro ⟨x,M2,e1,p⟩;rw[e1];cases x with
  |dat d=>exact ⟨d,M2,rfl,p⟩
  |fl xs=>exact ⟨_,_,rfl,p⟩
theorem zJ {P:D->Mem->Prop} {d:D} {M:Mem}:zGa P (.dat d) M ↔ P d M:=Iff.rfl
theorem zGn {P:D->Mem->Prop} {xs:List D} {M:Mem}:zGa P (.fl xs) M ↔ P (.ref M.length) (M++[.lst xs]):=Iff.rfl
section
variable {P:List D->Mem->Prop}
theorem zAe:Ok (zI σ M) P ↔ P [] M:=zAA
theorem zAG {f:FD} {g:FA}:Ok (zD f g σ M) P ↔ Ok (f σ M) λd M1=>Ok (g σ M1) λds M2=>P (d::ds) M2:=by
 unfold zD;constructor
 .rintro ⟨a,M1,e,p⟩;split at e
  .rename_i x M2 e1;split at e
   .rename_i y M3 e2;cases e;exact ⟨x,M2,e1,y,_,e2,p⟩
   .cases e
  .cases e
 .rintro ⟨x,M2,e1,y,M3,e2,p⟩;rw[e1];dsimp only;rw[e2];exact ⟨_,_,rfl,p⟩
end
section
variable {P:List EV->Mem->Prop}
theorem zGu:Ok (zk σ M) P ↔ P [] M:=zAA
theorem zFO {f:FE} {g:FAE}:Ok (zU f g σ M) P ↔ Ok (f σ M) λd M1=>Ok (g σ M1) λds M2=>P (d::ds) M2:=by
 unfold zU;constructor
 .rintro ⟨a,M1,e,p⟩;split at e
  .rename_i x M2 e1;split at e
   .rename_i y M3 e2;cases e;exact ⟨x,M2,e1,y,_,e2,p⟩
   .cases e
  .cases e
 .rintro ⟨x,M2,e1,y,M3,e2,p⟩;rw[e1];dsimp only;rw[e2];exact ⟨_,_,rfl,p⟩
end
theorem zUf {a:FA}:Ok (zAq a σ M) P ↔ Ok (a σ M) λds M1=>ds.length<=sizeLine/\P (.dat (.tup ds)) M1:=by
 unfold zAq;constructor
 .rintro ⟨x,M1,e,p⟩;split at e
  .rename_i ds M2 e1;split at e
   .rename_i hz;cases e;exact ⟨ds,_,e1,hz,p⟩
   .cases e
  .cases e
 .rintro ⟨ds,M1,e1,hz,p⟩;rw[e1];dsimp only;rw[zX2 hz];exact ⟨_,_,rfl,p⟩
theorem zDs {a:FA}:Ok (zA7 a σ M) P ↔ Ok (a σ M) λds M1=>ds.length<=sizeLine/\P (.fl ds) M1:=by
 unfold zA7;constructor
 .rintro ⟨x,M1,e,p⟩;split at e
  .rename_i ds M2 e1;split at e
   .rename_i hz;cases e;exact ⟨ds,_,e1,hz,p⟩
   .cases e
  .cases e
 .rintro ⟨ds,M1,e1,hz,p⟩;rw[e1];dsimp only;rw[zX2 hz];exact ⟨_,_,rfl,p⟩
theorem zSI {k:KB} {a:FAE}:Ok (fB k a σ M) P ↔ Ok (a σ M) λxs M1=>Ok (k xs M1) P:=by
 unfold fB;constructor
 .rintro ⟨x,M1,e,p⟩;split at e
  .rename_i ds M2 e1;exact ⟨ds,_,e1,x,M1,e,p⟩
  .cases e
 .rintro ⟨ds,M1,e1,p⟩;rw[e1];exact p
theorem zAl {m:FF} {a:FA}:Ok (zP m a σ M) P ↔ Ok (a σ M) λds M1=>Ok (m ds M1) λd M2=>P (.dat d) M2:=by
 unfold zP;constructor
 .rintro ⟨x,M1,e,p⟩;split at e
  .rename_i ds M2 e1;split at e
   .rename_i d M3 e2;cases e;exact ⟨ds,_,e1,d,_,e2,p⟩
   .cases e
  .cases e
 .rintro ⟨ds,M1,e1,d,M2,e2,p⟩;rw[e1];dsimp only;rw[e2];exact ⟨_,_,rfl,p⟩
theorem zGe {k:KM} {a:FA}:Ok (fM k f a σ M) P ↔ Ok (f σ M) λx M1=>(∃ xs,zBW M1 x=some xs)/\Ok (a σ M1) λds M2=>Ok (k x ds M2) λd M3=>P (.dat d) M3:=by
 unfold fM;constructor
 .rintro ⟨x,M1,e,p⟩;split at e
  .rename_i y M2 e1;split at e
   .rename_i xs e2;split at e
    .rename_i ds M3 e3;split at e
     .rename_i d M4 e4;cases e;exact ⟨y,_,e1,⟨xs,e2⟩,ds,_,e3,d,_,e4,p⟩
     .cases e
    .cases e
   .cases e
  .cases e
 .rintro ⟨y,M1,e1,⟨xs,e2⟩,ds,M2,e3,d,M3,e4,p⟩;rw[e1];dsimp only;rw[e2];dsimp only;rw[e3];dsimp only;rw[e4];exact ⟨_,_,rfl,p⟩
section
variable {P:Option Int->Mem->Prop}
theorem zQi:Ok (zBy σ M) P ↔ P none M:=zAA
def zV2 (P:Option Int->Mem->Prop):EV->Mem->Prop
 |.dat (.int i),M=>P (some i) M
 |_,_=>False
theorem zPx {i:Int} {M:Mem}:zV2 P (.dat (.int i)) M ↔ P (some i) M:=Iff.rfl
theorem zQu:Ok (zBZ f σ M) P ↔ Ok (f σ M) (zV2 P):=by
 unfold zBZ;constructor
 .rintro ⟨x,M1,e,p⟩;split at e
  .rename_i i M2 e1;cases e;exact ⟨_,_,e1,p⟩
  .cases e
 .rintro ⟨x,M1,e1,p⟩;rw[e1];cases x with
  |fl xs=>exact p.elim
  |dat d=>
   cases d with
   |int i=>exact ⟨_,_,rfl,p⟩
   |_=>exact p.elim
end
theorem zWA {l h:FO}:Ok (fSl f l h σ M) P ↔ Ok (f σ M) λx M1=>Ok (l σ M1) λlo M2=>Ok (h σ M2) λhi M3=>Ok (kSl x lo hi M3) P:=by
 unfold fSl;constructor
 .rintro ⟨x,M1,e,p⟩;split at e
  .rename_i y M2 e1;split at e
   .rename_i lo M3 e2;split at e
    .rename_i hi M4 e3;exact ⟨y,_,e1,lo,_,e2,hi,_,e3,x,M1,e,p⟩
    .cases e
   .cases e
  .cases e
 .rintro ⟨y,M1,e1,lo,M2,e2,hi,M3,e3,p⟩;rw[e1];dsimp only;rw[e2];dsimp only;rw[e3];exact p
def blP (P:Bool->Mem->Prop):EV->Mem->Prop
 |.dat (.bl k),M=>P k M
 |_,_=>False
theorem zJs {P:Bool->Mem->Prop} {k:Bool} {M:Mem}:blP P (.dat (.bl k)) M ↔ P k M:=Iff.rfl
theorem zJy {P:Bool->Mem->Prop}:Ok (tst f σ M) P ↔ Ok (f σ M) (blP P):=by
 unfold tst;constructor
 .rintro ⟨x,M1,e,p⟩;split at e
  .rename_i i M2 e1;cases e;exact ⟨_,_,e1,p⟩
  .cases e
 .rintro ⟨x,M1,e1,p⟩;rw[e1];cases x with
  |fl xs=>exact p.elim
  |dat d=>
   cases d with
   |bl i=>exact ⟨_,_,rfl,p⟩
   |_=>exact p.elim
section
variable {P:Bool->Mem->Prop} {s t:FT}
theorem zFL:Ok (zq σ M) P ↔ P true M:=zAA
theorem zVa:Ok (zE2 s t σ M) P ↔ Ok (s σ M) λk M1=>if k then P true M1 else Ok (t σ M1) P:=by
 unfold zE2;constructor
 .rintro ⟨x,M1,e,p⟩;split at e
  .rename_i M2 e1;exact ⟨false,M2,e1,by simpa using ⟨x,M1,e,p⟩⟩
  .rename_i hn;cases x with
   |false=>exact absurd e (hn M1)
   |true=>exact ⟨true,M1,e,by simpa using p⟩
 .rintro ⟨x,M1,e1,p⟩;rw[e1];cases x with
  |false=>simpa using p
  |true=>exact ⟨true,M1,rfl,by simpa using p⟩
theorem zOC:Ok (zGT s σ M) P ↔ Ok (s σ M) λk M1=>P (!k) M1:=by
 unfold zGT;constructor
 .rintro ⟨x,M1,e,p⟩;split at e
  .rename_i k M2 e1;cases e;exact ⟨k,_,e1,p⟩
  .cases e
 .rintro ⟨k,M1,e1,p⟩;rw[e1];exact ⟨_,_,rfl,p⟩
end
theorem zVn {t:FT}:Ok (vIf t f g σ M) P ↔ Ok (t σ M) λk M1=>if k then Ok (f σ M1) P else Ok (g σ M1) P:=by
 unfold vIf;constructor
 .rintro ⟨x,M1,e,p⟩;split at e
  .rename_i M2 e1;exact ⟨_,_,e1,by dsimp only;rw[zX2 rfl];exact ⟨x,M1,e,p⟩⟩
  .rename_i M2 e1;exact ⟨_,_,e1,by simpa using ⟨x,M1,e,p⟩⟩
  .cases e
 .rintro ⟨x,M1,e1,p⟩;rw[e1];cases x with
  |true=>simpa using p
  |false=>simpa using p
end
section
variable {σ:Sd} {M:Mem} {f g:FS} {P:Out->Sd->Mem->Prop}
def nxP (k:Sd->Mem->Prop) (P:Out->Sd->Mem->Prop):Out->Sd->Mem->Prop
 |.nx,σ,M=>k σ M
 |o,σ,M=>P o σ M
theorem zN {k:Sd->Mem->Prop}:nxP k P .nx σ M ↔ k σ M:=Iff.rfl
theorem zKq {k:Sd->Mem->Prop} {d:D}:nxP k P (.ret d) σ M ↔ P (.ret d) σ M:=Iff.rfl
theorem zAf:OkS (zBX σ M) P ↔ P .nx σ M:=zPo
theorem zH:OkS (zW f g σ M) P ↔ OkS (f σ M) (nxP (λσ1 M1=>OkS (g σ1 M1) P) P):=by
 unfold zW;constructor
 .rintro ⟨o,σ1,M1,e,p⟩;split at e
  .rename_i σ2 M2 e1;exact ⟨_,_,_,e1,o,σ1,M1,e,p⟩
  .rename_i hn;refine ⟨o,σ1,M1,e,?_⟩;cases o with
   |nx=>exact absurd e (hn σ1 M1)
   |_=>exact p
 .rintro ⟨o,σ1,M1,e1,p⟩;rw[e1];cases o with
  |nx=>exact p
  |_=>exact ⟨_,_,_,rfl,p⟩
theorem zAu {c:FT}:OkS (sIf c f g σ M) P ↔ Ok (c σ M) λk M1=>if k then OkS (f σ M1) P else OkS (g σ M1) P:=by
 unfold sIf;constructor
 .rintro ⟨o,σ1,M1,e,p⟩;split at e
  .rename_i M2 e1;exact ⟨_,_,e1,by dsimp only;rw[zX2 rfl];exact ⟨o,σ1,M1,e,p⟩⟩
  .rename_i M2 e1;exact ⟨_,_,e1,by simpa using ⟨o,σ1,M1,e,p⟩⟩
  .cases e
 .rintro ⟨x,M1,e1,p⟩;rw[e1];cases x with
  |true=>simpa using p
  |false=>simpa using p
theorem zAk {h:FE}:OkS (zAO h σ M) P ↔ Ok (h σ M) (zGa λd M1=>P (.ret d) σ M1):=by
 rw[<-zAZ];unfold zAO;constructor
 .rintro ⟨o,σ1,M1,e,p⟩;split at e
  .rename_i d M2 e1;cases e;exact ⟨_,_,e1,p⟩
  .cases e
 .rintro ⟨x,M1,e1,p⟩;rw[e1];exact ⟨_,_,_,rfl,p⟩
theorem zS {i:Nat} {h:FE}:OkS (zj i h σ M) P ↔ Ok (h σ M) (zGa λd M1=>P .nx (σ.set i (some d)) M1):=by
 rw[<-zAZ];unfold zj;constructor
 .rintro ⟨o,σ1,M1,e,p⟩;split at e
  .rename_i d M2 e1;cases e;exact ⟨_,_,e1,p⟩
  .cases e
 .rintro ⟨x,M1,e1,p⟩;rw[e1];exact ⟨_,_,_,rfl,p⟩
theorem zBV {h:FE}:OkS (zBO h σ M) P ↔ Ok (h σ M) λ_ M1=>P .nx σ M1:=by
 unfold zBO;constructor
 .rintro ⟨o,σ1,M1,e,p⟩;split at e
  .rename_i d M2 e1;cases e;exact ⟨_,_,e1,p⟩
  .cases e
 .rintro ⟨x,M1,e1,p⟩;rw[e1];exact ⟨_,_,_,rfl,p⟩
theorem zNc {v o i:FE}:OkS (zMa v o i σ M) P ↔ Ok (v σ M) (zGa λd M1=>Ok (o σ M1) λx M2=>Ok (i σ M2) (zGa λj M3=>∃ M4,zL6 x j d M3=some M4/\P .nx σ M4)):=by
 rw[<-zAZ];unfold zMa;constructor
 .rintro ⟨o,σ1,M1,e,p⟩;split at e
  .rename_i d M2 e1;split at e
   .rename_i x M3 e2;split at e
    .rename_i j M4 e3;split at e
     .rename_i M5 e4;cases e;refine ⟨_,_,e1,_,_,e2,?_⟩;dsimp only;rw[<-zAZ];exact ⟨_,_,e3,_,e4,p⟩
     .cases e
    .cases e
   .cases e
  .cases e
 .rintro ⟨d,M1,e1,x,M2,e2,p⟩;rw[<-zAZ]at p;obtain ⟨j,M3,e3,M4,e4,p⟩:=p;rw[e1];dsimp only;rw[e2];dsimp only;rw[e3];dsimp only;rw[e4];exact ⟨_,_,_,rfl,p⟩
theorem zr {n:Nat} {ds:List D} {Q:D->Mem->Prop}:Ok (zA3 n f ds M) Q ↔ OkS (f (ds.map some++List.replicate (n-ds.length) none) M) λo _ M1=>match o with|.ret d=>Q d M1|.nx=>Q .non M1|_=>False:=by
 unfold zA3;constructor
 .rintro ⟨o,M1,e,p⟩;split at e
  .rename_i d σ1 M2 e1;cases e;exact ⟨_,_,_,e1,p⟩
  .rename_i σ1 M2 e1;cases e;exact ⟨_,_,_,e1,p⟩
  .cases e
 .rintro ⟨o,σ1,M1,e1,p⟩;rw[e1];cases o with
  |ret d=>exact ⟨_,_,rfl,p⟩
  |nx=>exact ⟨_,_,rfl,p⟩
  |brk=>exact p.elim
  |cnt=>exact p.elim
theorem zCc {c:FT} {b:FS} (I:Nat->Sd->Mem->Prop) (hs:∀ m σ M,I m σ M->Ok (c σ M) λk M1=>if k then OkS (b σ M1) λo σ2 M2=>match o with|.nx=>∃ m',m'<m/\I m' σ2 M2|.cnt=>∃ m',m'<m/\I m' σ2 M2|.brk=>P .nx σ2 M2|.ret d=>P (.ret d) σ2 M2 else P .nx σ M1) :
  ∀ (n m:Nat) (σ:Sd) (M:Mem),m<n->I m σ M->OkS (zBq c b n σ M) P
 |0,m,σ,M,h,_=>absurd h (Nat.not_lt_zero _)
 |n+1,m,σ,M,h,hi=>by
  obtain ⟨k,M1,e,q⟩:=hs m σ M hi;unfold zBq;rw[e];cases k with
  |false=>exact ⟨_,_,_,rfl,by simpa using q⟩
  |true=>
   rw[zX2 rfl]at q;obtain ⟨o,σ2,M2,e2,q⟩:=q;dsimp only;rw[e2];cases o with
   |nx=>obtain ⟨m',hm,q⟩:=q;exact zCc I hs n m' σ2 M2 (by omega) q
   |cnt=>obtain ⟨m',hm,q⟩:=q;exact zCc I hs n m' σ2 M2 (by omega) q
   |brk=>exact ⟨_,_,_,rfl,q⟩
   |ret d=>exact ⟨_,_,_,rfl,q⟩
theorem zAp {g:FG} {b:FS} {all:List D} {gd:Option (Mem->Prop)} (I:List D->Sd->Mem->Prop)
  (hs:∀ x r σ M,I (x::r) σ M->zAr gd all M /\ ∃ σ1,g x σ=some σ1/\OkS (b σ1 M) λo σ2 M2=>match o with|.nx=>I r σ2 M2|.cnt=>I r σ2 M2|.brk=>P .nx σ2 M2|.ret d=>P (.ret d) σ2 M2)
  (he:∀ σ M,I [] σ M->zAr gd all M/\P .nx σ M):∀ (xs:List D) (σ:Sd) (M:Mem),I xs σ M->OkS (zC6 g b all gd xs σ M) P
 |[],σ,M,hi=>by
  unfold zC6;obtain ⟨h1,h2⟩:=he σ M hi;rw[zX2 h1];exact ⟨_,_,_,rfl,h2⟩
 |x::r,σ,M,hi=>by
  unfold zC6;obtain ⟨h1,σ1,e1,o,σ2,M2,e2,q⟩:=hs x r σ M hi;rw[zX2 h1,e1];dsimp only;rw[e2];cases o with
  |nx=>exact zAp I hs he r σ2 M2 q
  |cnt=>exact zAp I hs he r σ2 M2 q
  |brk=>exact ⟨_,_,_,rfl,q⟩
  |ret d=>exact ⟨_,_,_,rfl,q⟩
theorem zBE {i:FI} {g:FG} {b:FS}:OkS (zDA i g b σ M) P ↔ ∃ xs gd M1,i σ M=some (xs,gd,M1)/\OkS (zC6 g b xs gd xs σ M1) P:=by
 unfold zDA;constructor
 .rintro ⟨o,σ1,M1,e,p⟩;split at e
  .rename_i xs gd M2 e1;exact ⟨_,_,_,e1,_,_,_,e,p⟩
  .cases e
 .rintro ⟨xs,gd,M1,e1,p⟩;rw[e1];exact p
theorem zBu {g:FG} {tc:FT} {te:FE} {all:List D} {gd:Option (Mem->Prop)} (I:List D->List D->Mem->Prop)
  (hs:∀ x r acc M,I (x::r) acc M->zAr gd all M /\ ∃ σ1,g x σ=some σ1/\Ok (tc σ1 M) λk M1=>if k then Ok (te σ1 M1) (zGa λd M2=>I r (acc++[d]) M2) else I r acc M1)
  {Q:List D->Mem->Prop} (he:∀ acc M,I [] acc M->zAr gd all M/\Q acc M):∀ (xs acc:List D) (M:Mem),I xs acc M->Ok (zAx g tc te σ all gd xs M) λys M1=>Q (acc++ys) M1
 |[],acc,M,hi=>by
  unfold zAx;obtain ⟨h1,h2⟩:=he acc M hi;rw[zX2 h1];exact ⟨_,_,rfl,by simpa using h2⟩
 |x::r,acc,M,hi=>by
  unfold zAx;obtain ⟨h1,σ1,e1,k,M1,e2,q⟩:=hs x r acc M hi;rw[zX2 h1,e1];dsimp only;rw[e2];cases k with
  |false=>exact zBu I hs he r acc M1 (by simpa using q)
  |true=>
   rw[zX2 rfl,<-zAZ]at q;obtain ⟨d,M2,e3,q⟩:=q;dsimp only;rw[e3];obtain ⟨ys,M3,e4,p⟩:=zBu I hs he r (acc++[d]) M2 q;dsimp only;rw[e4];exact ⟨_,_,rfl,by simpa using p⟩
theorem zC3 {own:Yj} {i:FI} {g:FG} {tc:FT} {te:FE} {Q:EV->Mem->Prop}:Ok (zo own i g tc te σ M) Q ↔ ∃ xs gd M1,i σ M=some (xs,gd,M1)/\xs.length<=sizeLine/\Ok (zAx g tc te (zBD own σ) xs gd xs M1) λys M2=>Q (.fl ys) M2:=by
 unfold zo;constructor
 .rintro ⟨o,M1,e,p⟩;split at e
  .rename_i xs gd M2 e1;split at e
   .rename_i hz;split at e
    .rename_i ys M3 e2;cases e;exact ⟨_,_,_,e1,hz,_,_,e2,p⟩
    .cases e
   .cases e
  .cases e
 .rintro ⟨xs,gd,M1,e1,hz,ys,M2,e2,p⟩;rw[e1];dsimp only;rw[zX2 hz,e2];exact ⟨_,_,rfl,p⟩
theorem zBm {h:FE} {x:EV} {M1:Mem} {xs:List D} (e:h σ M=some (x,M1)) (e2:zAJ M1 x=some xs):zt h σ M=some (xs,zDr x xs,M1):=by
 unfold zt;rw[e];dsimp only;rw[e2]
theorem zNV {a:FA} {M1:Mem} {j:Int} (e:a σ M=some ([.int j],M1)) (h1:0<=j) (h2:j<2 ^ 62):zAc a σ M=some ((List.range j.toNat).map λ(k:Nat)=>D.int k,none,M1):=by
 unfold zAc;rw[e];dsimp only;rw[zX2 ⟨by omega,h2⟩]
end
section
variable {M:Mem} {P:EV->Mem->Prop} {i j:Int}
theorem zGD:Ok (zAX (.dat (.int i)) (.dat (.int j)) M) P ↔ P (.dat (.int (i+j))) M:=zAA
theorem zQ9:Ok (zMH (.dat (.int i)) (.dat (.int j)) M) P ↔ zOZ i j=true/\P (.dat (.int (i*j))) M:=by
 unfold zMH kI;dsimp only;split
 .rename_i h;rw[zAA];simp[h]
 .rename_i h;rw[zFb];simp[h]
theorem zT6:Ok (zDy (.dat (.int i)) (.dat (.int j)) M) P ↔ 0<j/\P (.dat (.int (i % j))) M:=by
 unfold zDy kI;dsimp only;split
 .rename_i h;rw[zAA];simp at h;simp[h]
 .rename_i h;rw[zFb];simp at h;simp;intro h';omega
theorem zTz:Ok (zM9 (.dat (.int i)) (.dat (.int j)) M) P ↔ (0<j/\j<1073741824)/\P (.dat (.int (i / j))) M:=by
 unfold zM9 kI;dsimp only;split
 .rename_i h;rw[zAA];simp at h;simp[h]
 .rename_i h;rw[zFb];simp at h;simp;intro h' h2;have:=h h';omega
theorem zXF:Ok (zOE (.dat (.int i)) (.dat (.int j)) M) P ↔ (0<=j/\j<=1000000/\i.natAbs<2 ^ 64)/\P (.dat (.int (i ^ j.toNat))) M:=by
 unfold zOE kI;dsimp only;split
 .rename_i h;rw[zAA];simp only[zYN,zY0]at h;simp[h]
 .rename_i h;rw[zFb];simp only[zYN,zY0,not_and]at h;simp only[false_iff,not_and];intro ⟨a,b,c⟩;exact absurd c (h ⟨a,b⟩)
theorem zUh:Ok (kLt (.dat (.int i)) (.dat (.int j)) M) P ↔ P (.dat (.bl (decide (i<j)))) M:=zAA
theorem zXd:Ok (kLe (.dat (.int i)) (.dat (.int j)) M) P ↔ P (.dat (.bl (decide (i<=j)))) M:=zAA
theorem zXc:Ok (kGe (.dat (.int i)) (.dat (.int j)) M) P ↔ P (.dat (.bl (decide (j<=i)))) M:=zAA
theorem zLR:Ok (kEq (.dat (.int i)) (.dat (.int j)) M) P ↔ P (.dat (.bl (decide (i=j)))) M:=by
 have:kEq (.dat (.int i)) (.dat (.int j)) M=some (.dat (.bl (decide (V.int i=V.int j))),M):=rfl;rw[this,zAA];simp
theorem zVI:Ok (kNe (.dat (.int i)) (.dat (.int j)) M) P ↔ P (.dat (.bl (decide (i≠j)))) M:=by
 have:kNe (.dat (.int i)) (.dat (.int j)) M=some (.dat (.bl (!decide (V.int i=V.int j))),M):=rfl;rw[this,zAA];simp
theorem zWr {xs ys:List D}:Ok (zAX (.dat (.tup xs)) (.dat (.tup ys)) M) P ↔ xs.length+ys.length<=sizeLine/\P (.dat (.tup (xs++ys))) M:=by
 have:zAX (.dat (.tup xs)) (.dat (.tup ys)) M=zLd (.dat (.tup xs)) (.dat (.tup ys)) M:=rfl;rw[this];unfold zLd;dsimp only[zBz];split
 .rename_i h;rw[zAA];simp[h]
 .rename_i h;rw[zFb];simp[h]
theorem zSZ {x:EV} {xs:List D} (h:zBW M x=some xs) (hx:∀ d,x=.dat d->zGJ d=none):Ok (kNe x (.fl []) M) P ↔ P (.dat (.bl (!xs.isEmpty))) M:=by
 have e1:zNW true x (.fl []) M=none:=by cases x <;> rfl
 have e2:kNe x (.fl []) M=some (.dat (.bl (!xs.isEmpty)),M):=by
  unfold kNe kOr;rw[e1];unfold zRJ;rw[h];rfl
 rw[e2,zAA]
theorem zSO {x:EV} {xs:List D} {d:D} (h:zAJ M x=some xs) (hd:atI xs i=some d) (p:P (.dat d) M):Ok (kIx x (.dat (.int i)) M) P:=by
 have:kIx x (.dat (.int i)) M=some (.dat d,M):=by unfold kIx;dsimp only;rw[h];dsimp only;rw[hd]
 rw[this,zAA];exact p
theorem zRE {xs:List D} {k:Nat} {d:D} (h:xs[k]?=some d):atI xs (k:Int)=some d:=zNp h
theorem zNF {xs:List D} {i:Int} {d:D} (h0:0<=i) (h:xs[i.toNat]?=some d):atI xs i=some d:=by
 have:i=((i.toNat:Nat):Int):=by omega
 rw[this];exact zNp h
theorem zWm {x:EV} {xs:List D} (h:zAJ M x=some xs):Ok (zAv [x] M) P ↔ P (.dat (.int xs.length)) M:=by
 have:zAv [x] M=some (.dat (.int xs.length),M):=by unfold zAv;dsimp only;rw[h]
 rw[this,zAA]
theorem zKf {x:EV} {xs:List D} (h:zAJ M x=some xs):Ok (zAR [x] M) P ↔ P (.dat (.tup xs)) M:=by
 have:zAR [x] M=some (.dat (.tup xs),M):=by unfold zAR;dsimp only;rw[h]
 rw[this,zAA]
theorem zUH {x:EV} {xs:List D} {lo hi:Ys} (h:zBW M x=some xs) (ht:zBz x=none):Ok (kSl x lo hi M) P ↔ P (.fl (zDi xs lo hi)) M:=by
 have:kSl x lo hi M=some (.fl (zDi xs lo hi),M):=by unfold kSl;rw[ht];dsimp only;rw[h]
 rw[this,zAA]
theorem zu {xs:List D}:zAJ M (.dat (.tup xs))=some xs:=rfl
theorem zCL {xs:List D}:zAJ M (.fl xs)=some xs:=rfl
theorem zVt {xs:List D}:zBW M (.fl xs)=some xs:=rfl
theorem zAW {n:Nat} {xs:List D} (h:M[n]?=some (.lst xs)):zBW M (.dat (.ref n))=some xs:=by unfold zBW;dsimp only;rw[h]
theorem zN2 {n:Nat} {xs:List D} (h:M[n]?=some (.fro xs)):zBW M (.dat (.ref n))=some xs:=by unfold zBW;dsimp only;rw[h]
theorem zf {n:Nat} {xs:List D} (h:M[n]?=some (.lst xs)):zAJ M (.dat (.ref n))=some xs:=zAW h
theorem zS9 {n:Nat} {xs:List D} (h:M[n]?=some (.fro xs)):zAJ M (.dat (.ref n))=some xs:=zN2 h
theorem zBl {n:Nat} {xs:List D} {d:D} {Q:D->Mem->Prop} (h:M[n]?=some (.lst xs)) (hz:xs.length<sizeLine):Ok (zAF (.dat (.ref n)) [d] M) Q ↔ Q .non (M.set n (.lst (xs++[d]))):=by
 have:zAF (.dat (.ref n)) [d] M=some (.non,M.set n (.lst (xs++[d]))):=by unfold zAF;dsimp only;rw[h];dsimp only;rw[zX2 hz]
 rw[this,zAA]
theorem zVm {n:Nat} {x:D} {xs:List D} {Q:D->Mem->Prop} (h:M[n]?=some (.lst (x::xs))):Ok (zIb (.dat (.ref n)) [.int 0] M) Q ↔ Q x (M.set n (.lst xs)):=by
 have:zIb (.dat (.ref n)) [.int 0] M=some (x,M.set n (.lst xs)):=by
  unfold zIb;dsimp only;rw[h];dsimp only;have e:ixN (x::xs).length 0=some 0:=by unfold ixN;rw[zX2 (by omega),zX2 (by simp)];rfl
  rw[e];dsimp only[List.getElem?_cons_zero];rw[zX2 (by decide)];rfl
 rw[this,zAA]
theorem zLC {n k:Nat} {xs:List D} {d:D} (h:M[n]?=some (.lst xs)) (hk:k<xs.length):zL6 (.dat (.ref n)) (.int k) d M=some (M.set n (.lst (xs.set k d))):=by
 unfold zL6;dsimp only;rw[h];dsimp only;have e:ixN xs.length (k:Int)=some k:=by unfold ixN;rw[zX2 (by omega),zX2 (by omega)];simp
 rw[e]
end
theorem zJh {m:FF} {ds:List D} {M:Mem} {Q:D->Mem->Prop} (h:Ok (m ds M) λd M1=>(D.und M.length d=true/\M.length<=M1.length /\ ∀ (j:Nat) u,j<M.length->M1[j]?=some u->MO.und M.length u=true)/\Q d (M1.take M.length)):Ok (zHr m ds M) Q:=by
 obtain ⟨d,M1,e,⟨h1,h2,h3⟩,q⟩:=h;unfold zHr;rw[e];dsimp only;rw[zX2]
 .exact ⟨_,_,rfl,q⟩
 .simp only[zYN,zY0,zYO];refine ⟨⟨h1,λu hu=>?_⟩,h2⟩;obtain ⟨j,hj⟩:=List.getElem?_of_mem hu;have hlt:j<M.length:=by
   have:=(zXq.mp hj).1;rw[zZB]at this;omega
  rw[List.getElem?_take_of_lt hlt]at hj;exact h3 j u hlt hj
theorem zCX {m:FF} {ds:List D} {M:Mem} {Q:D->Mem->Prop} (h0:D.unds 0 ds=true) (h:Ok (m ds []) λd _=>D.und 0 d=true/\Q d M):Ok (zDQ m ds M) Q:=by
 obtain ⟨d,M1,e,h1,q⟩:=h;unfold zDQ;rw[zX2 h0,e];dsimp only;rw[zX2 h1];exact ⟨_,_,rfl,q⟩
section
variable {prog:Ym} {w:Yo} {A:Yn} {E:Yc} {s:Yl}
theorem TIt.but (x:h.IsTupleIter a t i) (hs:Heap.ExtBut b h h') (n:a≠b):h'.IsTupleIter a t i:=x.extBut hs n
theorem Tup.but (x:h.IsTuple a its) (hs:Heap.ExtBut b h h') (n:a≠b):h'.IsTuple a its:=x.extBut hs n
theorem zDu (I:s.heap.IsTupleIter it t i) (T:s.heap.IsTuple t its) (hx:its[i]?=some x)
  (q:∀ h',h'.IsTupleIter it t (i+1)->Heap.SameBut it s.heap h'->Q x { s with heap:=h' }):wpAny (model prog w) A (Builtin.SmallTypes.nextOf (.ref it)) Q E s:=by
 obtain ⟨o,O,C,FD⟩:=id I;obtain ⟨u,U,_,m,G⟩:=T;unfold Builtin.SmallTypes.nextOf;refine zXn (zYP (name:=Str.ofString "__next__") I.typeIs PySem.F.slot_tuple_iterator_next (zYQ PySem.F.slot_tuple_iterator_next I.typeIs PySem.F.entry_tuple_iterator_next ?_ (PySem.F.args_tuple_iterator_next_1 _)));refine zXn (m:=field (.ref it) 0) (zYS O FD (x:=.ref t) rfl ?_);rw[zX5 (show ¬ ((Value.ref t==Value.none)=true) by exact zX9)];refine zXn (m:=field (.ref it) 1) (zYS O FD (x:=.int i 0) rfl ?_);refine zXn (m:=seqItems? (.ref t)) (zYd U G ?_);simp only[hx,zaX];refine zXn (wpAny_setField O FD (by simp) (zXp ⟨x,rfl,zXp (q _ ⟨_,zYa _ O (Obj.isFreed_of_fields (zY4 FD _)),(Obj.cls_mapFields ..).trans C,?_⟩ (zYq ..))⟩));rw[zY4 FD];simp[rawInt]
theorem zEk (hh:A.handled=none) (I:s.heap.IsTupleIter it t i) (T:s.heap.IsTuple t its) (hx:its[i]?=none)
  (q:∀ h' e,Heap.ExtBut it s.heap h'->(∃ o,h'.get? e=some o/\o.cls=.type "StopIteration")->E (.ref e) { s with heap:=h' }):wpAny (model prog w) A (Builtin.SmallTypes.nextOf (.ref it)) Q E s:=by
 obtain ⟨o,O,C,FD⟩:=id I;obtain ⟨u,U,_,m,G⟩:=T;unfold Builtin.SmallTypes.nextOf;refine zXn (zYP (name:=Str.ofString "__next__") I.typeIs PySem.F.slot_tuple_iterator_next (zYQ PySem.F.slot_tuple_iterator_next I.typeIs PySem.F.entry_tuple_iterator_next ?_ (PySem.F.args_tuple_iterator_next_1 _)));refine zXn (m:=field (.ref it) 0) (zYS O FD (x:=.ref t) rfl ?_);rw[zX5 (show ¬ ((Value.ref t==Value.none)=true) by exact zX9)];refine zXn (m:=field (.ref it) 1) (zYS O FD (x:=.int i 0) rfl ?_);refine zXn (m:=seqItems? (.ref t)) (zYd U G ?_);simp only[hx,zaX];refine zXn (zZA (zXn (wpAny_setField O FD (by simp) ?_)));refine zXn (m:=newExc (.type "StopIteration") []) ?_;simp only[newTuple,newExc];refine zXn (zYG (zXn (m:=firstArgMember _ _) (wpAny_of_eq (a:=Value.none) (by first|rfl|(simp only[firstArgMember];rfl)) (zYG ?_ (by size_fits)))) (by size_fits));simp only[raiseNew];refine zXn (wpAny_handled ?_);first|rw[hh]|rw[show A.in1.handled=none from hh]
 exact zXn (zXp (wpAny_throw (q _ _ (((zYq ..).extBut.push _).push _) ⟨_,zXx _ rfl,rfl⟩)))
structure ZipT (h:Heap) (z TI TO i1 i2 t1 t2:Yt) (f:Yu) (k1 k2:Nat):Prop where
 z:IsZip h z TI TO f
 ti:IsPair h TI (.ref i1) (.ref i2)
 to:∃ a b,IsPair h TO a b
 a:h.IsTupleIter i1 t1 k1
 b:h.IsTupleIter i2 t2 k2
theorem zPC {z TI TO i1 i2 t1 t2:Yt} {k:Nat} {xs ys:Yp} {x y:Yu} {Q:Option Value->Shared->Prop} (D:ZipApart z TI TO i1 i2 t1 t2) (Z:ZipT s.heap z TI TO i1 i2 t1 t2 .none k k)
  (T1:s.heap.IsTuple t1 xs) (T2:s.heap.IsTuple t2 ys) (hx:xs[k]?=some x) (hy:ys[k]?=some y)
  (q:∀ h',ZipT h' z TI TO i1 i2 t1 t2 (rawInt s.heap.objs.size) (k+1) (k+1)->IsPair h' s.heap.objs.size x y ->
   (∀ c o,c∉[z,TO,i1,i2]->s.heap.get? c=some o->h'.get? c=some o)->Q (some (.ref s.heap.objs.size)) { s with heap:=h' }):wpAny (model prog w) A (pyNext (.ref z)) Q E s:=by
 obtain ⟨Z0,P0,⟨a,b,O0⟩,I1,I2⟩:=Z;have ty:s.TypeIs (.ref z) "zip" := ⟨_,Z0,rfl⟩;unfold pyNext;refine zXn (wpAny_attempt (zYP (name:=Str.ofString "__next__") ty PySem.F.slot_zip_next (zYQ PySem.F.slot_zip_next ty PySem.F.entry_zip_next ?_ (PySem.F.args_zip_next_1 _))));refine zXn (m:=field (.ref z) 2) (zYS Z0 rfl (x:=.bool false) rfl ?_);refine zXn (m:=field (.ref z) 3) (zYS Z0 rfl (x:=.ref TI) rfl ?_);refine zXn (zYd P0 rfl ?_);refine zXn (m:=Builtin.SmallTypes.ownedTupleIsFree (.ref z)) ?_;unfold Builtin.SmallTypes.ownedTupleIsFree;refine zXn (zYS Z0 rfl (x:=.none) rfl (zXp ?_));simp only[if_true];refine zXn (zZA (zXn (zYS Z0 rfl (x:=.ref TO) rfl (zXn (wpAny_setField_rec Z0 (by simp) λh1 Z1 e1=>?_)))));replace Z1:IsZip h1 z TI TO .ellipsis:=Z1;refine zXn ?_;simp only[List.forIn_cons,List.forIn_nil,List.zipIdx_cons,List.zipIdx_nil];refine zXn (zXn (wpAny_onRaise (zXn (m:=Builtin.SmallTypes.nextOf (.ref i1)) (zDu (TIt.but I1 e1.extBut D.i1z) (Tup.but T1 e1.extBut D.l1z) hx λh2 J1 e2=>zXp ?_))));have O2:IsPair h2 TO a b:=e2.extBut _ _ D.TOi1 (e1.extBut _ _ D.TOz O0);refine zXn (zYd O2 rfl (zXn (wpAny_updateSeq_pair O2 λh3 O3 e3=>zXn (wpAny_letGo (zXp ?_)))));replace O3:IsPair h3 TO x b:=O3
 refine zXn (zXn (wpAny_onRaise (zXn (m:=Builtin.SmallTypes.nextOf (.ref i2)) (zDu (TIt.but (TIt.but (TIt.but I2 e1.extBut D.i2z) e2.extBut D.i12.symm) e3.extBut D.TOi2.symm)
  (Tup.but (Tup.but (Tup.but T2 e1.extBut D.l2z) e2.extBut D.l2i1) e3.extBut D.l2TO) hy λh4 J2 e4=>zXp ?_))))
 have O4:IsPair h4 TO x b:=e4.extBut _ _ D.TOi2 O3;refine zXn (zYd O4 rfl (zXn (wpAny_updateSeq_pair O4 λh5 O5 e5=>zXn (wpAny_letGo (zXp (zXp ?_))))));replace O5:IsPair h5 TO x y:=O5;refine zXn (zYd O5 rfl (zXn (wpAny_newTuple ?_)));have sz:h5.objs.size=s.heap.objs.size:=by rw[e5.1,e4.1,e3.1,e2.1,e1.1]
 have Z5:IsZip h5 z TI TO .ellipsis:=e5.extBut _ _ D.TOz.symm (e4.extBut _ _ D.i2z.symm (e3.extBut _ _ D.TOz.symm (e2.extBut _ _ D.i1z.symm Z1)));have kp:∀ c o,c∉[z,TO,i1,i2]->s.heap.get? c=some o->h5.get? c=some o:=λc o n e=>by
  simp only[zXz,zYI,zY8,not_or]at n;obtain ⟨n1,n2,n3,n4⟩:=n;exact e5.extBut _ _ n2 (e4.extBut _ _ n4 (e3.extBut _ _ n2 (e2.extBut _ _ n3 (e1.extBut _ _ n1 e))))
 have A5:h5.IsTupleIter i1 t1 (k+1):=TIt.but (TIt.but (TIt.but J1 e3.extBut D.TOi1.symm) e4.extBut D.i12) e5.extBut D.TOi1.symm;have B5:h5.IsTupleIter i2 t2 (k+1):=TIt.but J2 e5.extBut D.TOi2.symm;have zl:z<h5.objs.size:=zXy Z5;refine zXn (m:=Builtin.SmallTypes.ownedTupleHandOut (.ref z) (.ref h5.objs.size)) ?_;unfold Builtin.SmallTypes.ownedTupleHandOut;have Z6:IsZip (h5.push { cls:=.type "tuple", data:=.seq #[x,y] }) z TI TO .ellipsis:=zXo _ Z5;refine zXn (wpAny_setField_rec Z6 (by simp) λh7 Z7 e7=>?_);replace Z7:IsZip h7 z TI TO (rawInt h5.objs.size):=Z7;refine wpAny_setField_rec Z7 (by simp) λh8 Z8 e8=>?_;replace Z8:IsZip h8 z TI TO (rawInt h5.objs.size):=Z8;have up:∀ c o,c≠z->h5.get? c=some o->h8.get? c=some o:=λc o n e=>e8.extBut _ _ n (e7.extBut _ _ n (zXo _ e));have N8:IsPair h8 h5.objs.size x y:=e8.extBut _ _ (zZI zl) (e7.extBut _ _ (zZI zl) (zXx _ rfl));rw[sz]at Z8 N8;refine zXp ⟨_,rfl,?_⟩;rw[sz];refine zXp (q h8 ⟨Z8,up _ _ D.TIz (kp _ _ (by simp[D.TIz,D.TITO,D.TIi1,D.TIi2]) P0),⟨_,_,up _ _ D.TOz O5⟩,?_,?_⟩ N8 λc o n e=>up c o (λm=>n (by simp[m])) (kp c o n e))
 .obtain ⟨o,e,r⟩:=A5;exact ⟨o,up _ _ D.i1z e,r⟩
 .obtain ⟨o,e,r⟩:=B5;exact ⟨o,up _ _ D.i2z e,r⟩
theorem zRT {z TI TO i1 i2 t1 t2:Yt} {k:Nat} {xs ys:Yp} {Q:Option Value->Shared->Prop} (hh:A.handled=none) (D:ZipApart z TI TO i1 i2 t1 t2) (Z:ZipT s.heap z TI TO i1 i2 t1 t2 .none k k)
  (T1:s.heap.IsTuple t1 xs) (T2:s.heap.IsTuple t2 ys) (he:xs[k]?=none\/ys[k]?=none)
  (q:∀ h',(∀ c o,c∉[z,TO,i1,i2]->s.heap.get? c=some o->h'.get? c=some o)->Q none { s with heap:=h' }):wpAny (model prog w) A (pyNext (.ref z)) Q E s:=by
 obtain ⟨Z0,P0,⟨a,b,O0⟩,I1,I2⟩:=Z;have ty:s.TypeIs (.ref z) "zip" := ⟨_,Z0,rfl⟩
 have stop:∀ (e:Addr) (h':Heap),(∀ c o,c∉[z,TO,i1,i2]->s.heap.get? c=some o->h'.get? c=some o)->(∃ o,h'.get? e=some o/\o.cls=.type "StopIteration") ->
   wpAny (model prog w) A (do if (<- isInstance (.ref e) (.type "StopIteration")) then pure none else throw (.ref e):Sem (Option Value)) Q E { s with heap:=h' }:=λe h' k1 ⟨o,e1,e2⟩=>
  zXn (wpAny_isInstance (T := "StopIteration") (b:=true) ⟨o,e1,e2⟩ isSubtype_stop (zXp (q h' k1)))
 unfold pyNext;refine zXn (wpAny_attempt (zYP (name:=Str.ofString "__next__") ty PySem.F.slot_zip_next (zYQ PySem.F.slot_zip_next ty PySem.F.entry_zip_next ?_ (PySem.F.args_zip_next_1 _))));refine zXn (m:=field (.ref z) 2) (zYS Z0 rfl (x:=.bool false) rfl ?_);refine zXn (m:=field (.ref z) 3) (zYS Z0 rfl (x:=.ref TI) rfl ?_);refine zXn (zYd P0 rfl ?_);refine zXn (m:=Builtin.SmallTypes.ownedTupleIsFree (.ref z)) ?_;unfold Builtin.SmallTypes.ownedTupleIsFree;refine zXn (zYS Z0 rfl (x:=.none) rfl (zXp ?_));simp only[if_true];refine zXn (zZA (zXn (zYS Z0 rfl (x:=.ref TO) rfl (zXn (wpAny_setField_rec Z0 (by simp) λh1 Z1 e1=>?_)))));replace Z1:IsZip h1 z TI TO .ellipsis:=Z1;refine zXn ?_;simp only[List.forIn_cons,List.forIn_nil,List.zipIdx_cons,List.zipIdx_nil];cases hx:xs[k]? with
 |none=>
  refine zXn (zXn (wpAny_onRaise (zXn (m:=Builtin.SmallTypes.nextOf (.ref i1)) (zEk hh (TIt.but I1 e1.extBut D.i1z) (Tup.but T1 e1.extBut D.l1z) hx λh2 e e2 he=>?_))));obtain ⟨oe,o1,o2⟩:=he;have Z2:IsZip h2 z TI TO .ellipsis:=e2 _ _ D.i1z.symm Z1;have ne:e≠z:=λm=>by subst m;rw[Z2]at o1;cases o1;simp at o2
  refine wpAny_setField_rec Z2 (by simp) λh3 _ e3=>stop e h3 (λc o n x=>?_) ⟨oe,e3.extBut _ _ ne o1,o2⟩;simp only[zXz,zYI,zY8,not_or]at n;exact e3.extBut _ _ n.1 (e2 _ _ n.2.2.1 (e1.extBut _ _ n.1 x))
 |some x=>
  have hy:ys[k]?=none:=by
   rcases he with m|m
   .rw[hx]at m;cases m
   .exact m
  refine zXn (zXn (wpAny_onRaise (zXn (m:=Builtin.SmallTypes.nextOf (.ref i1)) (zDu (TIt.but I1 e1.extBut D.i1z) (Tup.but T1 e1.extBut D.l1z) hx λh2 J1 e2=>zXp ?_))));have O2:IsPair h2 TO a b:=e2.extBut _ _ D.TOi1 (e1.extBut _ _ D.TOz O0);refine zXn (zYd O2 rfl (zXn (wpAny_updateSeq_pair O2 λh3 O3 e3=>zXn (wpAny_letGo (zXp ?_)))))
  refine zXn (zXn (wpAny_onRaise (zXn (m:=Builtin.SmallTypes.nextOf (.ref i2)) (zEk hh (TIt.but (TIt.but (TIt.but I2 e1.extBut D.i2z) e2.extBut D.i12.symm) e3.extBut D.TOi2.symm)
   (Tup.but (Tup.but (Tup.but T2 e1.extBut D.l2z) e2.extBut D.l2i1) e3.extBut D.l2TO) hy λh4 e e4 he=>?_))))
  obtain ⟨oe,o1,o2⟩:=he;have Z4:IsZip h4 z TI TO .ellipsis:=e4 _ _ D.i2z.symm (e3.extBut _ _ D.TOz.symm (e2.extBut _ _ D.i1z.symm Z1));have ne:e≠z:=λm=>by subst m;rw[Z4]at o1;cases o1;simp at o2
  refine wpAny_setField_rec Z4 (by simp) λh5 _ e5=>stop e h5 (λc o n x=>?_) ⟨oe,e5.extBut _ _ ne o1,o2⟩;simp only[zXz,zYI,zY8,not_or]at n;exact e5.extBut _ _ n.1 (e4 _ _ n.2.2.2 (e3.extBut _ _ n.2.1 (e2.extBut _ _ n.2.2.1 (e1.extBut _ _ n.1 x))))
noncomputable abbrev zT1 (h:Heap) (a:Addr):Heap:=h.push { cls:=.type "tuple_iterator", data:=.fields #[.ref a,.int 0 0] }
noncomputable abbrev zT2 (h:Heap) (a b:Yt):Heap:=zT1 (zT1 h a) b
noncomputable abbrev zT3 (h:Heap) (a b:Addr):Heap:=(zT2 h a b).push { cls:=.type "tuple", data:=.seq #[.ref h.objs.size,.ref (zT1 h a).objs.size] }
noncomputable abbrev zT4 (h:Heap) (a b:Addr):Heap:=(zT3 h a b).push { cls:=.type "tuple", data:=.seq #[.none,.none] }
noncomputable abbrev zT5 (h:Heap) (a b:Addr):Heap:=(zT4 h a b).push { cls:=.type "zip", data:=.fields #[.none,.bool false,.bool false,.ref (zT2 h a b).objs.size,.ref (zT3 h a b).objs.size] }
theorem zMh (a b:Addr) (xs ys:Array Value):Meets (Builtin.«zip.__new__» ⟨[.type "zip", .ref a,.ref b],[]⟩) (λ_ R s=>s.heap.IsTuple a xs/\s.heap.IsTuple b ys/\R (.ok (.ret (.ref (zT4 s.heap a b).objs.size))) { s with heap:=zT5 s.heap a b }) :=
 .of_wp λprog w A R s h=>by
  obtain ⟨hp,g,d,tk,os⟩:=s;obtain ⟨Ta,Tb,h⟩:=h;have sz:=sub_zip;have U1:Heap.IsTuple (Shared.heap ⟨hp,g,d,tk,os⟩) a xs:=Ta;have U2:Heap.IsTuple (Shared.heap ⟨hp.push { cls:=.type "tuple_iterator", data:=.fields #[.ref a,.int 0 0] },g,d,tk,os⟩) b ys:=Heap.IsTuple.push Tb _;wp_walk using zZT U1,zZT U2;exact ⟨_,rfl,h⟩
theorem zPt (Ta:s.heap.IsTuple a xs) (Tb:s.heap.IsTuple b ys)
  (h:∀ h',ZipT h' (s.heap.objs.size+4) (s.heap.objs.size+2) (s.heap.objs.size+3) s.heap.objs.size (s.heap.objs.size+1) a b .none 0 0->(∀ c o,s.heap.get? c=some o->h'.get? c=some o)->Q (.ref (s.heap.objs.size+4)) { s with heap:=h' }) :
  wpAny (model prog w) A (call (.type "zip") [.ref a,.ref b]) Q E s:=by
 refine callType_new PySem.F.called_zip (by decide) (PySem.F.typeCall_zip_2 _ _) (PySem.F.newCall_zip_2 _ _) (λobj=>PySem.F.args_object_init_3 obj _ _) PySem.F.entry_zip_new (zMh a b xs ys) ⟨Ta,Tb,?_⟩;have q1:(zT1 s.heap a).objs.size=s.heap.objs.size+1:=zYT ..;have q2:(zT2 s.heap a b).objs.size=s.heap.objs.size+2:=by rw[zYT,q1]
 have q3:(zT3 s.heap a b).objs.size=s.heap.objs.size+3:=by rw[zYT,q2]
 have q4:(zT4 s.heap a b).objs.size=s.heap.objs.size+4:=by rw[zYT,q3]
 have u:∀ {h:Heap} {c:Yt} {o p:Obj},h.get? c=some o->(h.push p).get? c=some o:=λe=>zXo _ e;have p5:(zT5 s.heap a b).get? (zT4 s.heap a b).objs.size=some _:=zXx _ rfl;have p4:(zT5 s.heap a b).get? (zT3 s.heap a b).objs.size=some _:=u (zXx _ rfl);have p3:(zT5 s.heap a b).get? (zT2 s.heap a b).objs.size=some _:=u (u (zXx _ rfl));have p2:(zT5 s.heap a b).get? (zT1 s.heap a).objs.size=some _:=u (u (u (zXx _ rfl)));have p1:(zT5 s.heap a b).get? s.heap.objs.size=some _:=u (u (u (u (zXx _ rfl))));rw[q2,q3,q4]at p5;rw[q1,q2]at p3;rw[q3]at p4;rw[q1]at p2;rw[q4];exact ⟨⟨_,p5,rfl⟩,h _ ⟨p5,p3,⟨_,_,p4⟩,⟨_,p1,rfl,rfl⟩,⟨_,p2,rfl,rfl⟩⟩ λc o x=>u (u (u (u (u x))))⟩
end
theorem zGI {X:Cx} {zB:Yd} {σ:L2.St} {H:Hp} {s:Yl} {h':Heap} {t':Nat} {ch:Yg} {T:Yt} {o:HO} (I:Inv X zB σ H s) (hf:∀ b∈ch,zCV X zB H b)
  (k:∀ b u,b∉ch->s.heap.get? b=some u->h'.get? b=some u) (hT:s.heap.objs.size<=T) (new:zAU X.prog X.w (upd H T o) h' T o):Inv X zB σ (upd H T o) { s with heap:=h',toks:=t' }:=by
 have hn:H T=none:=I.hok.fresh hT;have nch:∀ b u,H b=some u->b∉ch:=λb u e z=>by rw[(hf b z).1]at e;cases e
 have un:∀ b u,H b=some u->upd H T o b=some u:=λb u e=>by rw[zZ (zAL e hn)];exact e
 refine I.step (g':=s.gens) (d':=s.drawn) (ch:=ch) (λb hb=>⟨(hf b hb).2.2.2.1,(hf b hb).2.1,(hf b hb).2.2.2.2.1,(hf b hb).2.2.2.2.2⟩) (λb u _ _ hc e _=>k b u hc e) (λb u _ _ hc e _=>⟨u.slots,k b u hc e⟩)
  (λb u _ e n=>by rw[zZ (λz=>by rw[z]at e;exact absurd (zXy e) (Nat.not_lt.mpr hT))];exact n) (λb u hc e=>⟨u,k b u hc e⟩) (λb xs e=>un b _ e) (λb p u e=>un b _ e) (λb ps e=>⟨#[],by rw[un b _ e];simp⟩) (λm hm=>?_) (λb u e=>?_) I.bare
 .obtain ⟨p,es,ep,ho,r⟩:=hm;exact ⟨p,es,ep,k _ p (λz=>(hf _ z).2.1 rfl) ho,r⟩
 .by_cases hb:b=T
  .subst hb;rw[zAH]at e;cases e;exact new
  .rw[zZ hb]at e;refine (I.hok b u e).stay (λc v hc q=>k c v ?_ q) (λc q=>un c _ q) λc xs q=>un c _ q;rcases hc with z|z
   .rw[z];exact nch b u e
   .exact nch c _ z
theorem zIp {X:Cx} {zB:Yd} {σ:L2.St} {H:Hp} {s:Yl} {h':Heap} {t':Nat} {ch:Yg} (I:Inv X zB σ H s) (hf:∀ b∈ch,zCV X zB H b)
  (k:∀ b u,b∉ch->s.heap.get? b=some u->h'.get? b=some u):Inv X zB σ H { s with heap:=h',toks:=t' }:=by
 have nch:∀ b u,H b=some u->b∉ch:=λb u e z=>by rw[(hf b z).1]at e;cases e
 refine I.step (g':=s.gens) (d':=s.drawn) (ch:=ch) (λb hb=>⟨(hf b hb).2.2.2.1,(hf b hb).2.1,(hf b hb).2.2.2.2.1,(hf b hb).2.2.2.2.2⟩) (λb u _ _ hc e _=>k b u hc e) (λb u _ _ hc e _=>⟨u.slots,k b u hc e⟩)
  (λb u _ e n=>n) (λb u hc e=>⟨u,k b u hc e⟩) (λb xs e=>e) (λb p u e=>e) (λb ps e=>⟨#[],by rw[e];simp⟩) (λm hm=>?_) (λb u e=>?_) I.bare
 .obtain ⟨p,es,ep,ho,r⟩:=hm;exact ⟨p,es,ep,k _ p (λz=>(hf _ z).2.1 rfl) ho,r⟩
 .refine (I.hok b u e).stay (λc v hc q=>k c v ?_ q) (λc q=>q) λc xs q=>q;rcases hc with z|z
  .rw[z];exact nch b u e
  .exact nch c _ z
noncomputable def Itz (K:Yb) (a b:Yt):It :=
 ⟨λi H=>∃ xs ys x y,SqT K H a xs/\SqT K H b ys/\xs[i]?=some x/\ys[i]?=some y,
  λi H v H'=>∃ T x y,v=.ref T/\H T=none/\H'=upd H T (.tup [x,y])/\(∀ xs,SqT K H a xs->xs[i]?=some x) /\ ∀ ys,SqT K H b ys->ys[i]?=some y,
  λi H=>∃ xs ys,SqT K H a xs/\SqT K H b ys/\(xs.length<=i\/ys.length<=i)⟩
theorem zOp {P:Ym} {w:Yo} {K:Yb} {es:Yi} {ek:Nat} {ep:Pos} {z TI TO i1 i2 a b:Yt} (D:ZipApart z TI TO i1 i2 a b) :
  Turn P w K (.Tuple es ek ep) (Itz K a b) [z,TI,TO,i1,i2] z (λi h=>ZipT h z TI TO i1 i2 a b .none i i) where
 mem:=by simp
 obj:=λi h Z c hc=>by
  obtain ⟨Z0,P0,⟨x,y,O0⟩,⟨o1,e1,_,d1⟩,⟨o2,e2,_,d2⟩⟩:=Z;simp only[zXz,zYI,zY8]at hc;rcases hc with rfl|rfl|rfl|rfl|rfl
  .exact ⟨_,Z0,λv m=>by cases m⟩
  .exact ⟨_,P0,λv m=>by cases m⟩
  .exact ⟨_,O0,λv m=>by cases m⟩
  .exact ⟨_,e1,λv m=>by rw[d1]at m;cases m⟩
  .exact ⟨_,e2,λv m=>by rw[d2]at m;cases m⟩
 keep:=λi h h' Z k=>by
  obtain ⟨Z0,P0,⟨x,y,O0⟩,⟨o1,e1,r1⟩,⟨o2,e2,r2⟩⟩:=Z;exact ⟨k z (by simp) _ Z0,k TI (by simp) _ P0,⟨x,y,k TO (by simp) _ O0⟩,⟨o1,k i1 (by simp) _ e1,r1⟩,⟨o2,k i2 (by simp) _ e2,r2⟩⟩
 item:=by
  intro X hP hw hK hc i zB s σ H E I hf Z hg;subst hP hw hK;obtain ⟨xs,ys,x,y,sa,sb,hx,hy⟩:=hg;obtain ⟨its,rv,p1,z1⟩:=I.tuple sa;obtain ⟨its2,rv2,p2,z2⟩:=I.tuple sb;obtain ⟨u,hu,ru⟩:=rv.get hx;obtain ⟨u2,hu2,ru2⟩:=rv2.get hy;refine zPC D Z (show s.heap.IsTuple a its.toArray from p1) (show s.heap.IsTuple b its2.toArray from p2) (x:=u) (y:=u2) (by simpa using hu) (by simpa using hu2) λh' Z' N' kp=>⟨_,rfl,?_⟩;refine wpAny_letOwnedTupleGo_zip Z'.z λh2 Z2 e2=>?_;have hch:∀ c∈[z,TO,i1,i2],zCV X zB H c:=λc hm=>hf c (by
   simp only[zXz,zYI,zY8]at hm ⊢;rcases hm with q|q|q|q <;> simp[q])
  have kk:∀ c o,c∉[z,TO,i1,i2]->s.heap.get? c=some o->h2.get? c=some o:=λc o n e=>e2.extBut _ _ (λm=>n (by simp[m])) (kp c o n e);have zlt:z<s.heap.objs.size:=zXy Z.z;have NT:IsPair h2 s.heap.objs.size u u2:=e2.extBut _ _ (zZI zlt) N';have hfr:H s.heap.objs.size=none:=I.hok.fresh (zXt _);refine ⟨.ref s.heap.objs.size,upd H s.heap.objs.size (.tup [x,y]),zGI (s:=s) (h':=h2) (t':=s.toks) I hch kk (zXt _) ?_,rfl,⟨_,x,y,rfl,hfr,rfl,λws hw=>?_,λws hw=>?_⟩,?_,λc hm=>?_⟩
  .exact ⟨by show 2<=sizeLine;decide,[u,u2],.cons ru (.cons ru2 .nil),⟨_,NT,rfl,⟨_,rfl⟩,rfl⟩⟩
  .rw[I.tuple_inj hw sa];exact hx
  .rw[I.tuple_inj hw sb];exact hy
  .obtain ⟨_,P1,⟨q1,q2,O1⟩,⟨o1,f1,r1⟩,⟨o2,f2,r2⟩⟩:=Z';exact ⟨Z2,e2.extBut _ _ D.TIz P1,⟨q1,q2,e2.extBut _ _ D.TOz O1⟩,⟨o1,e2.extBut _ _ D.i1z f1,r1⟩,⟨o2,e2.extBut _ _ D.i2z f2,r2⟩⟩
  .have lt:c<s.heap.objs.size:=by
    obtain ⟨Z0,P0,⟨q1,q2,O0⟩,⟨o1,f1,_⟩,⟨o2,f2,_⟩⟩:=Z;simp only[zXz,zYI,zY8]at hm;rcases hm with rfl|rfl|rfl|rfl|rfl
    .exact zXy Z0
    .exact zXy P0
    .exact zXy O0
    .exact zXy f1
    .exact zXy f2
   rw[zZ (zX8 lt)];exact (hf c hm).1
 done:=by
  intro X hP hw hK hc i zB s σ H E I hf Z hg;subst hP hw hK;obtain ⟨xs,ys,sa,sb,hz⟩:=hg;obtain ⟨its,rv,p1,z1⟩:=I.tuple sa;obtain ⟨its2,rv2,p2,z2⟩:=I.tuple sb;have l1:=rv.length;have l2:=rv2.length;refine zRT (I.ok.hd hc) D Z (show s.heap.IsTuple a its.toArray from p1) (show s.heap.IsTuple b its2.toArray from p2) ?_ λh' kp=>⟨rfl,zIp (s:=s) (h':=h') (t':=s.toks) I (λc hm=>hf c (by
   simp only[zXz,zYI,zY8]at hm ⊢;rcases hm with q|q|q|q <;> simp[q])) kp⟩
  rcases hz with q|q
  .exact .inl (by simp;omega)
  .exact .inr (by simp;omega)
 self:=λ_ _ _ _ _ Z h=>wpAny_pyIter_zip Z.z h
section
variable {X:Cx} {a b:Expr} {es:Yi} {ek:Nat} {ep p pos:Pos}
theorem zVf {ta:TA} (hg:Gl X "zip") (hm:X.mg "zip" = none) (ha:PA X [a,b] ta) (hs:starEach [a,b] X.env=[(false,eval a X.env),(false,eval b X.env)]:=by rfl) (hs2:starEach [b] X.env=[(false,eval b X.env)]:=by rfl) :
  PI X (.Tuple es ek ep) (.Call (.Name "zip" p) [a,b] [] pos) (λσ H R=>ta σ H λvs H1=>∃ l1 l2 xs ys,vs=[.ref l1,.ref l2]/\SqT X.K H1 l1 xs/\SqT X.K H1 l2 ys/\R (Itz X.K l1 l2) H1):=by
 intro zB s σ H R I h;refine Call_ (zDV I hg hm (by rfl) (PyProof.Rows.callWith_type1 (thn (ha pos zB s σ H _ I h) λus s1 ⟨vs,H1,I1,r1,q1⟩=>?_) (by rw[hs,hs2]) (by rw[hs2];rfl)));obtain ⟨l1,l2,xs,ys,rfl,s1',s2',q⟩:=q1;cases r1 with
 |cons r rr=>
  cases rr with
  |cons r' rr=>
   cases rr;cases r;cases r';obtain ⟨its,rv,p1,_⟩:=I1.tuple s1';obtain ⟨its2,rv2,p2,_⟩:=I1.tuple s2';have d1:l1<s1.heap.objs.size:=by obtain ⟨_,e,_⟩:=p1;exact zXy e
   have d2:l2<s1.heap.objs.size:=by obtain ⟨_,e,_⟩:=p2;exact zXy e
   refine zPt (show s1.heap.IsTuple l1 its.toArray from p1) (show s1.heap.IsTuple l2 its2.toArray from p2) λh' Z kp=>wpAny_pyIter_zip Z.z ?_;refine ⟨s1.heap.objs.size+4,[s1.heap.objs.size+4,s1.heap.objs.size+2,s1.heap.objs.size+3,s1.heap.objs.size,s1.heap.objs.size+1],_,_,H1,rfl,I1.kept (t':=s1.toks) kp,zOp (zipApart_new d1 d2),Z,λc hc=>?_,q⟩;have ge:s1.heap.objs.size<=c:=by
    simp only[zXz,zYI,zY8]at hc;rcases hc with rfl|rfl|rfl|rfl|rfl
    .exact Nat.le_add_right _ 4
    .exact Nat.le_add_right _ 2
    .exact Nat.le_add_right _ 3
    .exact zXt _
    .exact Nat.le_add_right _ 1
   exact I1.fpOk ge (I1.hok.fresh ge)
noncomputable def zRP (g:FA):FI:=λσ M=>match g σ M with
 |some ([.tup xs,.tup ys],M1)=>some ((xs.zip ys).map λq=>D.tup [q.1,q.2],none,M1)
 |_=>none
theorem zVA (hg:Gl X "zip") (hm:X.mg "zip" = none) (ha:QA X [a,b] g) (hs:starEach [a,b] X.env=[(false,eval a X.env),(false,eval b X.env)]:=by rfl) (hs2:starEach [b] X.env=[(false,eval b X.env)]:=by rfl) :
  QI X (.Tuple es ek ep) (.Call (.Name "zip" p) [a,b] [] pos) (zRP g):=.mk <| PI.imp (zVf hg hm ha.un hs hs2) λτ H R zz=>by
 obtain ⟨L,σ,M,xs,gd,M',c,rs,hf,q⟩:=zz;unfold zRP at hf;split at hf
 .rename_i ds es' M1 e1;cases hf;refine ⟨L,σ,M,_,_,c,rs,e1,λL1 H1 vs s1 c1 r1=>?_⟩;obtain ⟨v,v',rfl,r2,r3⟩:=r1.two;unfold Rep at r2 r3;obtain ⟨l1,ws1,rfl,h1,q1⟩:=r2;obtain ⟨l2,ws2,rfl,h2,q2⟩:=r3;refine ⟨l1,l2,ws1,ws2,rfl,.of h1,.of h2,q L1 H1 _ s1 c1 λL2 H2 M2 s2 c2 _=>?_⟩;have k1:=s2.tup l1 ws1 h1;have k2:=s2.tup l2 ws2 h2;have p1:=q1.stp s2;have p2:=q2.stp s2;refine ⟨λi d hd=>?_,⟨ws1,ws2,.of k1,.of k2,?_⟩⟩
  .rw[zYA]at hd;cases e2:(ds.zip es')[i]? with
   |none=>rw[e2]at hd;cases hd
   |some pr=>
    rw[e2]at hd;cases hd;obtain ⟨f1,f2⟩:=List.getElem?_zip_eq_some.mp e2;obtain ⟨u,hu,ru⟩:=p1.get f1;obtain ⟨u2,hu2,ru2⟩:=p2.get f2;refine ⟨⟨ws1,ws2,u,u2,.of k1,.of k2,hu,hu2⟩,λv H3 hy=>?_⟩;obtain ⟨T,x,y,rfl,hT,rfl,hxx,hyy⟩:=hy;have ex:=hxx ws1 (.of k1);have ey:=hyy ws2 (.of k2);rw[hu]at ex;cases ex;rw[hu2]at ey;cases ey;exact ⟨λa o e=>by rw[zZ (zAL e hT)];exact e,Rep.newTup hT (.cons ru (.cons ru2 .nil))⟩
  .rw[zXw,List.length_zip,p1.length,p2.length];omega
 .cases hf
noncomputable def zC0 (i j:Nat):FG:=λd σ=>match d with
 |.tup [x,y]=>some ((σ.set i (some x)).set j (some y))
 |_=>none
noncomputable abbrev gP2 (K:Yb) (i j:Nat):TG:=zUk K 2 (zJO (zCs i) (zJO (zCs j) zVZ))
theorem zQ4 {K:Yb} {i j:Nat}:GOk (gP2 K i j) (zC0 i j):=by
 intro L H σ σ' τ d v Q rs r hf q;unfold zC0 at hf;split at hf
 .rename_i x y;cases hf;unfold Rep at r;obtain ⟨a,vs,rfl,e,r⟩:=r;obtain ⟨v1,v2,rfl,r1,r2⟩:=r.two;exact ⟨a,_,rfl,.of e,rfl,v1,[v2],rfl,v2,[],rfl,rfl,q _ ((rs.set r1).set r2)⟩
 .cases hf
theorem zJC {K:Yb} {own:Yj} {i j:Nat} (hi:i∈own) (hj:j∈own):zFZ own (gP2 K i j) (zC0 i j):=by
 intro L H σ σ' τ τ0 d v Q rs ex r hf q;unfold zC0 at hf;split at hf
 .rename_i x y;cases hf;unfold Rep at r;obtain ⟨a,vs,rfl,e,r⟩:=r;obtain ⟨v1,v2,rfl,r1,r2⟩:=r.two;exact ⟨a,_,rfl,.of e,rfl,v1,[v2],rfl,v2,[],rfl,rfl,q _ ((rs.set r1).set r2) ((ex.set hi).set hj)⟩
 .cases hf
end
section
variable {X:Cx} {a b c e:Expr} {es:Yi} {pos p p2 pos2:Pos} {f g h:FE}
theorem zNa:∀ {bs:List Bool} {its:Yf},zb (bs.map V.bl) its -> ∀ (i:Nat) v,its[i]?=some v -> ∃ k,bs[i]?=some k/\v=.bool k
 |[],_,.nil,_,_,h=>by simp at h
 |k::bs,_,.cons r t,0,v,h=>by
  simp at h;subst h;exact ⟨k,rfl,r⟩
 |k::bs,_,.cons r t,i+1,v,h=>by
  obtain ⟨k',e1,e2⟩:=zNa t i v (by simpa using h);exact ⟨k',by simpa using e1,e2⟩
theorem zM2 (bs:List Bool):((List.range bs.length).all λi=>(bs[i]?).getD true)=bs.all id:=by
 rw[Bool.eq_iff_iff,zYO,zYO];constructor
 .intro q k hk;obtain ⟨i,hi,rfl⟩:=zZq hk;have:=q i (zYR.mpr hi);rw[zXr hi]at this;exact this
 .intro q i hi;rw[zXr (zYR.mp hi)];exact q _ (zYL _)
def zWj (K:Yb) (F:List Bool->Bool):List V->Hp->VK->Prop:=λxs H Q=>∃ q bs,xs=[.ref q]/\SqL K H q (bs.map V.bl)/\Q (.bl (F bs)) H
theorem zO8 (hc:X.calm=true):zCP X (.builtin "all") (zWj X.K λbs=>bs.all id):=by
 intro zB s σ H xs us Q I r h;obtain ⟨l,bs,rfl,hq,q⟩:=h;obtain ⟨u,rfl,rx⟩:=zEq r;cases rx;obtain ⟨its,rv,pl,_⟩:=I.list hq;have hlt:l<s.heap.objs.size:=by obtain ⟨_,z,_⟩:=pl.isList;exact zXy z
 refine call_all_walk (wpAny_pyIter_list pl.isList ⟨s.heap.objs.size,[s.heap.objs.size,l],[s.heap.objs.size],its.toArray.size,_,_,λi=>(bs[i]?).getD true,rfl,Walks.list (A:=X.A.in1) (I.ok.hd hc) _ l (zX8 hlt) its.toArray,
  ⟨⟨_,zXx _ rfl,rfl,rfl⟩,pl.isList.push _⟩,λi v s' Q' E' hP hQ=>?_,λh' tk hk=>?_⟩)
 .obtain ⟨k,z,rfl⟩:=zNa rv i v (by simpa using hP);dsimp only at hQ;rw[z]at hQ;exact zYz hQ
 .have hl:=rv.length;rw[zXw]at hl;rw[zXv,<-hl,zM2];exact ⟨.bl _,H,I.kept (t':=tk) λb o z=>hk b o (λm=>by rw[zYF.mp m]at z;exact zYV _ (zXy z)) (zXo _ z),rfl,q⟩
noncomputable def zGS:List D->Option (List Bool)
 |[]=>some []
 |.bl k::r=>match zGS r with
  |some bs=>some (k::bs)
  |none=>none
 |_=>none
theorem zNj:∀ {ds:List D} {bs:List Bool} {vs:List V},zGS ds=some bs->zR L H ds vs->vs=bs.map V.bl
 |[],bs,vs,e,r=>by cases e;unfold zR at r;exact r
 |d::ds,bs,vs,e,r=>by
  unfold zR at r;obtain ⟨v,r',rfl,r1,r2⟩:=r;cases d with
  |bl k=>
   unfold zGS at e;cases q:zGS ds with
   |none=>rw[q]at e;cases e
   |some bs'=>
    rw[q]at e;cases e;unfold Rep at r1;rw[r1,zNj q r2];rfl
  |_=>cases e
noncomputable def zOe (F:List Bool->Bool):KB:=λxs M=>match xs with
 |[x]=>match zBW M x with
  |some ds=>match zGS ds with
   |some bs=>some (.dat (.bl (F bs)),M)
   |none=>none
  |none=>none
 |_=>none
theorem zSb {K:Yb} {F:List Bool->Bool}:zIA K (zWj K F) (zOe F):=by
 intro L M M' H H0 xs d vs Q c r hk q;unfold zOe at hk;split at hk
 .rename_i x;split at hk
  .rename_i ds e1;split at hk
   .rename_i bs e2;cases hk;obtain ⟨v,rfl,r1⟩:=r.one;obtain ⟨l,ws,rfl,h1,r2⟩:=zA6 c r1 e1;have:=zNj e2 r2;subst this;exact ⟨l,bs,rfl,.inl h1,q L H _ (.refl L H) c (zB2 (L:=L) (H:=H))⟩
   .cases hk
  .cases hk
 .cases hk
noncomputable abbrev zWB:KB:=zOe λbs=>bs.all id
section
variable {fa:FAE}
theorem zWK (hc:X.calm=true) (hg:Gl X "all") (hm:X.mg "all" = none) (ha:QAE X [e] fa) (he:starEach [e] X.env=(false,eval e X.env)::starEach [] X.env:=by rfl) (hpl:(backTo pos (starEach [] X.env)).any (·.1)=false:=by rfl):QE X (.Call (.Name "all" p) [e] [] pos) (fB zWB fa) :=
 zDn zSb (zO8 hc) (by rfl) hg hm ha (by decide) (by decide) he hpl
end
theorem zWP (h:zBW M x=some ds) (hb:zGS ds=some bs):Ok (zOe F [x] M) P ↔ P (.dat (.bl (F bs))) M:=by
 have:zOe F [x] M=some (.dat (.bl (F bs)),M):=by unfold zOe;dsimp only;rw[h];dsimp only;rw[hb]
 rw[this,zAA]
theorem zI2:∀ bs:List Bool,zGS (bs.map D.bl)=some bs
 |[]=>rfl
 |k::bs=>by rw[zX6];unfold zGS;rw[zI2 bs]
noncomputable def zM6:V->Bool
 |.non=>true
 |.bl _=>true
 |_=>false
theorem zQ8:OpR X (compareOp .IsNot) (λx y H Q=>zM6 y=true/\Q (.bl (!decide (x=y))) H):=by
 intro zB s σ H x y v u Q I rx ry h;obtain ⟨hp,q⟩:=h;cases y with
 |non=>
  cases ry;refine wpAny_isNot_plain (by cases x <;> first|(cases rx;rfl)|(obtain ⟨t,rfl⟩:=rx;rfl)) (zy I q ?_);cases x <;> first|(cases rx;rfl)|(obtain ⟨t,rfl⟩:=rx;rfl)
 |bl k=>
  cases ry;refine wpAny_isNot_plain (by cases x <;> first|(cases rx;rfl)|(obtain ⟨t,rfl⟩:=rx;rfl)) (zy I q ?_);cases x with
  |bl k'=>cases rx;cases k <;> cases k' <;> rfl
  |_=>first|(cases rx;rfl)|(obtain ⟨t,rfl⟩:=rx;rfl)
 |_=>cases hp
noncomputable def isD:EV->D->Option Bool
 |x,.non=>match x with
  |.dat .non=>some true
  |_=>some false
 |x,.bl k=>match x with
  |.dat (.bl k')=>some (decide (k'=k))
  |_=>some false
 |_,_=>none
noncomputable def kIs (neg:Bool):K2:=λx y M=>match y with
 |.dat d=>match isD x d with
  |some k=>some (.dat (.bl (if neg then !k else k)),M)
  |none=>none
 |_=>none
theorem zTT (rx:za H0 L H x v) (ry:Rep L H d w) (e:isD x d=some k):zM6 w=true/\decide (v=w)=k:=by
 cases d with
 |non=>
  unfold Rep at ry;subst ry;refine ⟨rfl,?_⟩;cases x with
  |fl xs=>obtain ⟨q,vs,rfl,_⟩:=rx;cases e;rfl
  |dat d'=>
   cases d' with
   |non=>unfold za Rep at rx;subst rx;cases e;rfl
   |bl _=>unfold za Rep at rx;subst rx;cases e;rfl
   |int _=>unfold za Rep at rx;subst rx;cases e;rfl
   |str _=>unfold za Rep at rx;subst rx;cases e;rfl
   |tup _=>unfold za Rep at rx;obtain ⟨q,vs,rfl,_⟩:=rx;cases e;rfl
   |ref _=>unfold za Rep at rx;obtain ⟨q,rfl,_⟩:=rx;cases e;rfl
 |bl k'=>
  unfold Rep at ry;subst ry;refine ⟨rfl,?_⟩;cases x with
  |fl xs=>obtain ⟨q,vs,rfl,_⟩:=rx;cases e;rfl
  |dat d'=>
   cases d' with
   |non=>unfold za Rep at rx;subst rx;cases e;rfl
   |bl j=>unfold za Rep at rx;subst rx;cases e;cases j <;> cases k' <;> rfl
   |int _=>unfold za Rep at rx;subst rx;cases e;rfl
   |str _=>unfold za Rep at rx;subst rx;cases e;rfl
   |tup _=>unfold za Rep at rx;obtain ⟨q,vs,rfl,_⟩:=rx;cases e;rfl
   |ref _=>unfold za Rep at rx;obtain ⟨q,rfl,_⟩:=rx;cases e;rfl
 |_=>cases e
theorem zRb (h:kIs neg x y M=some (r,M')):∃ d k,y=.dat d/\isD x d=some k/\r=.dat (.bl (if neg then !k else k))/\M'=M:=by
 unfold kIs at h;split at h
 .rename_i d;split at h
  .rename_i k e1;cases h;exact ⟨d,k,rfl,e1,rfl,rfl⟩
  .cases h
 .cases h
theorem zR1 {K:Yb}:zDH K (λx y H Q=>zM6 y=true/\Q (.bl (!decide (x=y))) H) (kIs true):=by
 intro L M M' H H0 x y d v w Q cc rx ry hk q;obtain ⟨d',k,rfl,e,rfl,rfl⟩:=zRb hk;obtain ⟨h1,h2⟩:=zTT rx ry e;refine ⟨h1,?_⟩;rw[h2];exact q L H _ (.refl L H) cc (zB2 (L:=L) (H:=H))
theorem zTr (h1:QE X a f) (h2:QE X b g):QT X (.Compare a [.IsNot] [b] pos) (tst (fOp (kIs true) f g)):=zDt zR1 zQ8 h1 h2 (zEN _)
noncomputable def zLz (f:FE):FE:=λσ M=>match f σ M with
 |some (.dat (.int i),M1)=>some (.dat (.int (-i)),M1)
 |_=>none
theorem zWL (h1:QE X a f):QE X (.UnaryOp .USub a pos) (zLz f):=.mk <| PE.imp (zW1 zUe h1.un) λτ H Q zz=>by
 obtain ⟨L,σ,M,d,M',cc,rs,hf,q⟩:=zz;unfold zLz at hf;split at hf
 .rename_i i M1 e1;cases hf;refine ⟨L,σ,M,_,_,cc,rs,e1,λL1 H1 v s1 c1 r1=>?_⟩;exact ⟨i,by unfold za Rep at r1;exact r1,q L1 H1 _ s1 c1 (zAb (L:=L1) (H:=H1))⟩
 .cases hf
noncomputable def zH7:KB:=λxs M=>match xs with
 |[x]=>match zAJ M x with
  |some ys=>some (.fl ys,M)
  |none=>none
 |_=>none
theorem zQh:zIA X.K (λxs H Q=>∃ q ys,xs=[.ref q]/\(SqL X.K H q ys\/SqT X.K H q ys) /\ ∀ l,H l=none->Q (.ref l) (upd H l (.lst ys))) zH7:=by
 intro L M M' H H0 xs d vs Q cc r hk q;unfold zH7 at hk;split at hk
 .rename_i x;split at hk
  .rename_i ys e1;cases hk;obtain ⟨v,rfl,r1⟩:=r.one;obtain ⟨l,ws,rfl,hs,r2⟩:=zFd cc r1 e1;refine ⟨l,ws,rfl,hs,λk hk=>?_⟩;exact q L _ _ (.upd hk) (cc.upd hk) (za.newLst (.refl L H) cc cc hk r2)
  .cases hk
 .cases hk
theorem zUn (hg:Gl X "list") (hm:X.mg "list" = none) (ha:QAE X [e] fa) (he:starEach [e] X.env=(false,eval e X.env)::starEach [] X.env:=by rfl) (hpl:(backTo pos (starEach [] X.env)).any (·.1)=false:=by rfl):QE X (.Call (.Name "list" p) [e] [] pos) (fB zH7 fa) :=
 zKz zQh zKk (by rfl) hg hm ha (by decide) (by decide) he hpl
theorem zVJ (hh:zAJ M x=some xs):Ok (zH7 [x] M) P ↔ P (.fl xs) M:=by
 have:zH7 [x] M=some (.fl xs,M):=by unfold zH7;dsimp only;rw[hh]
 rw[this,zAA]
end
open AutoSeq1 (wpAny_loadPart')
section
variable {prog:Ym} {w:Yo} {A:Yn} {E:Yc} {s:Yl}
theorem zRd {r:Yt} {lo hi:Int} {t u v:Tok} {n:Nat} {Q:List Value->Shared->Prop} (hh:A.handled=none) (R:IsRange s.heap r lo hi 1 t u v) (sm:Builtin.Range.small lo hi 1=true) (hn:Builtin.Range.rangeSize lo hi 1=n) (hz:n<=2 ^ 24)
  (q:∀ h' tk (acc:Yp),(∀ b o,s.heap.get? b=some o->h'.get? b=some o)->ItemsOf (λi v=>∃ t,v=.int (lo+i*1) t) acc n->Q acc.toList { s with heap:=h',toks:=tk }):wpAny (model prog w) A (collect (.ref r)) Q E s:=by
 unfold collect;refine zXn (wpAny_runValue (zYs PySem.F.entry_proto_collect ?_));rw[zYi PySem.F.plain_proto_collect _];refine zXn (m:=newList []) (zYG (zXp ⟨plainId_quiet PySem.F.plain_list_iadd _,zYs PySem.F.entry_list_iadd ?_⟩));rw[zYi PySem.F.plain_list_iadd _];have S0:(s.heap.push { cls:=.type "list", data:=.seq ([]:List Value).toArray }).get? s.heap.objs.size=some { cls:=.type "list", data:=.seq #[] 0 }:=zXx _ rfl
 have fin:∀ (h':Heap) (tk:Nat) (acc:Array Value) (k:Nat),(∀ b o,b≠s.heap.objs.size->(s.heap.push { cls:=.type "list", data:=.seq ([]:List Value).toArray }).get? b=some o->h'.get? b=some o) ->
   h'.get? s.heap.objs.size=some { cls:=.type "list", dict:=none,data:=.seq acc k,slots:=#[] }->ItemsOf (λi v=>∃ t,v=.int (lo+i*1) t) acc n ->
   wpAny (model prog w) A (match Value.ref s.heap.objs.size with
    |Value.ref a=>do
     match (<- load a).data with
      |Data.seq xs _=>pure xs.toList
      |_=>unsupported "internal:collect"
    |_=>unsupported "internal:collect") Q E { s with heap:=h',toks:=tk }:=λh' tk acc k kp e it=>by
  refine zXn (m:=load s.heap.objs.size) (wpAny_load e (zXp (q h' tk acc (λb o m=>kp b o (zX8 (zXy m)) (zXo _ m)) it)))
 refine zYJ (wpAny_extend_range (A:=A) (s:={ s with heap:=s.heap.push { cls:=.type "list", data:=.seq ([]:List Value).toArray } })
  (R:=λr s'=>r=.ok (.ret (.ref s.heap.objs.size)) /\ ∃ h' tk acc k,s'={ s with heap:=h',toks:=tk }/\(∀ b o,b≠s.heap.objs.size->(s.heap.push { cls:=.type "list", data:=.seq ([]:List Value).toArray }).get? b=some o->h'.get? b=some o) /\
   h'.get? s.heap.objs.size=some { cls:=.type "list", dict:=none,data:=.seq acc k,slots:=#[] }/\ItemsOf (λi v=>∃ t,v=.int (lo+i*1) t) acc n)
  hh (zXo _ R) sm hn hz s.heap.objs.size (.ref s.heap.objs.size) 0 S0 λh' tk acc k kp e it=>⟨rfl,h',tk,acc,k,rfl,kp,e,it⟩) (λf s' z=>?_) (λe s' z=>?_)
 .cases f with
  |done f=>
   obtain ⟨e,h',tk,acc,k,rfl,z1,z2,z3⟩:=z;cases e;exact fin h' tk acc k z1 z2 z3
  |again c'=>exact ⟨z.1,codeAny_mono z.2 λr s'' z=>by obtain ⟨rfl,h',tk,acc,k,rfl,z1,z2,z3⟩:=z;exact fin h' tk acc k z1 z2 z3⟩
 .exact absurd z.1 (by simp)
end
theorem zJ7 (r:Yt) (lo hi:Int) (t u v:Tok) (n:Nat) (sm:Builtin.Range.small lo hi 1=true) (hn:Builtin.Range.rangeSize lo hi 1=n) (hz:n<=2 ^ 24) :
  Meets (Builtin.«tuple.__new__» ⟨[.type "tuple", .ref r],[]⟩) (λA R s=>A.handled=none/\IsRange s.heap r lo hi 1 t u v /\
   ∀ (h':Heap) (tk:Nat) (acc:Array Value),(∀ b o,s.heap.get? b=some o->h'.get? b=some o)->ItemsOf (λi v=>∃ t,v=.int (lo+i*1) t) acc n->R (.ok (.ret (.ref h'.objs.size))) { s with heap:=h'.push { cls:=.type "tuple", data:=.seq acc },toks:=tk }) :=
 .of_wp λprog w A R s h=>by
  obtain ⟨hp,g,d,tk,os⟩:=s;obtain ⟨hh,Ra,h⟩:=h;have h1:=sub_tuple_self;have h2:=init_tuple_lookup;have h3:=madeHere_tuple;have T:Shared.TypeIs ⟨hp,g,d,tk,os⟩ (.ref r) "range" := ⟨_,Ra,rfl⟩;wp_walk using wpAny_loadPart' Ra,wpAny_typeOf T,zRd (show A.in1.handled=none from hh) Ra sm hn hz;intro h' tk' acc kp it;refine zXn (m:=Builtin.Tuple.tupleExact acc.toList.toArray) ?_;unfold Builtin.Tuple.tupleExact;have sz:acc.toList.toArray.size<=sizeLine:=by rw[zXv,zYW,it.1,sizeLine_eq];omega
  refine zYG (zXp ⟨_,rfl,?_⟩) sz;have e:acc.toList.toArray=acc:=by simp
  rw[e];exact h h' tk' acc kp it
section
variable {X:Cx} {a e:Expr} {es:Yi} {pos p p2 pos2:Pos} {f:FE}
theorem zLH:zCP X (.type "range") (λxs H Q=>∃ j,xs=[.int j] /\ ∀ l,H l=none->Q (.ref l) (upd H l (.rng 0 j))):=by
 intro zB s σ H xs us Q I r h;obtain ⟨j,rfl,q⟩:=h;obtain ⟨u,rfl,rx⟩:=zEq r;obtain ⟨t,rfl⟩:=rx;refine call_range_1 ⟨.ref s.heap.objs.size,_,I.laid (λb o z=>zXo _ z) (zXt _) ?_,rfl,q _ (I.hok.fresh (zXt _))⟩;exact ⟨_,_,_,zXx _ rfl⟩
noncomputable def upV (n:Nat):List V:=(List.range n).map λ(k:Nat)=>V.int k
theorem zKt (h:ItemsOf (λi v=>∃ t,v=.int ((0:Int)+i*1) t) acc n):zb (upV n) acc.toList:=by
 obtain ⟨hz,hi⟩:=h;have:∀ (xs:Yf) (k:Nat),(∀ j v,xs[j]?=some v -> ∃ t,v=Value.int ((k+j:Nat):Int) t)->zb ((List.range' k xs.length).map λ(k:Nat)=>V.int k) xs:=by
  intro xs;induction xs with
  |nil=>intro k _;exact .nil
  |cons x xs ih=>
   intro k hk;rw[zYK,List.range'_succ,zX6];refine .cons ?_ (ih (k+1) λj v e=>?_)
   .obtain ⟨t,e⟩:=hk 0 x rfl;exact ⟨t,by simpa using e⟩
   .obtain ⟨t,e'⟩:=hk (j+1) v (by simpa using e);exact ⟨t,by rw[e'];congr 2;omega⟩
 have q:=this acc.toList 0 (λj v e=>by
  obtain ⟨t,e'⟩:=hi j v (by simpa using e);exact ⟨t,by rw[e'];congr 1;omega⟩)
 unfold upV;rw[List.range_eq_range'];rw[zYW,hz]at q;exact q
theorem zIs (h0:0<=j) (h1:j<=16777216):Builtin.Range.small 0 j 1=true/\Builtin.Range.rangeSize 0 j 1=(j.toNat:Int):=by
 refine ⟨small_one (by omega) (by omega) (by omega) (by omega),?_⟩;rw[rangeSize_one];split <;> omega
def zVz (mk:List V->HO):List V->Hp->VK->Prop:=λxs H Q=>∃ r j,xs=[.ref r]/\H r=some (.rng 0 j)/\0<=j/\j<=16777216 /\ ∀ l,H l=none->Q (.ref l) (upd H l (mk (upV j.toNat)))
theorem zHa (n:Nat):(upV n).length=n:=by unfold upV;simp
theorem zOJ (hc:X.calm=true):zCP X (.type "tuple") (zVz HO.tup):=by
 intro zB s σ H xs us Q I r h;obtain ⟨l,j,rfl,hr,h0,h1,q⟩:=h;obtain ⟨u,rfl,rx⟩:=zEq r;cases rx;obtain ⟨t,u,v,er⟩:=(show zAU X.prog X.w H s.heap l (.rng 0 j)from I.hok l _ hr);obtain ⟨sm,sz⟩:=zIs h0 h1
 refine callType_new PySem.F.called_tuple (by decide) (PySem.F.typeCall_tuple_1 _) (PySem.F.newCall_tuple_1 _) (λobj=>PySem.F.args_object_init_2 obj _) PySem.F.entry_tuple_new (zJ7 l 0 j t u v j.toNat sm sz (by omega))
  ⟨I.ok.hd hc,er,λh' tk acc kp it=>⟨⟨_,zXx _ rfl,rfl⟩,?_⟩⟩
 have I1:Inv X zB σ H { s with heap:=h',toks:=tk }:=I.kept kp;refine ⟨.ref h'.objs.size,_,I1.laid (t':=tk) (λb o z=>zXo _ z) (zXt _) ?_,rfl,q _ (I1.hok.fresh (zXt _))⟩;exact ⟨by rw[zHa,sizeLine_eq];omega,acc.toList,zKt it,by simpa using zCM.new h' acc⟩
theorem zOr (hc:X.calm=true):zCP X (.type "list") (zVz HO.lst):=by
 intro zB s σ H xs us Q I r h;obtain ⟨l,j,rfl,hr,h0,h1,q⟩:=h;obtain ⟨u,rfl,rx⟩:=zEq r;cases rx;obtain ⟨t,u,v,er⟩:=(show zAU X.prog X.w H s.heap l (.rng 0 j)from I.hok l _ hr);obtain ⟨sm,sz⟩:=zIs h0 h1;refine call_list_range (I.ok.hd hc) er sm sz (by omega) λh' tk acc k kp z it=>?_;refine ⟨.ref s.heap.objs.size,_,I.laid (t':=tk) kp (zXt _) (show zAU X.prog X.w _ h' _ (.lst (upV j.toNat))from ⟨by rw[zHa,sizeLine_eq];omega,acc.toList,k,zKt it,by simpa using z⟩),rfl,q _ (I.hok.fresh (zXt _))⟩
noncomputable def upD (n:Nat):List D:=(List.range n).map λ(k:Nat)=>D.int k
theorem zN0 (n:Nat):zR L H (upD n) (upV n):=by
 have:∀ xs:List Nat,zR L H (xs.map λ(k:Nat)=>D.int k) (xs.map λ(k:Nat)=>V.int k):=by
  intro xs;induction xs with
  |nil=>exact .nil
  |cons x xs ih=>exact .cons zAb ih
 exact this _
noncomputable def zGQ (f:FE):FE:=λσ M=>match f σ M with
 |some (.dat (.int j),M1)=>if 0<=j/\j<=16777216 then some (.dat (.tup (upD j.toNat)),M1) else none
 |_=>none
noncomputable def zFV (f:FE):FE:=λσ M=>match f σ M with
 |some (.dat (.int j),M1)=>if 0<=j/\j<=16777216 then some (.fl (upD j.toNat),M1) else none
 |_=>none
theorem zU1 (hc:X.calm=true) (hg:Gl X "tuple") (hm:X.mg "tuple" = none) (hg2:Gl X "range") (hm2:X.mg "range" = none) (ha:QE X a f)
  (he:starEach [Expr.Call (.Name "range" p2) [a] [] pos2] X.env=(false,eval (Expr.Call (.Name "range" p2) [a] [] pos2) X.env)::starEach [] X.env:=by rfl) (hpl:(backTo pos (starEach [] X.env)).any (·.1)=false:=by rfl)
  (he2:starEach [a] X.env=(false,eval a X.env)::starEach [] X.env:=by rfl) (hpl2:(backTo pos2 (starEach [] X.env)).any (·.1)=false:=by rfl) :
  QE X (.Call (.Name "tuple" p) [.Call (.Name "range" p2) [a] [] pos2] [] pos) (zGQ f) :=
 .mk <| PE.imp (zDO (zOJ hc) hg hm (by rfl) (zC1 (zDO zLH hg2 hm2 boot_range (zC1 ha.un zE8 he2) (by decide) (by decide) he2 hpl2) zE8 he) (by decide) (by decide) he hpl) λτ H Q zz=>by
  obtain ⟨L,σ,M,d,M',c,rs,hf,q⟩:=zz;unfold zGQ at hf;split at hf
  .rename_i j M1 e1;split at hf
   .rename_i hb;cases hf;refine ⟨L,σ,M,_,_,c,rs,e1,λL1 H1 v s1 c1 r1=>⟨j,by unfold za Rep at r1;rw[r1],λl hl=>⟨l,j,rfl,zAH,hb.1,hb.2,λk hk=>?_⟩⟩⟩;exact q L1 _ _ ((s1.trans (.upd hl)).trans (.upd hk)) ((c1.upd hl).upd hk) (Rep.newTup hk (zN0 _))
   .cases hf
  .cases hf
theorem zVY (hc:X.calm=true) (hg:Gl X "list") (hm:X.mg "list" = none) (hg2:Gl X "range") (hm2:X.mg "range" = none) (ha:QE X a f)
  (he:starEach [Expr.Call (.Name "range" p2) [a] [] pos2] X.env=(false,eval (Expr.Call (.Name "range" p2) [a] [] pos2) X.env)::starEach [] X.env:=by rfl) (hpl:(backTo pos (starEach [] X.env)).any (·.1)=false:=by rfl)
  (he2:starEach [a] X.env=(false,eval a X.env)::starEach [] X.env:=by rfl) (hpl2:(backTo pos2 (starEach [] X.env)).any (·.1)=false:=by rfl) :
  QE X (.Call (.Name "list" p) [.Call (.Name "range" p2) [a] [] pos2] [] pos) (zFV f) :=
 .mk <| PE.imp (zDO (zOr hc) hg hm (by rfl) (zC1 (zDO zLH hg2 hm2 boot_range (zC1 ha.un zE8 he2) (by decide) (by decide) he2 hpl2) zE8 he) (by decide) (by decide) he hpl) λτ H Q zz=>by
  obtain ⟨L,σ,M,d,M',c,rs,hf,q⟩:=zz;unfold zFV at hf;split at hf
  .rename_i j M1 e1;split at hf
   .rename_i hb;cases hf;refine ⟨L,σ,M,_,_,c,rs,e1,λL1 H1 v s1 c1 r1=>⟨j,by unfold za Rep at r1;rw[r1],λl hl=>⟨l,j,rfl,zAH,hb.1,hb.2,λk hk=>?_⟩⟩⟩;have s2:Stp L H L1 (upd H1 l (.rng 0 j)):=s1.trans (.upd hl);exact q L1 _ _ (s2.trans (.upd hk)) ((c1.upd hl).upd hk) (za.newLst s2 c (c1.upd hl) hk (zN0 _))
   .cases hf
  .cases hf
section
variable {M:Mem} {σ:Sd} {P:EV->Mem->Prop}
theorem zTm (e:f σ M=some (.dat (.int j),M)) (h0:0<=j) (h1:j<=16777216) (q:P (.dat (.tup (upD j.toNat))) M):Ok (zGQ f σ M) P:=by
 refine ⟨_,_,?_,q⟩;unfold zGQ;rw[e];dsimp only;rw[zX2 ⟨h0,h1⟩]
end
end
theorem zSG {P:Ym} {w:Yo} {K:Yb} {mg:Yh} {base:Heap} {k:Nat} {f:Yt} {fd:Yz} {ps:Yk} {n:Nat}:FnOk P w K mg base CX0 k f fd ps (spF K n λ_ _=>none):=by
 have no:∀ vs H Q E,¬ spF K n (λ_ _=>none) vs H Q E:=λvs H Q E ⟨_,_,_,_,_,_,_,_,h,_⟩=>by cases h
 exact ⟨λvs H Q E h=>absurd h (no vs H Q E),λA outer s H args us vs Q E _ _ _ _ h=>absurd h (no vs H Q E)⟩
noncomputable def zFG:Expr->Bool
 |.Starred .. =>false
 |_=>true
theorem zO (h:zFG e=true):starEach (e::es) env=(false,eval e env)::starEach es env:=by
 cases e <;> first|rfl|cases h
theorem zHj (h:zFG e=true):starEach [e] env=[(false,eval e env)]:=zO h
theorem zR7 (h:zFG e=true) (h':zFG e'=true):starEach [e,e'] env=[(false,eval e env),(false,eval e' env)]:=by rw[zO h,zHj h']
theorem zBY:∀ {es:Yi},es.all zFG=true->(backTo pos (starEach es env)).any (·.1)=false
 |[],_=>rfl
 |e::es,h=>by
  rw[List.all_cons,zYN]at h;rw[zO h.1];have:=zBY (pos:=pos) (env:=env) h.2;simpa [backTo] using this
theorem Cor.pushO {K:Yb} {L:Yg} {M:List MO} {H:Hp} {p:Yt} {o:HO} {m:MO} (c:Cor K L M H) (h:H p=none) (new:zHR K (L++[p]) (L2.upd H p o) p m) :
  Cor K (L++[p]) (M++[m]) (L2.upd H p o)/\Stp L H (L++[p]) (L2.upd H p o):=by
 have hp:p∉L:=λz=>by obtain ⟨o,e⟩:=c.tracked z;rw[h]at e;cases e
 have st:Stp L H (L++[p]) (L2.upd H p o):=by
  refine ⟨⟨[p],rfl⟩,λa ha=>?_,λa o e _=>?_,λa o e=>?_,λa o u e=>?_⟩
  .rcases zYD.mp ha with z|z
   .exact .inl z
   .have:a=p:=by simpa using z
    subst this;exact .inr h
  all_goals (rw[zZ (zAL e h)];exact e)
 refine ⟨⟨by simp[c.len],?_,λn a m e1 e2=>?_⟩,st⟩
 .rw[zY1];exact ⟨c.nd,by simp,λa ha b hb z=>by
   have:b=p:=by simpa using hb
   subst this;subst z;exact hp ha⟩
 .by_cases hn:n<L.length
  .rw[zXu hn]at e1;rw[zXu (by rw[<-c.len];exact hn)]at e2;exact (c.obj n a m e1 e2).stp st λo e=>by rw[zZ (zAL e h)];exact e
  .have hn':n=L.length:=by
    have:=(zXq.mp e1).1;rw[zX3]at this;simp at this;omega
   subst hn';simp at e1;rw[c.len]at e2;simp at e2;subst e1;subst e2;exact new
theorem Cor.put {K:Yb} {L:Yg} {M:List MO} {H:Hp} {n:Nat} {p:Yt} {o o':HO} {m:MO} (c:Cor K L M H) (h1:L[n]?=some p) (ho:H p=some o) (ht:∀ xs,o≠.tup xs) (hf:∀ a u,o≠.frz a u)
  (new:Stp L H L (L2.upd H p o')->zHR K L (L2.upd H p o') p m):Cor K L (M.set n m) (L2.upd H p o')/\Stp L H L (L2.upd H p o'):=by
 have st:Stp L H L (L2.upd H p o'):=by
  refine ⟨⟨[],by simp⟩,λa ha=> .inl ha,λa o e ha=>?_,λa xs e=>?_,λa b u e=>?_⟩
  .rw[zZ (show a≠p from λz=>ha (by rw[z];exact zYe h1))];exact e
  .rw[zZ (zJA e ho (λz=>ht xs z.symm))];exact e
  .rw[zZ (zJA e ho (λz=>hf b u z.symm))];exact e
 refine ⟨⟨by simp[c.len],c.nd,λk a m' e1 e2=>?_⟩,st⟩;rw[zZM]at e2;split at e2
 .rename_i hk;subst hk;rw[h1]at e1;cases e1;split at e2
  .cases e2;exact new st
  .cases e2
 .rename_i hk;have hne:a≠p:=λz=>hk (by
   subst z;exact (List.getElem?_inj (zXq.mp h1).1 c.nd).mp (h1.trans e1.symm))
  exact (c.obj k a m' e1 e2).stp st λo e=>by rw[zZ hne];exact e
section
variable {X:Cx} {a b e:Expr} {pos:Pos} {f g:FE}
noncomputable def zMU:FE:=λ_ M=>some (.dat (.ref M.length),M++[.dict []])
noncomputable def zNX:FE:=λ_ M=>some (.dat (.ref M.length),M++[.dicT []])
theorem zSc:QE X (.Dict [] [] pos) zMU:=.mk <| PE.imp zQj λτ H Q ⟨L,σ,M,d,M',c,rs,hf,q⟩ p hp=>by
 unfold zMU at hf;cases hf;obtain ⟨c2,s2⟩:=c.pushO (m:=.dict []) hp ⟨[],zAH,rfl⟩;refine q _ _ _ s2 c2 ?_;unfold za Rep;exact ⟨p,rfl,by rw[<-c.len];simp⟩
theorem zSK:QE X (.Dict [] [] pos) zNX:=.mk <| PE.imp zP9 λτ H Q ⟨L,σ,M,d,M',c,rs,hf,q⟩ p hp=>by
 unfold zNX at hf;cases hf;obtain ⟨c2,s2⟩:=c.pushO (m:=.dicT []) hp ⟨[],zAH,rfl⟩;refine q _ _ _ s2 c2 ?_;unfold za Rep;exact ⟨p,rfl,by rw[<-c.len];simp⟩
theorem zGo (h:Rep L H d v) (e:zCR d=some k):v=kV k:=by
 cases d with
 |int i=>cases e;unfold Rep at h;exact h
 |str x=>cases e;unfold Rep at h;exact h
 |_=>cases e
noncomputable def zKc (M:Mem):EV->Option (List D)
 |.fl xs=>some xs
 |.dat (.ref n)=>match M[n]? with
  |some (.lst xs)=>some xs
  |_=>none
 |_=>none
theorem zM3 {K:Yb} {L:Yg} {M:Mem} {H H0:Hp} {x:EV} {v:V} {xs:List D} (c:Cor K L M H) (r:za H0 L H x v) (h:zKc M x=some xs):∃ a vs,v=.ref a/\H a=some (.lst vs)/\zR L H xs vs:=by
 cases x with
 |fl ys=>
  cases h;obtain ⟨p,vs,rfl,_,e,_,r⟩:=r;exact ⟨p,vs,rfl,e,r⟩
 |dat d=>
  cases d with
  |ref n=>
   unfold za Rep at r;obtain ⟨a,rfl,e⟩:=r;unfold zKc at h;dsimp only at h;split at h
   .rename_i ys q;cases h;obtain ⟨vs,e1,r1⟩:=c.obj n a _ e q;exact ⟨a,vs,rfl,e1,r1⟩
   .cases h
  |_=>cases h
noncomputable def zGK:K2:=λx y M=>match zKc M x,zKc M y with
 |some xs,some ys=>if xs.length+ys.length<=sizeLine then some (.fl (xs++ys),M) else none
 |_,_=>none
theorem zQL {K:Yb}:zDH K zWH zGK:=by
 intro L M M' H H0 x y d v w Q c rx ry hk q;unfold zGK at hk;split at hk
 .rename_i xs ys e1 e2;split at hk
  .rename_i hz;cases hk;obtain ⟨l,vs,rfl,h1,r1⟩:=zM3 c rx e1;obtain ⟨l2,ws,rfl,h2,r2⟩:=zM3 c ry e2;refine ⟨l,l2,vs,ws,rfl,rfl,h1,h2,by rw[r1.length,r2.length];exact hz,λp hp=>?_⟩;exact q L _ _ (.upd hp) (c.upd hp) (za.newLst (.refl L H) c c hp (r1.app r2))
  .cases hk
 .cases hk
theorem zVM (h1:QE X a f) (h2:QE X b g):QE X (.BinOp a .Add b pos) (fOp zGK f g):=zLT zQL zVS h1 h2
theorem zMW (h1:zKc M x=some xs) (h2:zKc M y=some ys) (hz:xs.length+ys.length<=100000) (q:P (.fl (xs++ys)) M):Ok (zGK x y M) P:=by
 refine ⟨_,_,?_,q⟩;unfold zGK;rw[h1,h2];dsimp only;rw[zX2 (zYE hz (by decide))]
end
end L3
namespace LR
open PySem PySem.Spec PyProof.Rows
open Sem (wp)
open Sem (wp)
open AutoSeq1 (wpAny_loadPart')
open Sem (wp)
open AutoSeq1 (wpAny_loadPart')
end LR
namespace L3
open PySem PySem.Spec PyProof.Rows L2
section
variable {X:Cx} {a b e o:Expr} {pos p apos cpos:Pos} {f g:FE}
noncomputable def zAV:List D->Option (List Int)
 |[]=>some []
 |.int i::r=>match zAV r with
  |some bs=>some (i::bs)
  |none=>none
 |_=>none
theorem zBd:∀ {ds:List D} {bs:Ye} {vs:List V},zAV ds=some bs->zR L H ds vs->vs=bs.map V.int
 |[],bs,vs,e,r=>by cases e;unfold zR at r;exact r
 |d::ds,bs,vs,e,r=>by
  unfold zR at r;obtain ⟨v,r',rfl,r1,r2⟩:=r;cases d with
  |int k=>
   unfold zAV at e;cases q:zAV ds with
   |none=>rw[q]at e;cases e
   |some bs'=>
    rw[q]at e;cases e;unfold Rep at r1;rw[r1,zBd q r2];rfl
  |_=>cases e
theorem zBB:∀ xs:List Int,zAV (xs.map D.int)=some xs
 |[]=>rfl
 |x::r=>by rw[zX6];unfold zAV;rw[zBB r]
theorem zPg (xs:Ye):(xs.map V.int).all zFA=true:=by
 rw[zYO];intro x hx;obtain ⟨i,_,rfl⟩:=zX4.mp hx;rfl
theorem zSl (i:Int) (xs:Ye):inV (.int i) (xs.map V.int)=xs.any λy=>decide (y=i):=by
 unfold inV;rw[List.any_map];congr 1
noncomputable def kIn (neg:Bool):K2:=λx y M=>match x with
 |.dat (.int i)=>match zAJ M y with
  |some ds=>match zAV ds with
   |some xs=>some (.dat (.bl (if neg then !(xs.any λy=>decide (y=i)) else xs.any λy=>decide (y=i))),M)
   |none=>none
  |none=>none
 |_=>none
theorem zP8 {K:Yb} {neg:Bool}:zDH K (rIn K neg) (kIn neg):=by
 intro L M M' H H0 x y d v w Q cc rx ry hk q;unfold kIn at hk;split at hk
 .rename_i i;split at hk
  .rename_i ds e1;split at hk
   .rename_i xs e2;cases hk;have ev:v=.int i:=by unfold za Rep at rx;exact rx
    obtain ⟨p,vs,rfl,hs,r⟩:=zFd cc ry e1;have:=zBd e2 r;subst this;refine ⟨p,_,rfl,hs,by rw[ev];rfl,zPg xs,?_⟩;rw[ev,zSl];exact q L H _ (.refl L H) cc (zB2 (L:=L) (H:=H))
   .cases hk
  .cases hk
 .cases hk
theorem zV3 (h1:QE X a f) (h2:QE X b g) (hm:behindInMarks .In b=false:=by rfl):QT X (.Compare a [.In] [b] pos) (tst (fOp (kIn false) f g)):=zDt zP8 zPA h1 h2 hm
theorem zR2 (h1:QE X a f) (h2:QE X b g) (hm:behindInMarks .NotIn b=false:=by rfl):QT X (.Compare a [.NotIn] [b] pos) (tst (fOp (kIn true) f g)):=zDt zP8 zKV h1 h2 hm
end
end L3
namespace L2
open PySem PySem.Spec PyProof.Rows
section
variable {prog:Ym} {w:Yo} {A:Yn} {E:Yc} {R:Yx} {s:Yl}
theorem zIH (I:Nat->Shared->Prop)
  (turn:∀ n s,I n s->wpAny (model prog w) A (pyNext it) (λr s₁=>match r with
   |none=>R (.ok .next) s₁
   |some v=>wpAny (model prog w) A (letOwnedTupleGo target it v) (λ_ s₁'=>wpAny (model prog w) A (assign target env v) (λ_ s₂=>
     wpAny (model prog w) A (forIn ifs true λc r=>if r=true then do let ok <- isTrue c env (eval c env);pure (ForInStep.yield ok) else pure (ForInStep.yield r)) (λok s₃=>
      if ok=true then wpAny (model prog w) A (eval kx env) (λkv s₄=>wpAny (model prog w) A (eval vx env) (λvv s₅=>
       wpAny (model prog w) A (dictSet D kv vv) (λ_ s₆=>∃ m,m<n/\I m s₆) (λ_ _=>False) s₅) (λ_ _=>False) s₄) (λ_ _=>False) s₃
      else ∃ m,m<n/\I m s₃) (λ_ _=>False) s₂) (λ_ _=>False) s₁') (λ_ _=>False) s₁) (λ_ _=>False) s)
  (n:Nat) (h:I n s) :
  codeAny (model prog w) A (.compLoop (.DictComp kx vx [⟨target,iter,ifs,0⟩] scope pos) 0 it (.ref D) env) R s:=by
 refine codeAny_loop rfl I (λn s hI=>?_) n h;show wpAny _ A ((compTurn (.DictComp kx vx [⟨target,iter,ifs,0⟩] scope pos) 0 it (.ref D) env).onRaise (λx=>do noteFrame x env;theTreesLotGoes x)) _ _ s;refine wpAny_noted ?_;rw[compTurn_dict];refine zXn (zYl (zXn (zYJ (turn n s hI) (λr s₁ h₁=>?_) λ_ _ h'=>h'.elim)));cases r with
 |none=>exact zXp h₁
 |some v=>
  refine zXn (zYJ h₁ (λ_ s₁' h₁'=>?_) λ_ _ h'=>h'.elim);refine zXn (zYJ h₁' (λ_ s₂ h₂=>zXn (zYJ h₂ (λok s₃ h₃=>?_) λ_ _ h'=>h'.elim)) λ_ _ h'=>h'.elim);cases ok with
  |false=>exact zXp ⟨rfl,h₃⟩
  |true=>
   exact zXn (zXn (zYJ h₃ (λkv s₄ h₄=>zXn (zYg (zYJ h₄ (λvv s₅ h₅=>zXn (zYl (zYg (zYJ h₅ (λ_ s₆ h₆=>zXp ⟨rfl,h₆⟩) λ_ _ h'=>h'.elim)))) λ_ _ h'=>h'.elim))) λ_ _ h'=>h'.elim))
theorem zKa (elt target iter:Expr) (ifs:Yi) (scope:Y0) (pos:Pos) (it acc:Yu) (env:Env) :
  compTurn (.SetComp elt [⟨target,iter,ifs,0⟩] scope pos) 0 it acc env=(do
   standAt iter.pos;match <- pyNext it with
   |none=>pure (.done .next)
   |some v=>
    letOwnedTupleGo target it v;assign target env v;let mut ok:=true
    for c in ifs do
     if ok then ok <- isTrue c env (eval c env)
    if ok then (do let v <- eval elt env;standAt elt.pos;let _ <- call (.builtin "set.add") [acc,v])
    again (.compLoop (.SetComp elt [⟨target,iter,ifs,0⟩] scope pos) 0 it acc env)):=by rfl
theorem zKg (I:Nat->Shared->Prop)
  (turn:∀ n s,I n s->wpAny (model prog w) A (pyNext it) (λr s₁=>match r with
   |none=>R (.ok .next) s₁
   |some v=>wpAny (model prog w) A (letOwnedTupleGo target it v) (λ_ s₁'=>wpAny (model prog w) A (assign target env v) (λ_ s₂=>
     wpAny (model prog w) A (forIn ifs true λc r=>if r=true then do let ok <- isTrue c env (eval c env);pure (ForInStep.yield ok) else pure (ForInStep.yield r)) (λok s₃=>
      if ok=true then wpAny (model prog w) A (eval elt env) (λx s₄=>
       wpAny (model prog w) A (call (.builtin "set.add") [acc,x]) (λ_ s₅=>∃ m,m<n/\I m s₅) (λ_ _=>False) s₄) (λ_ _=>False) s₃
      else ∃ m,m<n/\I m s₃) (λ_ _=>False) s₂) (λ_ _=>False) s₁') (λ_ _=>False) s₁) (λ_ _=>False) s)
  (n:Nat) (h:I n s) :
  codeAny (model prog w) A (.compLoop (.SetComp elt [⟨target,iter,ifs,0⟩] scope pos) 0 it acc env) R s:=by
 refine codeAny_loop rfl I (λn s hI=>?_) n h;show wpAny _ A ((compTurn (.SetComp elt [⟨target,iter,ifs,0⟩] scope pos) 0 it acc env).onRaise (λx=>do noteFrame x env;theTreesLotGoes x)) _ _ s;refine wpAny_noted ?_;rw[zKa];refine zXn (zYl (zXn (zYJ (turn n s hI) (λr s₁ h₁=>?_) λ_ _ h'=>h'.elim)));cases r with
 |none=>exact zXp h₁
 |some v=>
  refine zXn (zYJ h₁ (λ_ s₁' h₁'=>?_) λ_ _ h'=>h'.elim);refine zXn (zYJ h₁' (λ_ s₂ h₂=>zXn (zYJ h₂ (λok s₃ h₃=>?_) λ_ _ h'=>h'.elim)) λ_ _ h'=>h'.elim);cases ok with
  |false=>exact zXp ⟨rfl,h₃⟩
  |true=>
   exact zXn (zXn (zYJ h₃ (λx s₄ h₄=>zXn (zYl (zXn (zYJ h₄ (λ_ s₅ h₅=>zXp (zXp ⟨rfl,h₅⟩)) λ_ _ h'=>h'.elim)))) λ_ _ h'=>h'.elim))
end
end L2
namespace LR
open PySem PySem.Spec PyProof.Rows
open Sem (wp)
section
variable {prog:Ym} {w:Yo} {A:Yn} {E:Yc} {s:Yl}
theorem zMw (ht:IsTup s.heap t items) (hj:j<items.size) (hi:∃ v,items[j]=.int i v) (hno:∀ m (hm:m<items.size),m<j -> ∃ k v,items[m]=.int k v/\k≠i)
  (h:Q (.int j s.toks) { s with toks:=s.toks+1 }):wpAny (model prog w) A (call (.builtin "tuple.index") [.ref t,.int i u]) Q E s:=by
 refine zYQ F.slot_tuple_index ht.typeIs F.entry_tuple_index ?_ (F.args_tuple_index_2 _ _);unfold Builtin.«tuple.index»;refine zXn (wpAny_of_eq (a:=((Value.ref t,[Value.int i u]):Value × List Value)) rfl ?_);refine zXn (tupleItemsOf_ ht ?_);show wpAny _ _ (pure 0 >>= _) _ _ s;refine zXn (zXp (zXn (zXp ?_)));show wpAny _ _ (forIn [:min items.size items.size] ((none:Option PySem.Fin),()) _ >>= _) _ _ s;rw[Nat.min_self];have L:∀ (k m:Nat),m+k=items.size->m<=j -> ∀ (E':Yc),wpAny (model prog w) A.in1 (forIn (List.range' m k) ((none:Option PySem.Fin),()) λ(i_1:Nat) (__s:Option PySem.Fin × Unit)=>
       match items[i_1]? with
       |some y=>do
        let __do_lift <- eqBool y (Value.int i u)
        if __do_lift=true then do
          let __do_lift <- retInt (i_1:Int);pure (ForInStep.done (some __do_lift,()))
         else pure (ForInStep.yield (none,()))
       |x=>pure (ForInStep.yield (none,()))) (λr s'=>r=(some (Fin.done (Flow.ret (Value.int j s.toks))),())/\s'={ s with toks:=s.toks+1 }) E' s:=by
  intro k;induction k with
  |zero=>intro m hm hle;omega
  |succ k ih=>
   intro m hm hle E';have hlt:m<items.size:=by omega
   rw[List.range'_succ,List.forIn_cons];have e:items[m]?=some items[m]:=zYY hlt;rw[e];dsimp only;by_cases q:m=j
   .subst q;obtain ⟨v,hv⟩:=hi;rw[hv];refine zXn (zXn (wpAny_eqBool_int ?_));rw[zX2 (by simp)];exact zXn (zXn (wpAny_mkInt (zXp (zXp (zXp ⟨rfl,rfl⟩)))))
   .obtain ⟨k',v,hv,hk⟩:=hno m hlt (by omega);rw[hv];refine zXn (zXn (wpAny_eqBool_int ?_));rw[zX5 (by simpa using hk)];exact zXp (ih (m+1) (by omega) (by omega) E')
 refine zXn ?_;rw[Std.Legacy.Range.forIn_eq_forIn_range'];have er:List.range' ([:items.size]:Std.Legacy.Range).start ([:items.size]:Std.Legacy.Range).size ([:items.size]:Std.Legacy.Range).step=List.range' 0 items.size:=by simp[Std.Legacy.Range.size]
 rw[er];refine zYJ (L items.size 0 (by omega) (zYZ _) _) (λr s' ⟨hr,hs⟩=>?_) λ_ _ e=>e;subst hr hs;exact zXp ⟨_,rfl,h⟩
end
end LR
namespace L3
open PySem PySem.Spec PyProof.Rows L2
section
variable {X:Cx} {e o:Expr} {apos cpos:Pos} {f:FE}
theorem zJZ {xs:Ye} {its:Yf} (r:zb (xs.map V.int) its) (hm:m<its.toArray.size):∃ v,its.toArray[m]=.int (xs.getD m 0) v:=by
 have hl:m<xs.length:=by have:=r.length;simp at this hm;omega
 obtain ⟨u,e,q⟩:=r.get (i:=m) (x:=.int (xs.getD m 0)) (by simp[hl]);obtain ⟨t,rfl⟩:=q;refine ⟨t,?_⟩;have:its.toArray[m]?=some (.int (xs.getD m 0) t):=by simpa using e
 rw[zYY hm]at this;exact zYn this
theorem zRO:MtR X "tuple.index" (λx vs H Q=>∃ (p:Addr) (i:Int) (xs:List Int),x=.ref p/\vs=[.int i]/\SqT X.K H p (xs.map V.int)/\i∈xs/\Q (.int (xs.idxOf i)) H):=by
 intro zB s σ H x xs v us Q I rx rv z;obtain ⟨p,i,ns,rfl,rfl,hp,hi,q⟩:=z;cases rx;obtain ⟨u,rfl,ru⟩:=rv.one;obtain ⟨t,rfl⟩:=ru;obtain ⟨its,r,ht,hz⟩:=I.tuple hp;have hl:its.toArray.size=ns.length:=by have:=r.length;simp at this ⊢;omega
 have hj:ns.idxOf i<ns.length:=List.idxOf_lt_length_iff.mpr hi;refine LR.zMw (j:=ns.idxOf i) ht (by omega) ?_ (λm hm hlt=>?_) ⟨.int (ns.idxOf i),H,I.tok _,⟨_,rfl⟩,q⟩
 .obtain ⟨v,e⟩:=zJZ r (m:=ns.idxOf i) (by omega);refine ⟨v,?_⟩;rw[e,zXs,zXr hj];simp
 .obtain ⟨v,e⟩:=zJZ r (m:=m) hm;refine ⟨_,v,e,λz=>?_⟩;have hm':m<ns.length:=by omega
  rw[zXs,zXr hm']at z;have:=List.not_of_lt_findIdx (xs:=ns) (p:=(· == i)) (show m<ns.findIdx (· == i)from hlt);simp at z this;exact this z
end
end L3
namespace ST
open PySem
abbrev Up (xs:Array Nat):Prop:=xs.toList.Pairwise (· < ·)
theorem Up.get (h:Up xs) (hik:i<k) (hk:k<xs.size):xs[i]'(by omega)<xs[k]:=by
 have:=List.pairwise_iff_getElem.mp h i k (by simpa using (show i<xs.size by omega)) (by simpa using hk) hik;simpa using this
theorem zKM (h:Up xs) (j:Nat):∀ (fuel lo hi:Nat),lo<=hi->hi<=xs.size->hi-lo<=fuel->(∀ i (hi':i<xs.size),i<lo->xs[i]<j)->(∀ i (hi':i<xs.size),hi<=i->j<=xs[i]) ->
  (SetTable.below.go xs j fuel lo hi<=xs.size)/\(∀ i (hi':i<xs.size),i<SetTable.below.go xs j fuel lo hi->xs[i]<j)/\(∀ i (hi':i<xs.size),SetTable.below.go xs j fuel lo hi<=i->j<=xs[i])
 |0,lo,hi,h1,h2,h3,a,b=>by
  have:lo=hi:=by omega
  subst this;unfold SetTable.below.go;exact ⟨h2,a,b⟩
 |fuel+1,lo,hi,h1,h2,h3,a,b=>by
  unfold SetTable.below.go;by_cases hl:lo<hi
  .rw[zX2 hl];dsimp only;have hm:(lo+hi) / 2<xs.size:=by omega
   have eg:xs.getD ((lo+hi) / 2) j=xs[(lo+hi) / 2]:=by simp[Array.getD,hm]
   rw[eg];by_cases hc:xs[(lo+hi) / 2]<j
   .rw[zX2 hc];refine zKM h j fuel _ _ (by omega) h2 (by omega) (λi hi' hlt=>?_) b;rcases zY9 i ((lo+hi) / 2)with z|z
    .exact Nat.lt_trans (h.get z hm) hc
    .have:i=(lo+hi) / 2:=by omega
     subst this;exact hc
   .rw[zX5 hc];refine zKM h j fuel _ _ (by omega) (by omega) (by omega) a (λi hi' hge=>?_);rcases zY9 ((lo+hi) / 2) i with z|z
    .have:=h.get z hi';omega
    .have:i=(lo+hi) / 2:=by omega
     subst this;omega
  .rw[zX5 hl];have:lo=hi:=by omega
   subst this;exact ⟨h2,a,b⟩
theorem zDb (h:Up xs) (j:Nat):SetTable.below xs j<=xs.size/\(∀ i (hi':i<xs.size),i<SetTable.below xs j->xs[i]<j)/\(∀ i (hi':i<xs.size),SetTable.below xs j<=i->j<=xs[i]):=by
 unfold SetTable.below;exact zKM h j xs.size 0 xs.size (zYZ _) (zXt _) (by omega) (λi _ z=>by omega) (λi hi' z=>by omega)
theorem zMM (h:Up xs):SetTable.below xs 0=0:=by
 obtain ⟨a,b,c⟩:=zDb h 0;rcases Nat.eq_zero_or_pos (SetTable.below xs 0)with z|z
 .exact z
 .have:=b 0 (by omega) z;omega
theorem zMI (h:Up xs) (hk:k<xs.size):SetTable.below xs (xs[k]+1)=k+1:=by
 obtain ⟨a,b,c⟩:=zDb h (xs[k]+1);rcases Nat.lt_trichotomy (SetTable.below xs (xs[k]+1)) (k+1)with z|z|z
 .have:=c k hk (by omega);omega
 .exact z
 .have h1:k+1<xs.size:=by omega
  have:=b (k+1) h1 z;have:=h.get (show k<k+1 by omega) h1;omega
theorem zGj {α:Type} (xs:Array α) (p:Nat) (x:α):(SetTable.insertAt xs p x).toList=xs.toList.take p++x::xs.toList.drop p:=by
  unfold SetTable.insertAt;simp;have:xs.toList.length<=xs.size:=by simp
  rw[List.take_of_length_le (by simp)]
theorem zPh (h : Up xs) (hj : j ∉ xs.toList) : Up (SetTable.insertAt xs (SetTable.below xs j) j) := by
  obtain ⟨a, b, c⟩ := zDb h j;unfold Up;rw [zGj];rw [List.pairwise_append];have hT : ∀ x ∈ xs.toList.take (SetTable.below xs j), x < j := fun x hx => by
    obtain ⟨i,hi,e⟩:=zZq hx;rw[List.getElem_take]at e;rw[zZB]at hi
    have h1 : i < xs.size := by have : xs.toList.length = xs.size := by simp
                                omega
    have:=b i h1 (by omega);rw[<-e];simpa using this
  have hD : ∀ x ∈ xs.toList.drop (SetTable.below xs j), j < x := fun x hx => by
    obtain ⟨i,hi,e⟩:=zZq hx;rw[List.getElem_drop]at e;rw[List.length_drop]at hi
    have h1 : SetTable.below xs j + i < xs.size := by have : xs.toList.length = xs.size := by simp
                                                      omega
    have h2:=c _ h1 (by omega);have h3:x≠j:=λz=>hj (z▸List.mem_of_mem_drop hx);have e':xs[SetTable.below xs j+i]=x:=by simpa using e
    omega
  refine ⟨h.sublist (List.take_sublist _ _),zZx.mpr ⟨hD,h.sublist (List.drop_sublist _ _)⟩,λx hx y hy=>?_⟩;rcases zXz.mp hy with z|z
  .rw[z];exact hT x hx
  .exact Nat.lt_trans (hT x hx) (hD y z)
theorem zJU (j:Nat):SetTable.has #[] j=false:=by
 unfold SetTable.has;simp
theorem zM4 {t:SetTable} (h:Up t.place) (he:t.slot j=.empty):j∉t.place.toList:=λhm=>by
 obtain ⟨a,b,c⟩:=zDb h j;obtain ⟨k,hk,e⟩:=zZq hm;have hk':k<t.place.size:=by simpa using hk
 have e':t.place[k]=j:=by simpa using e
 have eb:SetTable.below t.place j=k:=by
  rcases Nat.lt_trichotomy (SetTable.below t.place j) k with z|z|z
  .have h1:SetTable.below t.place j<t.place.size:=by omega
   have:=c _ h1 (zXt _);have:=h.get z hk';omega
  .exact z
  .have:=b k hk' z;omega
 unfold SetTable.slot at he;rw[eb,zX2 (by simp[hk',e'])]at he;cases he
theorem zLF (hd:t.dummies = #[]):∀ (fuel:Nat) (p:SetTable.Probe) {j:Nat} {d:Option Nat},p.dummy=none->SetTable.probe.go t hashAt h fuel p=some (.empty j d)->d=none/\t.slot j=.empty
 |0,_,_,_,_,e=>by unfold SetTable.probe.go at e;cases e
 |fuel+1,p,j,d,hp,e=>by
  unfold SetTable.probe.go at e;split at e
  .rename_i hs;cases e;exact ⟨hp,hs⟩
  .rename_i hs;unfold SetTable.slot at hs;dsimp only at hs;rw[hd,zJU]at hs;split at hs <;> first|cases hs|simp at hs
  .split at e
   .cases e
   .refine zLF hd fuel _ ?_ e;unfold SetTable.advance;split <;> simp[hp]
theorem zPQ {t:SetTable} (hu:Up t.place) (hd:t.dummies = #[]) (e:t.freeSlot h=some (j,b)):b=false/\j∉t.place.toList:=by
 unfold SetTable.freeSlot at e;split at e
 .rename_i j' d hp;unfold SetTable.probe at hp;obtain ⟨h1,h2⟩:=zLF hd _ _ (by rfl) hp;subst h1;simp at e;obtain ⟨rfl,rfl⟩:=e;exact ⟨rfl,zM4 hu h2⟩
 .cases e
structure TabOk (w:Yo) (t:SetTable):Prop where
 led:t.led = !w.params.followText "set-order"
 up:Up t.place
 nod:t.dummies = #[]
theorem zRY (n:Nat):Up (Array.range n):=by
 unfold Up;rw[Array.toList_range];exact List.pairwise_lt_range
theorem TabOk.standIn (h:TabOk w t) (n:Nat):TabOk w (t.standIn n):=⟨h.led,zRY n,rfl⟩
theorem TabOk.orStandIn (h:TabOk w t) (n:Nat):TabOk w (t.orStandIn n):=by
 unfold SetTable.orStandIn;split
 .exact h
 .exact h.standIn n
theorem TabOk.put (h:TabOk w t) (hj:j∉t.place.toList):TabOk w (t.put j).1:=by
 unfold SetTable.put;refine ⟨h.led,zPh h.up hj,?_⟩;rw[h.nod,zJU];rfl
theorem TabOk.layNew (h:TabOk w t) (es:Yw) (hh:Int) (x:Yu):TabOk w (layNew t es hh x).2.1:=by
 unfold PySem.layNew;split
 .rename_i j b e;exact (h.put (zPQ h.up h.nod e).2).orStandIn _
 .exact h.standIn _
theorem TabOk.relaid (h:TabOk w t) (e:t.relaid hs wanted=some (t',order)):TabOk w t':=by
 unfold SetTable.relaid SetTable.laid at e;cases q:SetTable.layClean (SetTable.sizeAbove wanted-1) hs with
 |none=>rw[q]at e;cases e
 |some owner=>
  rw[q]at e;simp only[Option.bind_eq_bind,Option.bind_some,Option.pure_def,Option.some.injEq,Prod.mk.injEq]at e;obtain ⟨rfl,_⟩:=e;refine ⟨h.led,?_,rfl⟩;unfold Up;rw[List.pairwise_map,List.pairwise_filterMap];refine List.pairwise_lt_range.imp λ{a b} hab x hx y hy=>?_;cases o1:owner.getD a none with
  |none=>rw[o1]at hx;cases hx
  |some u=>
   cases o2:owner.getD b none with
   |none=>rw[o2]at hy;cases hy
   |some v=>
    rw[o1]at hx;rw[o2]at hy;cases hx;cases hy;exact hab
theorem TabOk.relayAll (h:TabOk w t) (es:Yw) (wanted:Nat):TabOk w (relayAll t es wanted).2.1:=by
 unfold PySem.relayAll;split
 .rename_i t' order e;dsimp only;split
  .exact h.relaid e
  .exact h.standIn _
 .exact h.standIn _
theorem TabOk.plain (h:TabOk w t) (b:Bool):TabOk w { t with plain:=b }:=⟨h.led,h.up,h.nod⟩
theorem TabOk.fresh:TabOk w (SetTable.fresh 0 0 (!w.params.followText "set-order")):=⟨rfl,List.Pairwise.nil,rfl⟩
open Sem (wp)
set_option genInjectivity true in
inductive F2 {α β:Type} (R:α->β->Prop):List α->List β->Prop
 |nil:F2 R [] []
 |cons {x y xs ys}:R x y->F2 R xs ys->F2 R (x::xs) (y::ys)
section
variable {prog:Ym} {w:Yo} {K:Type} [DecidableEq K]
def zUP (knd:KeyKind prog w K) (e:Int × Value) (k:K):Prop:=(knd.is k e.2=true/\e.1=knd.hash k)/\e.2.scannable=true
structure SetK (knd:KeyKind prog w K) (o:Obj) (es:Yw) (ep:Nat) (t:SetTable) (ks:List K):Prop where
 ex:o.ExactSet
 data:o.data=.set es ep t
 tab:TabOk w t
 fits:t.fits es.size=true
 bound:es.size<scanBound
 ent:∃ ks',ks'.Perm ks/\F2 (zUP knd) es.toList ks'
noncomputable def ins (ks:List K) (k:K):List K:=if k∈ks then ks else ks++[k]
variable {knd:KeyKind prog w K} {o:Obj} {es:Yw} {ep:Nat} {t:SetTable} {ks:List K}
theorem zBt {α β:Type} {R:α->β->Prop}:∀ {xs:List α} {ys:List β},F2 R xs ys->xs.length=ys.length
 |_,_,.nil=>rfl
 |_,_,.cons _ h=>by simp[zBt h]
theorem zEV {α β:Type} {R:α->β->Prop}:∀ {xs:List α} {ys:List β},F2 R xs ys -> ∀ x∈xs,∃ y∈ys,R x y
 |_,_,.nil,x,hx=>by cases hx
 |_,_,.cons h r,x,hx=>by
  rcases zXz.mp hx with z|z
  .subst z;exact ⟨_,zX1,h⟩
  .obtain ⟨y,hy,q⟩:=zEV r x z;exact ⟨y,zX0 _ hy,q⟩
theorem zFY {α β:Type} {R:α->β->Prop}:∀ {xs:List α} {ys:List β},F2 R xs ys -> ∀ y∈ys,∃ x∈xs,R x y
 |_,_,.nil,x,hx=>by cases hx
 |_,_,.cons h r,x,hx=>by
  rcases zXz.mp hx with z|z
  .subst z;exact ⟨_,zX1,h⟩
  .obtain ⟨y,hy,q⟩:=zFY r x z;exact ⟨y,zX0 _ hy,q⟩
theorem zEI {α β:Type} {R:α->β->Prop}:∀ {xs:List α} {ys:List β} {us:List α} {vs:List β},F2 R xs ys->F2 R us vs->F2 R (xs++us) (ys++vs)
 |_,_,_,_,.nil,h=>h
 |_,_,_,_,.cons h r,q=> .cons h (zEI r q)
theorem zFh {α β:Type} {R:α->β->Prop} {xs xs':List α} (p:xs'.Perm xs):∀ {ys:List β},F2 R xs ys -> ∃ ys',ys'.Perm ys/\F2 R xs' ys':=by
 have p':=p.symm;clear p;induction p' with
 |nil=>intro ys h;exact ⟨ys,.refl _,h⟩
 |cons x _ ih=>
  intro ys h;cases h with
  |cons h r=>
   obtain ⟨ys',q1,q2⟩:=ih r;exact ⟨_,q1.cons _,.cons h q2⟩
 |swap x y l=>
  intro ys h;cases h with
  |cons h r=>
   cases r with
   |cons h2 r=>
    exact ⟨_,List.Perm.swap _ _ _,.cons h2 (.cons h r)⟩
 |trans _ _ ih1 ih2=>
  intro ys h;obtain ⟨ys',q1,q2⟩:=ih1 h;obtain ⟨ys'',r1,r2⟩:=ih2 q2;exact ⟨ys'',r1.trans q1,r2⟩
theorem SetK.size (h:SetK knd o es ep t ks):es.size=ks.length:=by
 obtain ⟨ks',p,f⟩:=h.ent;rw[<-p.length_eq,<-zBt f,zYW]
theorem SetK.elems (h:SetK knd o es ep t ks):ElemsOf knd es.toList:=λe he=>by
 obtain ⟨ks',p,f⟩:=h.ent;obtain ⟨k,_,q⟩:=zEV f e he;exact ⟨⟨k,q.1⟩,q.2⟩
theorem SetK.mem (h:SetK knd o es ep t ks) (k:K):k∈ks ↔ ∃ e∈es.toList,knd.is k e.2=true:=by
 obtain ⟨ks',p,f⟩:=h.ent;rw[<-p.mem_iff];constructor
 .intro hk;obtain ⟨e,he,q⟩:=zFY f k hk;exact ⟨e,he,q.1.1⟩
 .rintro ⟨e,he,q⟩;obtain ⟨k',hk',q'⟩:=zEV f e he;rw[knd.inj e.2 k k' q q'.1.1];exact hk'
variable {A:Yn} {E:Yc} {s:Yl} {a:Yt} {k:K} {x:Yu}
theorem SetK.typeIs (h:SetK knd o es ep t ks) (ho:s.heap.get? a=some o):s.TypeIs (.ref a) "set" := ⟨o,ho,h.ex.1⟩
theorem zI7 {h:Heap} (ho:h.get? a=some o) (hd:o.data=.set es ep t) :
  (h.update a (Obj.putSet es' t')).get? a=some { o with data:=.set es' (ep+1) t' }:=by
 have:=zYa (Obj.putSet es' t') ho (by rw[putSet_of es' t' hd];rfl);rw[putSet_of es' t' hd]at this;exact this
theorem zD1 {Q:Bool->Shared->Prop} (hkey:knd.is k x=true) (hsc:x.scannable=true) (ho:s.heap.get? a=some o) (hS:SetK knd o es ep t ks) (hroom:ks.length+1<scanBound)
  (h:∀ h' o' es' ep' t' b,Heap.SameBut a s.heap h'->h'.get? a=some o'->SetK knd o' es' ep' t' (ins ks k)->Q b { s with heap:=h' }) :
  wpAny (model prog w) A (setAddHashed a x (knd.hash k)) Q E s:=by
 have hd:=hS.data;have hf:=hS.fits;have hel:=hS.elems;have hb:=hS.bound;have hb1:es.size+1<scanBound:=by rw[hS.size];exact hroom
 unfold setAddHashed setAddHashedIn;refine zYg (zXn (wpAny_setState_of ho hd hf ?_));dsimp only;rw[byScan_of hsc hb hel];simp only[↓reduceIte];unfold setAddByScan;refine zXn ?_;refine zXn (zZA ?_);refine zXn (wpAny_setScan_of hkey ho hd hf hel ?_);cases hr:List.findIdx? (λe=>knd.is k e.2) es.toList with
 |some j=>
  obtain ⟨hj,hpj,_⟩:=List.findIdx?_eq_some_iff_getElem.mp hr;have hSk:k∈ks:=(hS.mem k).mpr ⟨es.toList[j],zYL hj,hpj⟩;refine zXp (zXp ?_);have e:s={ s with heap:=s.heap }:=by cases s;rfl
  rw[e];refine h s.heap o es ep t _ (Heap.SameBut.refl a s.heap) ho ?_;unfold ins;rw[zX2 hSk];exact hS
 |none=>
  have hSk:k∉ks:=λhk=>by
   obtain ⟨e,he,hp⟩:=(hS.mem k).mp hk;have:=List.findIdx?_eq_none_iff.mp hr e he;rw[hp]at this;exact Bool.noConfusion this
  have hgw:∀ (b:Bool) {s₁:Shared} {Q':Unit->Shared->Prop},Q' () s₁->wpAny (model prog w) A (match b with|true=>rule "set.scan.the-table-gave-way" |false=>pure ()) Q' E s₁ :=
   λb s₁ Q' hq=>by cases b <;> first|exact zXp hq|exact zZA hq
  have hperm:=layNew_perm t es (knd.hash k) x;have hfits:=layNew_fits t es (knd.hash k) x;have htab:=hS.tab.layNew es (knd.hash k) x;generalize hL:layNew t es (knd.hash k) x=L at hperm hfits htab ⊢;obtain ⟨es1,t1,wasDummy,gave⟩:=L;rw[Array.toList_push]at hperm;have hb1':es1.size<scanBound:=by rw[<-zYW,hperm.length_eq,zX3,zYW];simpa using hb1
  obtain ⟨ks',p,f⟩:=hS.ent;have f1:F2 (zUP knd) (es.toList++[(knd.hash k,x)]) (ks'++[k]):=zEI f (.cons ⟨⟨hkey,rfl⟩,hsc⟩ .nil);obtain ⟨ks1,p1,f2⟩:=zFh hperm f1;have pI:ks1.Perm (ins ks k):=by
   unfold ins;rw[zX5 hSk];exact p1.trans (p.append_right _)
  refine zXn (hgw _ ?_)
  have tail:∀ t2:SetTable,TabOk w t2->t2.fits es1.size=true->wpAny (model prog w) A (do
    storeSet a es1 t2
    if (!wasDummy&&t2.tooFull)=true then do
      (match (relayAll t2 es1 (SetTable.grown es1.size)).2.2 with|true=>rule "set.scan.the-table-gave-way" |false=>pure ())
      storeSet a (relayAll t2 es1 (SetTable.grown es1.size)).1 (relayAll t2 es1 (SetTable.grown es1.size)).2.1;pure (some true)
     else pure (some true)) (λr s'=>wpAny (model prog w) A (match r with|some added=>pure added|none=>setAddHashedIn a x (knd.hash k) 99999) Q E s') E s:=by
   intro t2 T2 F2;refine zXn (wpAny_storeSet_of ho hd ?_ (fits_of_scanBound hb1'));have g1:=zI7 (es':=es1) (t':=t2) ho hd;have sb1:=zYq s.heap a (Obj.putSet es1 t2);have S1:SetK knd { o with data:=.set es1 (ep+1) t2 } es1 (ep+1) t2 (ins ks k):=⟨hS.ex,rfl,T2,F2,hb1',ks1,pI,f2⟩;split
   .have hp:=relayAll_perm t2 es1 (SetTable.grown es1.size);have hfr:=relayAll_fits t2 es1 (SetTable.grown es1.size);have htr:=T2.relayAll es1 (SetTable.grown es1.size);generalize hRl:relayAll t2 es1 (SetTable.grown es1.size)=Rl at hp hfr htr ⊢;obtain ⟨es2,t3,gave2⟩:=Rl;have hsz:es2.size=es1.size:=by rw[<-zYW,hp.length_eq,zYW]
    have hb2:es2.size<scanBound:=by rw[hsz];exact hb1'
    obtain ⟨ks2,p2,f3⟩:=zFh hp f2;refine zXn (hgw _ ?_);refine zXn (wpAny_storeSet_of g1 rfl ?_ (fits_of_scanBound hb2));have g2:=zI7 (es':=es2) (t':=t3) g1 rfl;exact zXp (zXp (h _ _ _ _ _ _ (sb1.trans (zYq _ a _)) g2 ⟨hS.ex,rfl,htr,hfr,hb2,ks2,p2.trans pI,f3⟩))
   .exact zXp (zXp (h _ _ _ _ _ _ sb1 g1 S1))
  split
  .refine zXn ?_;rw[hashByValue_scannable 8 hsc];refine zXp ?_;refine tail _ ?_ ?_
   .split
    .exact htab
    .exact htab.plain _
   .split
    .exact hfits
    .exact SetTable.fits_plain_off hfits
  .refine zXn (zXp ?_);simp only[↓reduceIte];exact tail _ htab hfits
theorem zRD (hkey:knd.is k x=true) (hsc:x.scannable=true) (ho:s.heap.get? a=some o) (hS:SetK knd o es ep t ks) (hroom:ks.length+1<scanBound)
  (h:∀ h' o' es' ep' t',Heap.SameBut a s.heap h'->h'.get? a=some o'->SetK knd o' es' ep' t' (ins ks k)->Q .none { s with heap:=h',toks:=s.toks+1 }) :
  wpAny (model prog w) A (call (.builtin "set.add") [.ref a,x]) Q E s:=by
 refine zYQ F.slot_set_add (hS.typeIs ho) F.entry_set_add ?_ (F.args_set_add_2 _ _);unfold Builtin.«set.add» Builtin.Frozenset.oneOther;simp only[List.isEmpty_nil,bind_assoc];unfold Builtin.Frozenset.addrOf setAdd;refine zXn (zXp ?_);try dsimp only
 refine zXn (zXp ?_);try dsimp only
 refine zXn ?_;refine zYg ?_;refine zXn (knd.pyHash hkey ?_);refine zD1 (s:={ s with toks:=s.toks+1 }) hkey hsc ho hS hroom λh' o' es' ep' t' b hsb ho' hS'=>?_;exact zXp ⟨_,rfl,h h' o' es' ep' t' hsb ho' hS'⟩
noncomputable def zi (w:World):Obj:={ cls:=.type "set", dict:=none,data:=.set #[] 0 (.fresh 0 0 (!w.params.followText "set-order")) }
theorem SetK.fresh:SetK knd (zi w) #[] 0 (.fresh 0 0 (!w.params.followText "set-order")) []:=⟨⟨rfl,rfl,rfl⟩,rfl,.fresh,by rfl,by decide,[],.refl _,.nil⟩
theorem zOf (h:Q (.ref s.heap.objs.size) { s with heap:=s.heap.push (zi w) }) :
  wpAny (model prog w) A (newSet (.type "set")) Q E s:=by
 unfold newSet setsByText;refine zXn (zXn (wpAny_askSetting (zXp ?_)));simp only[newObj];exact zXn (wpAny_alloc (zXp h))
end
open PySem.Spec PyProof.Rows
open Sem (wp)
theorem zK8:Manifest.owners.lookup (String.ofList ['r','o','t','a','r','e','t','i','_','t','e','s'].reverse)=some Manifest.sig_set_iterator:=by kernel_rfl
theorem zAN:Slot "set_iterator" "__next__" "set_iterator.__next__" := .of (owner := "set_iterator") (n := "__next__") (by rw[typeLookup_type,builtinLookup_eq_fast];kernel_rfl) (by decide +kernel) (by decide +kernel) (by decide +kernel) (by first|exact .inl (by decide +kernel)|exact .inr (by decide +kernel)) (by rw[isSubtype_type];kernel_rfl)
theorem zFR:Slot "set_iterator" "__iter__" "set_iterator.__iter__" := .of (owner := "set_iterator") (n := "__iter__") (by rw[typeLookup_type,builtinLookup_eq_fast];kernel_rfl) (by decide +kernel) (by decide +kernel) (by decide +kernel) (by first|exact .inl (by decide +kernel)|exact .inr (by decide +kernel)) (by rw[isSubtype_type];kernel_rfl)
theorem zCT (a:Value):argsOk "set_iterator.__next__" ⟨[a],[]⟩:=by
 unfold argsOk;rw[signature?_of (id := "set_iterator.__next__") (n:=['_','_','t','x','e','n','_','_']) (o:=['r','o','t','a','r','e','t','i','_','t','e','s']) (by kernel_rfl) zK8];kernel_rfl
theorem zJn (a:Value):argsOk "set_iterator.__iter__" ⟨[a],[]⟩:=by
 unfold argsOk;rw[signature?_of (id := "set_iterator.__iter__") (n:=['_','_','r','e','t','i','_','_']) (o:=['r','o','t','a','r','e','t','i','_','t','e','s']) (by kernel_rfl) zK8];kernel_rfl
theorem zB8:entryFor table "set_iterator.__next__" = some Builtin.«set_iterator.__next__»:=entryFor_of_tree (by kernel_rfl)
theorem zIX:entryFor table "set_iterator.__iter__" = some Builtin.«dict_keyiterator.__iter__» :=
 entryFor_alias (id' := "dict_keyiterator.__iter__") (by kernel_rfl) (by first|rfl|decide +kernel|(unfold String.splitOn;simp +decide [String.splitOnAux])) (by decide +kernel) (by kernel_rfl)
theorem zHY:entryFor table "set.__iter__" = some Builtin.«frozenset.__iter__» :=
 entryFor_alias (id' := "frozenset.__iter__") (by kernel_rfl) rfl (by decide +kernel) (by kernel_rfl)
noncomputable def zBS (f:Value) (i:Nat) (a:Addr) (n ep:Nat):Obj:={ cls:=.type "set_iterator", data:=.fields #[f,rawInt i,.ref a,rawInt n,rawInt ep] }
theorem zE7 {α:Type}:∀ {l:List α} {i:Nat} (h:i<l.length),(l[i]::l.eraseIdx i).Perm l
 |[],i,h=>by simp at h
 |x::l,0,h=>by simp
 |x::l,i+1,h=>by
  have:=zE7 (l:=l) (i:=i) (by simpa using h);rw[List.getElem_cons_succ,List.eraseIdx_cons_succ];exact (List.Perm.swap _ _ _).trans (this.cons x)
theorem zIj {α:Type} {l:List α} (h:i<l.length) (e:n+1=l.length):n=(l.eraseIdx i).length:=by
 rw[List.length_eraseIdx,zX2 h];omega
theorem zI6 {α:Type} (next:Nat->Nat):∀ (fuel k:Nat) (left:List α) (out:Array α),fuel=left.length->(pickOrder.go next fuel k left out).toList.Perm (out.toList++left)
 |0,k,left,out,h=>by
  have:left=[]:=List.length_eq_zero_iff.mp h.symm;subst this;unfold pickOrder.go;simp
 |fuel+1,k,left,out,h=>by
  unfold pickOrder.go;have hl:0<left.length:=by omega
  have hm:next k % left.length<left.length:=Nat.mod_lt _ hl
  rw[zXr hm];refine (zI6 next fuel (k+1) _ _ (zIj hm h)).trans ?_;rw[Array.toList_push,zYt];exact (zE7 hm).append_left _
theorem zES {α:Type} (next:Nat->Nat) (xs:Array α):(pickOrder next xs).toList.Perm xs.toList:=by
 unfold pickOrder;simpa using zI6 next xs.size 0 xs.toList #[] (by simp)
section
variable {prog:Ym} {w:Yo} {A:Yn} {E:Yc} {s:Yl}
theorem zKi (h0:n≠0) (h:∀ r d,r<n->Q r { s with drawn:=d }):wpAny (model prog w) A (choose src n) Q E s :=
 λΓ p hΓ=>⟨h0,h _ _ (Nat.mod_lt _ (by omega))⟩
theorem zD4 {α:Type}:∀ (n:Nat) (xs:List α) {s:Yl} {Q:List α->Shared->Prop},n=xs.length->(∀ ys d,ys.Perm xs->Q ys { s with drawn:=d })->wpAny (model prog w) A (drawOrder n xs) Q E s
 |0,xs,s,Q,h,q=>by
  have:xs=[]:=List.length_eq_zero_iff.mp h.symm;subst this;have e:s={ s with drawn:=s.drawn }:=by cases s;rfl
  rw[e];exact zXp (q [] s.drawn (.refl _))
 |n+1,[],s,Q,h,q=>by cases h
 |n+1,x::xs,s,Q,h,q=>by
  unfold drawOrder;refine zXn (zKi (by simp) λr d hr=>?_);rw[zXr hr];refine zXn (zD4 n _ (zIj hr h) λys d' hp=>zXp ?_);exact q _ d' ((hp.cons _).trans (zE7 hr))
variable {K:Type} [DecidableEq K] {knd:KeyKind prog w K} {o:Obj} {es:Yw} {ep:Nat} {t:SetTable} {ks:List K} {a I:Yt}
theorem zHq (h:s.heap.get? I=some (zBS f i a n ep)):s.TypeIs (.ref I) "set_iterator" := ⟨_,h,rfl⟩
theorem zOB (hI:s.heap.get? I=some (zBS f i a n ep)) (h:Q (.ref I) s):wpAny (model prog w) A (pyIter (.ref I)) Q E s:=by
 refine wpAny_pyIter_slot (zHq hI) zFR (zYQ zFR (zHq hI) zIX ?_ (zJn _));exact zXp ⟨_,rfl, "set_iterator", _,zHq hI,zAN.lookup,h⟩
structure Nexts (prog:Ym) (w:Yo) (o:Obj) (a:Yt) (ep:Nat) (n:Nat) (at_:Nat->Nat) (ord:Yf):Prop where
 len:ord.length=n
 nx:∀ (A:Yn) (E:Yc) (i:Nat) (s:Yl) (Q:Option (Value × Nat)->Shared->Prop),i<=n->s.heap.get? a=some o->Q ((ord[i]?).map λx=>(x,at_ (i+1))) s->wpAny (model prog w) A (setNext a (at_ i) i ep) Q E s
theorem zPe (N:Nexts prog w o a ep ks.length at_ ord) (hS:SetK knd o es ep t ks) (hI:s.heap.get? I=some (zBS (rawInt (at_ i)) i a ks.length ep)) (ho:s.heap.get? a=some o)
  (hx:ord[i]?=some x) (hQ:∀ h',h'.get? I=some (zBS (rawInt (at_ (i+1))) (i+1) a ks.length ep)->Heap.SameBut I s.heap h'->Q (some x) { s with heap:=h' }):wpAny (model prog w) A (pyNext (.ref I)) Q E s:=by
 have hT:=zHq hI;have hi:i<ks.length:=by have:=(zXq.mp hx).1;rw[N.len]at this;exact this
 unfold pyNext;refine zXn (wpAny_attempt (zYP (name:=Str.ofString "__next__") hT zAN (zYQ zAN hT zB8 ?_ (zCT _))));unfold Builtin.«set_iterator.__next__» slotArgs;simp only[List.isEmpty_nil,Bool.not_true,zYo,↓reduceIte,List.length_nil,bne_self_eq_false,pure_bind,bind_assoc];refine zXn (wpAny_fieldsOf hI rfl ?_);dsimp only[rawInt];refine zXn (wpAny_setEntries_of ho hS.data hS.fits ?_);rw[zX5 (by rw[hS.size];simp)];refine zXn (N.nx _ _ i s _ (by omega) ho ?_);rw[hx];dsimp only[Option.map];refine zXn (wpAny_setField hI rfl (by simp) ?_);have e1:=zYa (Obj.mapFields λvs=>vs.set! 0 (rawInt (at_ (i+1)))) hI (Obj.isFreed_of_fields (zY4 rfl _));refine zXn (wpAny_setField e1 (zY4 rfl _) (by simp) ?_);have e2:=zYa (Obj.mapFields λvs=>vs.set! 1 (rawInt ((i:Int)+1))) e1 (Obj.isFreed_of_fields (zY4 (zY4 rfl _) _));refine zXp ⟨x,rfl,zXp (hQ _ ?_ ((zYq ..).trans (zYq ..)))⟩;refine e2.trans ?_;simp[Obj.mapFields,zBS,rawInt]
end
open Sem (wp)
section
variable {prog:Ym} {w:Yo} {A:Yn} {E:Yc} {s:Yl}
variable {K:Type} [DecidableEq K] {knd:KeyKind prog w K} {o:Obj} {es:Yw} {ep:Nat} {t:SetTable} {ks:List K} {a I:Yt}
theorem zRG (hh:A.handled=none) (N:Nexts prog w o a ep ks.length at_ ord) (hS:SetK knd o es ep t ks) (hI:s.heap.get? I=some (zBS (rawInt (at_ ks.length)) ks.length a ks.length ep)) (ho:s.heap.get? a=some o)
  (hQ:∀ h',Heap.ExtBut I s.heap h'->Q none { s with heap:=h' }):wpAny (model prog w) A (pyNext (.ref I)) Q E s:=by
 have hT:=zHq hI;unfold pyNext;refine zXn (wpAny_attempt (zYP (name:=Str.ofString "__next__") hT zAN (zYQ zAN hT zB8 ?_ (zCT _))));unfold Builtin.«set_iterator.__next__» slotArgs;simp only[List.isEmpty_nil,Bool.not_true,zYo,↓reduceIte,List.length_nil,bne_self_eq_false,pure_bind,bind_assoc];refine zXn (wpAny_fieldsOf hI rfl ?_);dsimp only[rawInt];refine zXn (wpAny_setEntries_of ho hS.data hS.fits ?_);rw[zX5 (by rw[hS.size];simp)];refine zXn (N.nx _ _ ks.length s _ (zXt _) ho ?_);rw[zYw (by rw[N.len];exact zXt _)];dsimp only[Option.map];refine zXn (wpAny_setField hI rfl (by simp) ?_);simp only[newExc,newTuple,bind_assoc,pure_bind];refine zXn (zYG (zXn (m:=firstArgMember _ _) (wpAny_of_eq (a:=Value.none) (by first|rfl|(simp only[firstArgMember];rfl)) (zXn (zYG ?_ (by size_fits))))) (by size_fits));simp only[raiseNew];refine zXn (wpAny_handled ?_);rw[show A.in1.handled=none from hh];refine zXn (zXp (wpAny_throw ?_));refine zXn (wpAny_isInstance (T := "StopIteration") (b:=true) ⟨_,zXx _ rfl,rfl⟩ isSubtype_stop (zXp ?_));exact hQ _ (((zYq ..).extBut.push _).push _)
theorem zK0 (hh:A.handled=none) (hne:a≠I) (N:Nexts prog w o a ep ks.length at_ ord) (hS:SetK knd o es ep t ks) :
  Walks prog w A I [I,a] [I] ks.length (λi v=>ord[i]?=some v) (λi h=>h.get? I=some (zBS (rawInt (at_ i)) i a ks.length ep)/\h.get? a=some o) where
 sub:=λb hb=>by simp at hb;simp[hb]
 frame:=λ_ _ _ st hk=>⟨hk I (by simp) _ st.1,hk a (by simp) _ st.2⟩;item:=λi s Q E hi st hQ=>by
  have hx:ord[i]?=some (ord[i]'(by rw[N.len];exact hi)):=zXr _;refine zPe N hS st.1 st.2 hx λh' hI' hs'=>?_;exact hQ _ h' s.toks hx ⟨hI',hs'.extBut a o hne st.2⟩ λb u hb ee=>hs'.extBut b u (λh=>hb (by simp[h])) ee
 done:=λs Q E st hQ=>zRG hh N hS st.1 st.2 λh' he'=>hQ h' s.toks λb u hb ee=>he' b u (λh=>hb (by simp[h])) ee;self:=λ_ _ _ _ st hQ=>zOB st.1 hQ
theorem zMf {pl:Yj} (hS:SetK knd o es ep t ks) (hl:pl.length=ks.length) (hI:s.heap.get? I=some (zBS (.ref T) i a ks.length ep)) (ho:s.heap.get? a=some o)
  (hT:IsTup s.heap T (pl.map λ(k:Nat)=>rawInt k).toArray)
  (hx:(pl[i]?).bind (λk=>(es[k]?).map (·.2))=some x) (hQ:∀ h',h'.get? I=some (zBS (.ref T) (i+1) a ks.length ep)->Heap.SameBut I s.heap h'->Q (some x) { s with heap:=h' }):wpAny (model prog w) A (pyNext (.ref I)) Q E s:=by
 have hTy:=zHq hI;obtain ⟨oT,hoT,hcT,nT,hdT⟩:=id hT;cases hp:pl[i]? with
 |none=>rw[hp]at hx;cases hx
 |some k=>
  rw[hp]at hx;cases he:es[k]? with
  |none=>simp only[Option.bind_some]at hx;rw[he]at hx;cases hx
  |some e=>
   simp only[Option.bind_some]at hx;rw[he]at hx;cases hx;unfold pyNext;refine zXn (wpAny_attempt (zYP (name:=Str.ofString "__next__") hTy zAN (zYQ zAN hTy zB8 ?_ (zCT _))));unfold Builtin.«set_iterator.__next__» slotArgs;simp only[List.isEmpty_nil,Bool.not_true,zYo,↓reduceIte,List.length_nil,bne_self_eq_false,pure_bind,bind_assoc];refine zXn (wpAny_fieldsOf hI rfl ?_);dsimp only[rawInt];refine zXn (wpAny_setEntries_of ho hS.data hS.fits ?_);rw[zX5 (by rw[hS.size];simp)];refine zXn (zYd hoT hdT ?_);dsimp only;have e5:(List.map (λ(k:Nat)=>rawInt k) pl).toArray[(i:Int).toNat]?=some (rawInt k):=by simp[hp]
   rw[e5];dsimp only[rawInt];unfold setNextDrawn;simp only[bind_assoc];refine zXn (wpAny_setState_of ho hS.data hS.fits ?_);rw[zX5 (by simp)];have e6:es[(k:Int).toNat]?=some e:=by simpa using he
   rw[e6];obtain ⟨e1,e2⟩:=e;simp only[pure_bind];refine zXn (wpAny_setField hI rfl (by simp) ?_);refine zXp ⟨e2,rfl,zXp (hQ _ ?_ (zYq ..))⟩;refine (zYa _ hI (Obj.isFreed_of_fields (zY4 rfl _))).trans ?_;simp[Obj.mapFields,zBS,rawInt]
theorem zOU {pl:Yj} (hh:A.handled=none) (hS:SetK knd o es ep t ks) (hl:pl.length=ks.length) (hI:s.heap.get? I=some (zBS (.ref T) ks.length a ks.length ep)) (ho:s.heap.get? a=some o)
  (hT:IsTup s.heap T (pl.map λ(k:Nat)=>rawInt k).toArray) (hQ:∀ h',Heap.ExtBut I s.heap h'->Q none { s with heap:=h' }):wpAny (model prog w) A (pyNext (.ref I)) Q E s:=by
 have hTy:=zHq hI;obtain ⟨oT,hoT,hcT,nT,hdT⟩:=id hT;unfold pyNext;refine zXn (wpAny_attempt (zYP (name:=Str.ofString "__next__") hTy zAN (zYQ zAN hTy zB8 ?_ (zCT _))));unfold Builtin.«set_iterator.__next__» slotArgs;simp only[List.isEmpty_nil,Bool.not_true,zYo,↓reduceIte,List.length_nil,bne_self_eq_false,pure_bind,bind_assoc];refine zXn (wpAny_fieldsOf hI rfl ?_);dsimp only[rawInt];refine zXn (wpAny_setEntries_of ho hS.data hS.fits ?_);rw[zX5 (by rw[hS.size];simp)];refine zXn (zYd hoT hdT ?_);dsimp only;have e5:(List.map (λ(k:Nat)=>rawInt k) pl).toArray[(ks.length:Int).toNat]?=none:=by simp[hl]
 rw[e5];dsimp only[rawInt];refine zXn (wpAny_setField hI rfl (by simp) ?_);have e1:=zYa (Obj.mapFields λvs=>vs.set! 0 (rawInt 0)) hI (Obj.isFreed_of_fields (zY4 rfl _));refine zXn (wpAny_setField e1 (zY4 rfl _) (by simp) ?_);simp only[newExc,newTuple,bind_assoc,pure_bind];refine zXn (zYG (zXn (m:=firstArgMember _ _) (wpAny_of_eq (a:=Value.none) (by first|rfl|(simp only[firstArgMember];rfl)) (zXn (zYG ?_ (by size_fits))))) (by size_fits));simp only[raiseNew];refine zXn (wpAny_handled ?_);rw[show A.in1.handled=none from hh];refine zXn (zXp (wpAny_throw ?_));refine zXn (wpAny_isInstance (T := "StopIteration") (b:=true) ⟨_,zXx _ rfl,rfl⟩ isSubtype_stop (zXp ?_));exact hQ _ ((((zYq ..).trans (zYq ..)).extBut.push _).push _)
theorem zLc {pl:Yj} (hh:A.handled=none) (hne:a≠I) (hneT:T≠I) (hS:SetK knd o es ep t ks) (hl:pl.length=ks.length) (hb:∀ k∈pl,k<es.size) :
  Walks prog w A I [I,a,T] [I] ks.length (λi v=>(pl[i]?).bind (λk=>(es[k]?).map (·.2))=some v) (λi h=>h.get? I=some (zBS (.ref T) i a ks.length ep)/\h.get? a=some o/\IsTup h T (pl.map λ(k:Nat)=>rawInt k).toArray) where
 sub:=λb hb=>by simp at hb;simp[hb]
 frame:=λ_ _ _ st hk=>⟨hk I (by simp) _ st.1,hk a (by simp) _ st.2.1,let ⟨oT,ho,r⟩:=st.2.2;⟨oT,hk T (by simp) oT ho,r⟩⟩;item:=λi s Q E hi st hQ=>by
  have hi':i<pl.length:=by rw[hl];exact hi
  have hk:pl[i]<es.size:=hb _ (zYL hi');have hx:(pl[i]?).bind (λk=>(es[k]?).map (·.2))=some (es[pl[i]].2):=by
   rw[zXr hi'];simp[hk]
  refine zMf hS hl st.1 st.2.1 st.2.2 hx λh' hI' hs'=>?_;exact hQ _ h' s.toks hx ⟨hI',hs'.extBut a o hne st.2.1,st.2.2.extBut hs'.extBut hneT⟩ λb u hb ee=>hs'.extBut b u (λh=>hb (by simp[h])) ee
 done:=λs Q E st hQ=>zOU hh hS hl st.1 st.2.1 st.2.2 λh' he'=>hQ h' s.toks λb u hb ee=>he' b u (λh=>hb (by simp[h])) ee;self:=λ_ _ _ _ st hQ=>zOB st.1 hQ
end
open Sem (wp)
theorem zOY {prog:Ym} {w:Yo} {A:Yn} {I:Yt} {fp wr:Yg} {n:Nat} {P P':Nat->Value->Prop} {St:Nat->Heap->Prop} (W:Walks prog w A I fp wr n P St) (h:∀ i v,P i v->P' i v):Walks prog w A I fp wr n P' St where
 sub:=W.sub;frame:=W.frame;item:=λi s Q E hi st hQ=>W.item i s Q E hi st λv h' tk hP=>hQ v h' tk (h i v hP);done:=W.done;self:=W.self
section
variable {prog:Ym} {w:Yo} {A:Yn} {E:Yc} {s:Yl}
variable {K:Type} [DecidableEq K] {knd:KeyKind prog w K} {o:Obj} {es:Yw} {ep:Nat} {t:SetTable} {ks:List K} {a I:Yt}
theorem zC8 (h:Q (w.params.followText "set-order") s):wpAny (model prog w) A setsByText Q E s:=by
 unfold setsByText;exact zXn (wpAny_askSetting (zXp h))
theorem zM5 (hS:SetK knd o es ep t ks) (hT:w.params.followText "set-order" = true):Nexts prog w o a ep ks.length (λ_=>0) ((pickOrder (w.params.setOrder a ep) es).toList.map (·.2)) where
 len:=by rw[zXw,(zES _ es).length_eq,zYW,hS.size]
 nx:=λA E i s Q hi ho hQ=>by
  unfold setNext;refine zXn (wpAny_setState_of ho hS.data hS.fits ?_);refine zXn (zC8 ?_);rw[hT,zX2 rfl,zX5 (by simp)];refine zXn ?_;unfold setWalk;refine zXn (wpAny_setState_of ho hS.data hS.fits ?_);refine zXn (zC8 ?_);rw[hT,zX2 rfl];refine zXn (wpAny_askSetting (zXp ?_));refine zXp ?_;have e:(Option.map (λ(e:Int × Value)=>(e.2,0)) (pickOrder (w.params.setOrder a ep) es)[i]?)=Option.map (λx=>(x,0)) ((pickOrder (w.params.setOrder a ep) es).toList.map (·.2))[i]?:=by
   rw[zYA,Array.getElem?_toList];cases (pickOrder (w.params.setOrder a ep) es)[i]? <;> rfl
  show Q (Option.map (λ(e:Int × Value)=>(e.2,0)) (pickOrder (w.params.setOrder a ep) es)[i]?) s;rw[e];exact hQ
noncomputable def zND (t:SetTable):Nat->Nat
 |0=>0
 |i+1=>t.place.getD i 0+1
theorem zRv (h:Up t.place) (hi:i<=t.place.size):SetTable.below t.place (zND t i)=i:=by
 cases i with
 |zero=>exact zMM h
 |succ i=>
  show SetTable.below t.place (t.place.getD i 0+1)=i+1;have hl:i<t.place.size:=by omega
  have e:t.place.getD i 0=t.place[i]:=by simp[Array.getD,hl]
  rw[e];exact zMI h hl
theorem zPB (hS:SetK knd o es ep t ks):t.place.size=es.size:=by
 have:=hS.fits;simp only[SetTable.fits,zYN,beq_iff_eq]at this;exact this.1
theorem zLY (hS:SetK knd o es ep t ks) (hT:w.params.followText "set-order" = false) (hd:(!t.plain&&decide (es.size>1))=false):Nexts prog w o a ep ks.length (zND t) (es.toList.map (·.2)) where
 len:=by rw[zXw,zYW,hS.size]
 nx:=λA E i s Q hi ho hQ=>by
  have hz:=zPB hS;unfold setNext;refine zXn (wpAny_setState_of ho hS.data hS.fits ?_);refine zXn (zC8 ?_);rw[hT,zX5 (by decide)];show wpAny _ _ (if (!t.plain&&decide (es.size>1))=true then _ else _) _ _ _;rw[zX5 (by rw[hd];decide)];have hl:t.led=true:=by rw[hS.tab.led,hT];rfl
  refine zXn ?_;show wpAny _ _ (if (!t.led && !es.isEmpty)=true then unsupported "set:maker-not-led" else pure ()) _ _ _;rw[zX5 (by rw[hl];simp)];refine zXp ?_;rw[zRv hS.tab.up (by rw[hz,hS.size];exact hi)];refine zXp ?_;rw[zYA,Array.getElem?_toList]at hQ;by_cases q:i<es.size
  .have q2:i<t.place.size:=by rw[hz];exact q
   rw[zYY q,zYY q2];rw[zYY q]at hQ;have e:zND t (i+1)=t.place[i]+1:=by
    show t.place.getD i 0+1=_;simp[Array.getD,q2]
   simp only[Option.map]at hQ;rw[e]at hQ;exact hQ
  .have:i=es.size:=by rw[hS.size]at q ⊢;omega
   rw[Array.getElem?_eq_none (by omega)]at hQ ⊢;exact hQ
theorem zRt (ho:s.heap.get? a=some o) (hS:SetK knd o es ep t ks)
  (h:∀ (h':Heap) (d:Drawn) (I:Yt) (fp:Yg) (ord:Yf) (St:Nat->Heap->Prop),(∀ b u,s.heap.get? b=some u->h'.get? b=some u)->s.heap.objs.size<=I->(∀ b∈fp,b<h'.objs.size/\(b=a\/s.heap.objs.size<=b)) ->
   (∀ A:Around,A.handled=none->Walks prog w A I fp [I] ks.length (λi v=>ord[i]?=some v) St)->St 0 h'->ord.Perm (es.toList.map (·.2))->Q (.ref I) { s with heap:=h',drawn:=d }) :
  wpAny (model prog w) A (pyIter (.ref a)) Q E s:=by
 have hT:=hS.typeIs ho;have hal:a<s.heap.objs.size:=zXy ho;refine wpAny_pyIter_slot hT F.slot_set_iter (zYQ F.slot_set_iter hT zHY ?_ (F.args_set_iter_1 _));unfold Builtin.«frozenset.__iter__» Builtin.Frozenset.slot0 slotArgs Builtin.Frozenset.addrOf Builtin.Frozenset.sizeOf;simp only[List.isEmpty_nil,Bool.not_true,zYo,↓reduceIte,List.length_nil,bne_self_eq_false,pure_bind,bind_assoc];refine zXn (wpAny_setEntries_of ho hS.data hS.fits ?_);unfold setDrawn;simp only[bind_assoc];refine zXn (wpAny_setState_of ho hS.data hS.fits ?_);refine zXn (zC8 ?_);simp only[pure_bind];have hsz:=hS.size;have plain:∀ (at_:Nat->Nat) (ord:Yf),at_ 0=0->Nexts prog w o a ep ks.length at_ ord->ord.Perm (es.toList.map (·.2))->Q (.ref s.heap.objs.size) { s with heap:=s.heap.push (zBS (rawInt 0) 0 a ks.length ep) }:=by
  intro at_ ord h0 N hp;have e:s.heap.push (zBS (rawInt 0) 0 a ks.length ep)=s.heap.push (zBS (rawInt 0) 0 a ks.length ep):=rfl
  have:=h (s.heap.push (zBS (rawInt 0) 0 a ks.length ep)) s.drawn s.heap.objs.size [s.heap.objs.size,a] ord (λi h=>h.get? s.heap.objs.size=some (zBS (rawInt (at_ i)) i a ks.length ep)/\h.get? a=some o)
   (λb u e=>zXo _ e) (zXt _) (λb hb=>by
    rw[zYT];rcases zXz.mp hb with z|z
    .rw[z];exact ⟨zYk _,.inr (zXt _)⟩
    .rw[zYF.mp z];exact ⟨zYc hal,.inl rfl⟩)
   (λA hh=>zK0 hh (zX8 hal) N hS) ⟨by rw[h0];exact zXx _ rfl,zXo _ ho⟩ hp
  exact this
 have mk:∀ (s1:Yl) (f:Yu) (hv:s1.heap.get? a=some o) {Q':Fin->Shared->Prop},Q' (.done (.ret (.ref s1.heap.objs.size))) { s1 with heap:=s1.heap.push (zBS f 0 a ks.length ep) }->wpAny (model prog w) A.in1 (do
   let e <- setEpoch a;let r <- newFields "set_iterator" [f,rawInt 0,Value.ref a,rawInt es.size,rawInt e];ret r) Q' E s1:=by
  intro s1 f hv Q' hq;refine zXn (wpAny_setEpoch_of hv hS.data hS.fits ?_);unfold newFields;refine zXn (zYG (zXp ?_));rw[hsz];exact hq
 have ty:∀ (s1:Shared) (f:Value),(∃ T' r,Shared.TypeIs { s1 with heap:=s1.heap.push (zBS f 0 a ks.length ep) } (.ref s1.heap.objs.size) T'/\typeLookup (Value.type T') (Str.ofString "__next__")=pure (some r)/\True):=λs1 f=>⟨"set_iterator", _,⟨_,zXx _ rfl,rfl⟩,zAN.lookup,trivial⟩;show wpAny _ _ (if (!w.params.followText "set-order" && (!t.plain&&decide (es.size>1)))=true then _ else _) _ _ _;by_cases hc:(!w.params.followText "set-order" && (!t.plain&&decide (es.size>1)))=true
 .rw[zX2 hc];refine zXn (zD4 _ _ (by simp) λpl d hp=>?_);refine zXn ?_;unfold newTuple;have hpl:pl.length=ks.length:=by rw[hp.length_eq,zZk,hsz]
  refine zYG ?_ (by
   show (List.map (λ(i:Nat)=>rawInt i) pl).toArray.size<=sizeLine;rw[zXv,zXw,hpl,<-hsz];exact fits_of_scanBound hS.bound)
  generalize hH:s.heap.push { cls:=.type "tuple", data:=.seq (List.map (λ(i:Nat)=>rawInt i) pl).toArray }=H;have kH:∀ b u,s.heap.get? b=some u->H.get? b=some u:=λb u e=>by rw[<-hH];exact zXo _ e
  have hT1:IsTup H s.heap.objs.size (pl.map λ(k:Nat)=>rawInt k).toArray:=⟨_,by rw[<-hH];exact zXx _ rfl,rfl,0,rfl⟩;have szH:H.objs.size=s.heap.objs.size+1:=by rw[<-hH];exact zYT ..
  have szlt:s.heap.objs.size<H.objs.size:=by rw[szH];exact zYk _
  have alt:a<H.objs.size:=Nat.lt_trans hal szlt;refine mk { s with heap:=H,drawn:=d } (.ref s.heap.objs.size) (kH _ _ ho) ?_;obtain ⟨T',r,e1,e2,_⟩:=ty { s with heap:=H,drawn:=d } (.ref s.heap.objs.size);refine ⟨_,rfl,T',r,e1,e2,?_⟩;have kH2:∀ b u,s.heap.get? b=some u->(H.push (zBS (.ref s.heap.objs.size) 0 a ks.length ep)).get? b=some u:=λb u e=>zXo _ (kH b u e);refine h _ d H.objs.size [H.objs.size,a,s.heap.objs.size] (pl.map λk=>((es[k]?).map (·.2)).getD .none) (λi h=>h.get? H.objs.size=some (zBS (.ref s.heap.objs.size) i a ks.length ep)/\h.get? a=some o/\IsTup h s.heap.objs.size (pl.map λ(k:Nat)=>rawInt k).toArray) kH2 (by rw[szH];exact zZV _) (λb hb=>?_) (λA hh=>?_) ⟨zXx _ rfl,kH2 a o ho,?_⟩ ?_
  .rw[zYT];simp only[zXz,zYI,zY8]at hb;rcases hb with z|z|z
   .rw[z];exact ⟨zYk _,.inr (Nat.le_of_lt szlt)⟩
   .rw[z];exact ⟨zYc alt,.inl rfl⟩
   .rw[z];exact ⟨zYc szlt,.inr (zXt _)⟩
  .have hb:∀ k∈pl,k<es.size:=λk hk=>by have:=hp.mem_iff.mp hk;simpa using this
   refine zOY (zLc hh (a:=a) (I:=H.objs.size) (T:=s.heap.objs.size) (zX8 alt) (zX8 szlt) hS hpl hb) λi v hv=>?_;rw[zYA];cases q:pl[i]? with
   |none=>rw[q]at hv;cases hv
   |some k=>
    rw[q]at hv;simp only[Option.bind_some]at hv;rw[Option.map_some,hv];rfl
  .exact hT1.push _
  .have e:es.toList.map (·.2)=(List.range es.size).map λk=>((es[k]?).map (·.2)).getD .none:=by
    apply List.ext_getElem?;intro i;rw[zYA,zYA,Array.getElem?_toList];by_cases q:i<es.size
    .rw[zZr q,zYY q];simp[q]
    .rw[Array.getElem?_eq_none (by omega),zYw (by simp;omega)];rfl
   rw[e];exact hp.map _
 .rw[zX5 hc];refine mk s (rawInt 0) ho ?_;obtain ⟨T',r,e1,e2,_⟩:=ty s (rawInt 0);refine ⟨_,rfl,T',r,e1,e2,?_⟩;cases hX:w.params.followText "set-order" with
  |true=>exact plain _ _ rfl (zM5 hS hX) ((zES _ es).map _)
  |false=>
   rw[hX]at hc;exact plain _ _ rfl (zLY hS hX (by simpa using hc)) (.refl _)
end
open Sem (wp)
section
variable {prog:Ym} {w:Yo} {A:Yn} {E:Yc} {s:Yl}
variable {K:Type} [DecidableEq K] {knd:KeyKind prog w K} {o:Obj} {es:Yw} {ep:Nat} {t:SetTable} {ks:List K} {a I:Yt}
theorem zQH:isSubtype (.type "set") (.type "set")=pure true:=sub_set_self
theorem zOh (hT:s.TypeIs (.ref a) "set") (h:Q false s):wpAny (model prog w) A (Builtin.List.listLengthHint (.ref a)) Q E s:=by
 unfold Builtin.List.listLengthHint;refine zXn (wpAny_specialOf hT F.slot_set_len.lookup ?_);have hsp:splitId "set.__len__" = some ("set", "__len__"):=by decide +kernel
 dsimp only;rw[hsp];refine zXn (wpAny_isInstance hT zQH ?_);rw[zX5 (by decide),zX2 (by decide +kernel)];refine zXn (wpAny_typeOf hT ?_);exact zXp h
theorem zLy (hh:A.handled=none) (ho:s.heap.get? a=some o) (hS:SetK knd o es ep t ks)
  (hQ:∀ (s':Yl) (acc:Yf),(∀ b u,s.heap.get? b=some u->s'.heap.get? b=some u)->s'.os=s.os->s'.gens=s.gens->acc.Perm (es.toList.map (·.2))->Q acc s'):wpAny (model prog w) A (collect (.ref a)) Q E s:=by
 have hal:a<s.heap.objs.size:=zXy ho;have hn:ks.length<=sizeLine:=by rw[<-hS.size];exact fits_of_scanBound hS.bound
 unfold collect;refine zXn (wpAny_runValue (zYs F.entry_proto_collect ?_));rw[zYi F.plain_proto_collect _];refine zXn (zYG (zXp ⟨plainId_quiet F.plain_list_iadd _,zYs F.entry_list_iadd ?_⟩));rw[zYi F.plain_list_iadd _];generalize hH:s.heap.push { cls:=.type "list", data:=.seq ([]:List Value).toArray }=H;have kH:∀ b u,s.heap.get? b=some u->H.get? b=some u:=λb u e=>by rw[<-hH];exact zXo _ e
 have szH:H.objs.size=s.heap.objs.size+1:=by rw[<-hH];exact zYT ..
 have hL1:H.get? s.heap.objs.size=some { cls:=.type "list", data:=.seq ([]:List Value).toArray }:=by rw[<-hH];exact zXx _ rfl
 have ho1:=kH a o ho;show wpAny _ A.in1 (Builtin.List.listExtendWith (.ref s.heap.objs.size) (.ref a) (.ref s.heap.objs.size)) _ _ { s with heap:=H };unfold Builtin.List.listExtendWith;have hT1:Shared.TypeIs { s with heap:=H } (.ref a) "set" := ⟨o,ho1,hS.ex.1⟩;refine zXn (wpAny_typeOf hT1 ?_);have hneL:s.heap.objs.size≠a:=zZI hal;have h1:Builtin.List.listSameRef (.ref s.heap.objs.size) (.ref a)=false:=by simp[Builtin.List.listSameRef,hneL]
 have h2:(Value.type "set" == Value.type "list")=false:=by decide
 have h3:(Value.type "set" == Value.type "tuple")=false:=by decide
 simp only[h1,h2,h3,Bool.or_false,zYo,if_false];refine zXn (zRt (s:={ s with heap:=H }) ho1 hS λh2 d I fp ord St k2 hI2 hfp W st0 hp=>?_);have ho2:=k2 a o ho1;refine zXn (zYg (zOh (s:={ s with heap:=h2,drawn:=d }) ⟨o,ho2,hS.ex.1⟩ ?_));rw[zX2 (by decide +kernel)];refine zXn (zZA (zXn ?_));have hL2:=k2 _ _ hL1;refine zXn (wpAny_updateSeq (s:={ s with heap:=h2,drawn:=d }) hL2 rfl ?_);have hS2:=zYa (Obj.mapSeq (·.push Value.none)) hL2 rfl;refine wpAny_updateSeq hS2 rfl ?_;have hS3:=zYa (Obj.mapSeq (·.pop)) hS2 rfl;generalize hH3:(h2.update s.heap.objs.size (Obj.mapSeq (·.push Value.none))).update s.heap.objs.size (Obj.mapSeq (·.pop))=H3 at hS3;have oth:∀ b u,b≠s.heap.objs.size->h2.get? b=some u->H3.get? b=some u:=λb u hb e=>by
  rw[<-hH3];exact (zYU _ _ (Ne.symm hb)).trans ((zYU _ _ (Ne.symm hb)).trans e)
 have hSf:s.heap.objs.size∉fp:=λhm=>by
  rcases (hfp _ hm).2 with z|z
  .exact hneL z
  .have z':H.objs.size<=s.heap.objs.size:=z;rw[szH]at z';exact absurd z' (Nat.not_succ_le_self _)
 have WS:=(W A.in1.in1 hh).toS;have st3:St 0 H3:=(W A.in1.in1 hh).frame 0 _ _ st0 λb hb u e=>oth b u (λz=>hSf (z▸hb)) e;have hI3:I≠s.heap.objs.size:=λz=>by
  have z':H.objs.size<=I:=hI2;rw[szH,z]at z';exact absurd z' (Nat.not_succ_le_self _)
 refine zXp ⟨plainId_quiet F.plain_extend_loop _,codeAny_extend_loopS (A:=A) (WalksS.of_in1 WS) hn _ hSf _ ks.length 0 { s with heap:=H3,drawn:=d } _ _ rfl (zYZ _) st3 hS3 (ItemsOf.nil _) λs' acc' c' hm hS' hacc=>?_⟩;refine zXn (wpAny_load hS' (zXp (hQ s' _ (λb u e=>hm.heap b u (λq=>?_) (oth b u (λz=>zYV _ (z▸zXy e)) (k2 b u (kH b u e)))) hm.os hm.gens ?_)))
 .rcases zXz.mp q with z|z
  .exact zYV _ (z▸zXy e)
  .have z':H.objs.size<=I:=hI2;rw[<-zYF.mp z,szH]at z';exact zYV _ (Nat.lt_trans (zYC (zYk _) z') (zXy e))
 .have e:acc'.toList=ord:=by
   have hl:ord.length=ks.length:=by rw[hp.length_eq,zXw,zYW,hS.size]
   apply List.ext_getElem?;intro i;rw[Array.getElem?_toList];by_cases q:i<ks.length
   .have q':i<acc'.size:=by rw[hacc.1];exact q
    rw[zYY q'];exact (hacc.2 i _ (zYY q')).symm
   .rw[Array.getElem?_eq_none (by rw[hacc.1];omega),zYw (by omega)]
  rw[e];exact hp
end
end ST
namespace L2
open PySem PySem.Spec PyProof.Rows ST
section
variable {prog:Ym} {w:Yo} {A:Yn} {R:Yx} {s:Yl}
theorem zD7 {elt target iter ifs rest scope pos it acc env}
  (h0:codeAny (model prog w) A (.compLoop (.SetComp elt (⟨target,iter,ifs,0⟩::rest) scope pos) 0 it acc env) R s)
  (h:wpAny (model prog w) A (pyIter it) (λit' s'=>codeAny (model prog w) A (.compLoop (.SetComp elt (⟨target,iter,ifs,0⟩::rest) scope pos) 0 it' acc env) R s')
   (notedBy (model prog w) A env λx s'=>R (.error x) s') s) :
  codeAny (model prog w) A (.compStart (.SetComp elt (⟨target,iter,ifs,0⟩::rest) scope pos) 0 it acc env) R s:=by
 refine codeAny_of_tree ?_;show wpAny _ _ ((compStart (.SetComp elt (⟨target,iter,ifs,0⟩::rest) scope pos) 0 it acc env).onRaise (λx=>do noteFrame x env;standAt theWindowsPlace)) _ _ s;refine wpAny_notedAt ?_;unfold compStart;refine zXn (wpAny_askSetting (wpAny_ite ?_));split
 .first
   |exact zXn (zXp (zXp (And.intro rfl h0)))
   |exact zXp (And.intro rfl h0)
 .first
   |exact zXn (zZA (zXn (zYl (zXn (zYJ h (λit' s' h'=>zXp (And.intro rfl h')) λ_ _ x=>x)))))
   | (refine zXn (zZA ?_);show wpAny _ _ (standAt iter.pos >>= _) _ _ s;exact zXn (zYl (zXn (zYJ h (λit' s' h'=>zXp (And.intro rfl h')) λ_ _ x=>x))))
end
section
variable {X:Cx} {zB:Yd} {σ:St} {H:Hp} {s:Yl} {scope:Y0} {cl:Yv} {fp:Yg} {it:Yt} {tn:Nat->Heap->Prop} {J:It} {tg elt iter:Expr} {ifs:Yi} {pos:Pos}
 {own:Yj} {g:TG} {tc:TT} {te:TE} {E:Yc}
theorem zM7 (h:SetK (intKind prog w) o es ep t ks):∀ v,o.data≠.cell v:=λv z=>by rw[h.data]at z;cases z
theorem zH8 (C:CompIn X scope own) (hcalm:X.calm=true) (I:Inv X zB σ H s) (T:Turn X.prog X.w X.K tg J fp it tn) (st:tn 0 s.heap) (hf:∀ b∈fp,zCV X zB H b)
  (c1:∀ x c,cl.lookup x=some c->X.env.cells.lookup x=some c) (c2:∀ y∈scope.names,y.2=.free->(cl.lookup y.1).isSome=true)
  (hg:PG (zM X zB scope cl s H fp) tg g) (hi:zGk (zM X zB scope cl s H fp) ifs tc) (he:PE (zM X zB scope cl s H fp) elt te)
  {RR:Value->Addr->Result->Shared->Prop} {QQ:List Int->Hp->Prop} {W:Nat->Nat->List Int->Hp->Prop} {m0:Nat} (w0:W 0 m0 [] H)
  (turn:∀ i m ys H,W i m ys H->(J.stop i H/\QQ ys H) \/
   (J.go i H /\ ∀ x H',J.yld i H x H'->g x (clr own σ) H' λσ2 H2=>Ext (clr own σ) σ2/\tc σ2 H2 λb H3=>
    if b=true then te σ2 H3 λv H4=>∃ k,v=.int k/\ys.length+1<scanBound /\ ∃ m',m'<m/\W (i+1) m' (ins ys k) H4 else ∃ m',m'<m/\W (i+1) m' ys H3))
  (fin:∀ σc H' s' o es ep t ys,Inv (zM X zB scope cl s H fp) [(s.heap.objs.size,o)] σc H' s'->SetK (intKind X.prog X.w) o es ep t ys->QQ ys H'->RR (.ref s.heap.objs.size) (s.heap.objs.size+1) (.ok .next) s') :
  wpAny (model X.prog X.w) X.A (newSet (.type "set")) (λacc s₃=>wpAny (model X.prog X.w) X.A (newFunctionEnv scope X.env.globals cl [] X.env.qual none .none (some X.env)) (λcenv s₄=>
   codeAny (model X.prog X.w) X.A (.compStart (.SetComp elt [⟨tg,iter,ifs,0⟩] scope pos) 0 (.ref it) acc { cenv with scope:=relabel scope X.env }) (RR acc cenv.locals) s₄) E s₃) E s:=by
 have ob:∀ b:Nat,b∈fp->b<s.heap.objs.size:=λb hb=>let ⟨_,e,_⟩:=T.obj 0 _ st b hb;zXy e;refine zOf (zC2 ?_);have sz1:(s.heap.push (zi X.w)).objs.size=s.heap.objs.size+1:=zYT ..;have I4:=zFe (X:=X) (zB:=zB) (σ:=σ) (σc:=clr own σ) (H:=H) (s:=s) (scope:=scope) (cl:=cl) (fp:=fp) C.sc I hf ob c1 c2 (zBc own σ) (λi x v h1 h2 h3=>by
  obtain ⟨a,b⟩:=zC5 own σ i v h2;rcases C.nm i x h1 with z|z|z
  .exact absurd z b
  .exact absurd (zCU x z) h3
  .exact ⟨z,a⟩) (zi X.w) (by intro v z;cases z) rfl rfl
 have st4:tn 0 (pushCells ((s.heap.push (zi X.w)).push { cls:=.type "dict", data:=.dict #[] }) scope.names):=T.keep 0 _ _ st λb _ o e=>pushCells_keeps _ _ b o (zXo _ (zXo _ e));unfold newEnv;rw[sz1];have hDfp:s.heap.objs.size∉fp:=λz=>zYV _ (ob _ z);have hcD:∀ x c,(zM X zB scope cl s H fp).env.cells.lookup x=some c->c≠s.heap.objs.size:=λx c e z=>by
  obtain ⟨v,o,ho,hd⟩:=I4.cell x c e;obtain ⟨q,_⟩:=I4.pin (s.heap.objs.size,zi X.w) (by simp);rw[z,q]at ho;cases ho;cases hd
 have fpk:∀ {H':Hp} {pl:Yd},(∀ b∈fp,H' b=none)->(∀ p∈pl,p.1=s.heap.objs.size) -> ∀ b∈fp,zCV (zM X zB scope cl s H fp) pl H' b:=λ{H' pl} hn hp b hb=>
  ⟨hn b hb,(I4.ok.exf b hb).1,I4.ok.exfs b hb,.inl hb,(I4.ok.exf b hb).2,λp hq=>by
   rcases zYD.mp hq with z|z
   .exact (hf b hb).2.2.2.2.2 p z
   .intro e;have e2:=hp p z;rw[e]at e2;exact hDfp (e2▸hb)⟩
 have loop:codeAny (model X.prog X.w) X.A (.compLoop (.SetComp elt [⟨tg,iter,ifs,0⟩] scope pos) 0 (.ref it) (.ref s.heap.objs.size) (zM X zB scope cl s H fp).env) (RR (.ref s.heap.objs.size) (s.heap.objs.size+1))
   { s with heap:=pushCells ((s.heap.push (zi X.w)).push { cls:=.type "dict", data:=.dict #[] }) scope.names }:=by
  refine zKg (λn s'=>∃ i H' ys o es ep t,Inv (zM X zB scope cl s H fp) [(s.heap.objs.size,o)] (clr own σ) H' s'/\SetK (intKind X.prog X.w) o es ep t ys/\tn i s'.heap/\(∀ b∈fp,H' b=none)/\W i n ys H') ?_ m0
   ⟨0,H,[],zi X.w,_,_,_,I4,.fresh,st4,λb hb=>(hf b hb).1,w0⟩
  rintro n s5 ⟨i,H5,ys,o,es,ep,t,I5,r5,st5,f5,w5⟩;have pinD:∀ p∈[(s.heap.objs.size,o)],p.1=s.heap.objs.size:=λp hp=>by
   have:p=(s.heap.objs.size,o):=by simpa using hp
   rw[this]
  rcases turn i n ys H5 w5 with ⟨stop,qq⟩|⟨go,step⟩
  .refine thn (T.done (zM X zB scope cl s H fp) rfl rfl rfl hcalm i _ s5 _ H5 _ I5 (fpk f5 pinD) st5 stop) λr s6 ⟨hr,I6⟩=>?_;subst hr;exact fin _ H5 s6 o es ep t ys I6 r5 qq
  .refine thn (T.item (zM X zB scope cl s H fp) rfl rfl rfl hcalm i _ s5 _ H5 _ I5 (fpk f5 pinD) st5 go) λr s6 ⟨u,hr,h6⟩=>?_;subst hr;refine thn h6 λ_ s7 ⟨x,H7,I7,r7,y7,st7,f7⟩=>?_;have I7':=I7.pinned (fpk f7 pinD) (T.obj _ _ st7);refine thn (hg _ s7 _ H7 x u _ I7' r7 (step x H7 y7)) λ_ s8 ⟨σ8,H8,I8,x8,q8⟩=>?_;refine thn (hi _ s8 σ8 H8 _ I8 q8) λok s9 ⟨H9,I9,q9⟩=>?_;have back:∀ {s':Yl} {Hx:Hp},Inv (zM X zB scope cl s H fp) ([(s.heap.objs.size,o)]++zDD fp s7.heap) σ8 Hx s'->tn (i+1) s'.heap /\ ∀ b∈fp,Hx b=none:=λ{s' Hx} Ix=>
    ⟨T.keep _ _ _ st7 λb hb o e=>(Ix.pin (b,o) (zX7 _ (zX7 _ (zAT hb e)))).1,λb hb=>by
     obtain ⟨o,e,d⟩:=T.obj _ _ st7 b hb;exact (Ix.pin (b,o) (zX7 _ (zX7 _ (zAT hb e)))).2.1⟩
   cases ok with
   |false=>
    obtain ⟨m',hm,w'⟩:=q9;obtain ⟨b1,b2⟩:=back I9;exact ⟨m',hm,i+1,H9,ys,o,es,ep,t,(I9.weak (by rw[x8.1]) x8.2).unpinned,r5,b1,b2,w'⟩
   |true=>
    refine thn (he _ s9 σ8 H9 _ I9 q9) λv s10 ⟨y,H10,I10,r10,k,hk,hlt,m',hm,w'⟩=>?_;subst hk;obtain ⟨b1,b2⟩:=back I10;have J10:=(I10.weak (by rw[x8.1]) x8.2).unpinned;obtain ⟨e10,n10,ne10,nf10,d10⟩:=J10.pin (s.heap.objs.size,o) (by simp);obtain ⟨tk,hv⟩:∃ tk,v=.int k tk:=r10;subst hv;refine zRD (knd:=intKind X.prog X.w) (intKind_is _ _ _ _) rfl e10 r5 hlt λh' o' es' ep' t' hs' e' S'=>?_;refine ⟨m',hm,i+1,H10,ins ys k,o',es',ep',t',?_,S',T.keep _ _ _ b1 λb hb o e=>hs'.extBut b o (λz=>hDfp (z▸hb)) e,b2,w'⟩;refine (Inv.repin (pl:=[]) J10 (λp hp=>?_) hs' (zXt _) hcD e' (zM7 S')).tok _;rw[zYX]at hp;have hp':p∈X.pn++zB:=hp;exact zX8 (zXy (I.pin p hp').1)
 exact zD7 loop (T.self _ 0 _ _ _ st4 loop)
theorem zKp (I:Inv X zB σ H s) (hf:∀ b∈fp,zCV X zB H b)
  (Ic:Inv (zM X zB scope cl s H fp) [(s.heap.objs.size,oD)] σc H' s') (hs:Heap.SameBut (s.heap.objs.size+1) s'.heap h') :
  Inv X zB σ H' { s' with heap:=h' }/\h'.get? s.heap.objs.size=some oD:=by
 obtain ⟨eD,nD,_⟩:=Ic.pin (s.heap.objs.size,oD) (by simp);have nC:H' (s.heap.objs.size+1)=none:=Ic.free;have eD':h'.get? s.heap.objs.size=some oD:=hs.extBut _ _ (zX8 (zYk _)) eD;have lt1:∀ {b:Yt} {o:Obj},s.heap.get? b=some o->b≠s.heap.objs.size+1:=λe=>zX8 (zYc (zXy e));have tr:∀ b u,H' b=some u->b≠s.heap.objs.size+1:=λb u e z=>by rw[z,nC]at e;cases e
 refine ⟨?_,eD'⟩;have B:=Ic.base;have un:Un (frs X.stack) fp H H' s.heap h':=by
  refine ⟨λb o e q hb hx=>hs.extBut b o (lt1 e) (B.keep b o e q hb hx),λb o e q hb hx=>?_,λb o e q hx=>B.free b o e q hx,λb o e hx=>?_,λb xs e=>B.tups b xs e,λb o xs e=>B.frzs b o xs e,λb ps e=>B.tbls b ps e⟩
  .obtain ⟨sl,e1⟩:=B.slot b o e q hb hx;exact ⟨sl,hs.extBut b _ (lt1 e) e1⟩
  .obtain ⟨o',e1⟩:=B.there b o e hx;exact ⟨o',hs.extBut b _ (lt1 e) e1⟩
 have hok:HOk X.prog X.w H' h':=λb u e=>by
  refine (Ic.hok b u e).stay (λc v hc q=>hs.extBut c v ?_ q) (λc q=>q) λc xs q=>q;rcases hc with z|z
  .rw[z];exact tr b u e
  .exact tr c _ z
 exact I.call' (s':={ s' with heap:=h' }) (ch:=fp) Ic.os un hok Ic.bare λb hb=>⟨(hf b hb).2.2.2.1,(hf b hb).2.1,(hf b hb).2.2.2.2.1,(hf b hb).2.2.2.2.2⟩
end
noncomputable abbrev TZ:=St->Hp->(List Int->Hp->Prop)->Prop
def PZ (X:Cx) (e:Expr) (t:TZ):Prop:=∀ (zB:Yd) (s:Yl) (σ:St) (H:Hp) (Q:List Int->Hp->Prop),Inv X zB σ H s->t σ H Q ->
 wpAny (model X.prog X.w) X.A (eval e X.env) (λv s'=>∃ a o es ep tb ks H',v=.ref a/\s'.heap.get? a=some o/\SetK (intKind X.prog X.w) o es ep tb ks/\Inv X zB σ H' s'/\Q ks H') X.xe s
noncomputable def zL8 (own:Yj) (wi:TI) (g:TG) (tc:TT) (te:TE):TZ:=λσ H Q=>wi σ H λJ H1=>∃ W:Nat->Nat->List Int->Hp->Prop,(∃ m,W 0 m [] H1) /\ ∀ i m ys H,W i m ys H ->
 (J.stop i H/\Q ys H) \/
 (J.go i H /\ ∀ x H',J.yld i H x H'->g x (clr own σ) H' λσ2 H2=>Ext (clr own σ) σ2/\tc σ2 H2 λb H3=>
  if b=true then te σ2 H3 λv H4=>∃ k,v=.int k/\ys.length+1<scanBound /\ ∃ m',m'<m/\W (i+1) m' (ins ys k) H4 else ∃ m',m'<m/\W (i+1) m' ys H3)
section
variable {X:Cx} {scope:Y0} {tg elt iter:Expr} {ifs:Yi} {pos:Pos} {own:Yj} {wi:TI} {g:TG} {tc:TT} {te:TE}
theorem zTF (C:CompIn X scope own) (hcalm:X.calm=true) (hi:PI X tg iter wi) (p:CompParts X scope tg ifs elt g tc te) (hs:∀ x,foldedSetIterable iter X.env x=pure x:=by intro _;rfl) :
  PZ X (.SetComp elt [⟨tg,iter,ifs,0⟩] scope pos) (zL8 own wi g tc te):=by
 intro zB s σ H Q I h;obtain ⟨cl,hcl,c1,c2⟩:=C.sc.closure I;rw[arm_eval_SetComp];refine zZh (use:=none) rfl hs hcl C.sc.kind C.sc.names (thn (hi zB s σ H _ I h) λv s1 h1=>thn h1 λitv s2 h2=>?_);obtain ⟨it,fp,tn,J,H2,e,I2,T,st2,f2,W,⟨m0,w0⟩,turn⟩:=h2;subst e;refine zH8 C hcalm I2 T st2 f2 c1 c2 (p.g _ _ _ _ _) (p.c _ _ _ _ _) (p.e _ _ _ _ _) (RR:=λacc C r s'=>compPost (model X.prog X.w) X.A X.xe none (λv s'=>∃ a o es ep tb ks H',v=.ref a/\s'.heap.get? a=some o/\SetK (intKind X.prog X.w) o es ep tb ks/\Inv X zB σ H' s'/\Q ks H') acc C r s') (QQ:=Q) w0 turn ?_;intro σc H' s' o es ep t ys Ic rv qq;obtain ⟨m,hn,_⟩:=Ic.loc;refine ⟨m,hn,λh' hs'=>?_⟩;obtain ⟨J',eD⟩:=zKp I2 f2 Ic hs';exact ⟨_,o,es,ep,t,ys,H',rfl,eD,rv,J',qq⟩
end
end L2
namespace ST
open PySem PySem.Spec PyProof.Rows
open Sem (wp)
section
variable {prog:Ym} {w:Yo} {A:Yn} {E:Yc} {s:Yl}
variable {K:Type} [DecidableEq K] {knd:KeyKind prog w K}
noncomputable def zK (ks:List K):List K:=ks.foldl ins []
theorem zCD (ks:List K) (k:K):zK (ks++[k])=ins (zK ks) k:=by unfold zK;rw[zZl];rfl
theorem zTl (ks:List K) (k:K):(ins ks k).length<=ks.length+1:=by unfold ins;split <;> simp
theorem zVv (ks:List K) (k:K):ks.length<=(ins ks k).length:=by unfold ins;split <;> simp
theorem zMi (val:Nat->K) (h:i<=n):(zK ((List.range i).map val)).length<=(zK ((List.range n).map val)).length:=by
  induction n with
  | zero => have : i = 0 := by omega
            subst this;exact zXt _
  |succ n ih=>
    by_cases q:i=n+1
    .subst q;exact zXt _
    . rw[List.range_succ,zYf,show List.map val [n]=[val n]from rfl,zCD]
      exact zYE (ih (by omega)) (zVv _ _)
theorem zA8 (ks:List K):(zK ks).length<=ks.length:=by
 have:∀ (l acc:List K),(l.foldl ins acc).length<=acc.length+l.length:=by
  intro l;induction l with
  |nil=>intro acc;simp
  |cons x r ih=>intro acc;have:=ih (ins acc x);have:=zTl acc x;simp only[List.foldl_cons,zYK];omega
 simpa [zK] using this ks []
theorem zSj (ks:List K) (k x:K):x∈ins ks k ↔ x∈ks\/x=k:=by
 unfold ins;split
 .rename_i h;constructor
  .exact .inl
  .rintro (z|z)
   .exact z
   .rw[z];exact h
 .simp
theorem zBa (ks:List K) (x:K):x∈zK ks ↔ x∈ks:=by
  have:∀ (l acc:List K),x∈l.foldl ins acc ↔ x∈acc\/x∈l:=by
    intro l;induction l with
    |nil=>intro acc;simp
    |cons y r ih=>intro acc;rw[List.foldl_cons,ih,zSj,zXz];simp[or_assoc]
  simpa [zK] using this ks []
theorem zOv (h : ks.Nodup) (k : K) : (ins ks k).Nodup := by
  unfold ins;split
  .exact h
  · rename_i q
    rw[zY1]
    exact ⟨h, by simp, fun a ha b hb z => by have : b = k := by simpa using hb
                                             subst this;subst z;exact q ha⟩
theorem zFF (ks:List K):(zK ks).Nodup:=by
 have:∀ (l acc:List K),acc.Nodup->(l.foldl ins acc).Nodup:=by
  intro l;induction l with
  |nil=>intro acc h;exact h
  |cons y r ih=>intro acc h;exact ih _ (zOv h y)
 exact this ks [] (by simp)
theorem zQO (a:Yu) (h:Q₁ (.ref s.heap.objs.size) { s with heap:=s.heap.push (zi w) }) :
  codeAny (model prog w) A (.call (.builtin "set.__new__") ⟨[.type "set", a],[]⟩) (wants Q₁ E) s:=by
 refine codeAny_of_tree ?_;show wpAny _ A.in1 (do checkBuiltinCall "set.__new__" ⟨[.type "set", a],[]⟩;again (.builtin "set.__new__" ⟨[.type "set", a],[]⟩)) _ _ s;refine zXn (wpAny_of_eq (F.newCall_set_1 a) (zXp ⟨plainId_quiet F.plain_set_new _,zYs F.entry_set_new ?_⟩));rw[zYi F.plain_set_new _];unfold Builtin.«set.__new__» Builtin.Frozenset.newClass;have hsub:=sub_set_self;obtain ⟨hp,g,d,tk,os⟩:=s;wp_walk;refine wpAny_askSetting (zXp ?_);simp only[newObj];refine zXn (wpAny_alloc (zXp ?_));exact zXp h
variable {R:Yx} {I:Yt} {fp wr:Yg} {G:Array GenState->Array GenState->Prop} {n:Nat} {P:Nat->Value->Prop} {St:Nat->Shared->Prop}
theorem zLp (W:WalksS prog w A.in1 I fp wr G n P St) (S:Yt) (hSf:S∉fp) (val:Nat->K) (hval:∀ i v,P i v->knd.is (val i) v=true/\v.scannable=true) (hb:(zK ((List.range n).map val)).length+1<scanBound) :
  ∀ (k i:Nat) (s:Yl) (o:Obj) (es:Yw) (ep:Nat) (t:SetTable),n-i=k->i<=n->St i s->s.heap.get? S=some o->SetK knd o es ep t (zK ((List.range i).map val)) ->
   (∀ s' o' es' ep' t',Moved (S::wr) G s s'->s'.heap.get? S=some o'->SetK knd o' es' ep' t' (zK ((List.range n).map val))->R (.ok (.ret .none)) s') ->
   codeAny (model prog w) A (.builtin "set.update.loop" ⟨[.ref S,.ref I],[]⟩) R s:=by
 have hSw:S∉wr:=λh=>hSf (W.sub _ h);have hsub:∀ b∈wr,b∈S::wr:=λb hb=>zX0 _ hb;intro k;induction k with
 |zero=>
  intro i s o es ep t hk hi hst ho hS hR;have hin:i=n:=by omega
  subst hin;refine zYs F.entry_set_update_loop ?_;rw[zYi F.plain_set_update_loop _];refine zXn (W.done s _ _ hst λs' hm=>?_);exact zXp (hR s' o es ep t (hm.mono hsub) (hm.heap S _ hSw ho) hS)
 |succ k ih=>
  intro i s o es ep t hk hi hst ho hS hR;have hlt:i<n:=by omega
  refine zYs F.entry_set_update_loop ?_;rw[zYi F.plain_set_update_loop _];refine zXn (W.item i s _ _ hlt hst λv s' hP hst' hm=>?_);obtain ⟨hv1,hv2⟩:=hval i v hP;have ho':=hm.heap S _ hSw ho;refine zXn (zYg ?_);unfold setAdd;refine zYg ?_;refine zXn (knd.pyHash (k:=val i) hv1 ?_);have hroom:(zK ((List.range i).map val)).length+1<scanBound:=by have:=zMi val (Nat.le_of_lt hlt);omega
  refine zD1 (s:={ s' with toks:=s'.toks+1 }) hv1 hv2 ho' hS hroom λh' o2 es2 ep2 t2 b hsb ho2 hS2=>?_;have hS3:SetK knd o2 es2 ep2 t2 (zK ((List.range (i+1)).map val)):=by
   rw[List.range_succ,zYf];rw[show List.map val [i]=[val i]from rfl,zCD];exact hS2
  refine zXp ⟨plainId_quiet F.plain_set_update_loop _,ih (i+1) _ o2 es2 ep2 t2 (by omega) hlt (W.frame _ s' _ _ hst' (zZV _) λb hb o e=>?_) ho2 hS3 λs'' o' es' ep' t' hm'' ho'' hS''=>?_⟩
  .rw[hsb.2 b (λh:b=S=>hSf (by rw[<-h];exact hb))];exact e
  .refine hR s'' o' es' ep' t' (Moved.trans W.gtrans ((hm.mono hsub).then_heap (zZV _) λb o hb e=>?_) hm'') ho'' hS'';rw[hsb.2 b (λh:b=S=>hb (by rw[h];exact zX1))];exact e
end
section
variable {prog:Ym} {w:Yo} {A:Yn} {E:Yc} {s:Yl}
variable {K:Type} [DecidableEq K] {knd:KeyKind prog w K}
theorem zIQ:isSubtype (.type "tuple") (.type "set")=pure false:=by rw[isSubtype_type];kernel_rfl
theorem zEp:isSubtype (.type "tuple") (.type "frozenset")=pure false:=by rw[isSubtype_type];kernel_rfl
theorem zHS {K:Type} (ks:List K) (d:K):(List.range ks.length).map (λi=>ks.getD i d)=ks:=by
 apply List.ext_getElem?;intro i;rw[zYA];by_cases q:i<ks.length
 .rw[zZr q,zXr q];simp[q]
 .rw[zYw (l:=List.range ks.length) (by simpa using q),zYw (l:=ks) (Nat.le_of_not_lt q)];rfl
set_option maxHeartbeats 3200000 in
theorem zRI [Inhabited K] (hty:ty = "list" \/ ty = "tuple")
  (hh:A.handled=none) (hl:∃ ol,s.heap.get? l=some ol/\ol.cls=.type ty /\ ∃ nl,ol.data=.seq items nl) (hi:F2 (λv k=>knd.is k v=true/\v.scannable=true) items.toList ks) (hb:(zK ks).length+1<scanBound)
  (h:∀ (h':Heap) (tk:Nat) (o:Obj) (es:Yw) (ep:Nat) (t:SetTable),h'.get? s.heap.objs.size=some o->SetK knd o es ep t (zK ks) ->
   (∀ b o,b<s.heap.objs.size->s.heap.get? b=some o->h'.get? b=some o)->Q (.ref s.heap.objs.size) { s with heap:=h',toks:=tk }) :
  wpAny (model prog w) A (call (.type "set") [.ref l]) Q E s:=by
 obtain ⟨c,tl,hmro⟩:=F.called_set.mro;have hmade:=F.called_set.made;have hsub:=F.called_set.sub;have hlen:items.size=ks.length:=by rw[<-zYW];exact zBt hi
 refine wpAny_call (codeAny_of_tree ?_);refine zXp ⟨Code.quiet_builtin _ (by decide +kernel),zYs F.entry_type_call ?_⟩;rw[Around.under_plain (weight_type_call_type "set" [.ref l] []) rfl];have h1:=F.called_set.notType;have h2:=F.called_set.canCreate;have hct:=F.typeCall_set_1 (.ref l);repeat (any_goals (first|assumption|wp_step))
 refine codeAny_mono (zQO (.ref l) (E:=E) (Q₁:=λobj s₁=>obj=.ref s.heap.objs.size/\s₁={ s with heap:=s.heap.push (zi w) }) ⟨rfl,rfl⟩) λr s₁ hr=>?_;cases r with
 |error e=>exact hr
 |ok fl=>
  cases fl with
  |ret obj=>
   obtain ⟨rfl,rfl⟩:=hr;have hS:(s.heap.push (zi w)).get? s.heap.objs.size=some (zi w):=zXx _ rfl;have hT:Shared.TypeIs { s with heap:=s.heap.push (zi w) } (.ref s.heap.objs.size) "set" := ⟨_,hS,rfl⟩;have hli:=F.called_set.init.lookup;have hbi:=F.called_set.init.bind (.ref s.heap.objs.size);repeat (any_goals (first|assumption|wp_step))
   refine codeAny_mono (codeAny_call_builtin (R:=wants (λr s₂=>r=.none /\ ∃ h' tk o es ep t,s₂={ s with heap:=h',toks:=tk }/\h'.get? s.heap.objs.size=some o/\SetK knd o es ep t (zK ks) /\
     (∀ b o,b<s.heap.objs.size->s.heap.get? b=some o->h'.get? b=some o)) E) F.called_set.init.plain F.entry_set_init (check_set_init_1 hT ?_)) λr₂ s₂ hr₂=>?_
   .obtain ⟨ol,hol,hcl,nl,hdl⟩:=hl;obtain ⟨ocls,odict,odata,oslots⟩:=ol;simp only at hcl hdl;subst hcl;subst hdl;have hlS:l<s.heap.objs.size:=zXy hol;have hol':(s.heap.push (zi w)).get? l=some { cls:=.type ty,dict:=odict,data:=.seq items nl,slots:=oslots }:=zXo _ hol;have hh3:A.in1.in1.in1.handled=none:=by simp[hh]
    have hneI:l≠(s.heap.push (zi w)).objs.size:=by
     rw[zYT];exact zX8 (zYc hlS)
    have hSf:s.heap.objs.size∉[(s.heap.push (zi w)).objs.size,l]:=by
     rw[zYT];simp only[zXz,zYF,zYI,zY8,not_or];exact ⟨zX8 (zYk _),zZI hlS⟩
    have hval:∀ (d:K) (i:Nat) (v:Yu),items[i]?=some v->knd.is (ks.getD i d) v=true/\v.scannable=true:=λd i v hv=>by
     have e:items.toList[i]?=some v:=by rw[Array.getElem?_toList];exact hv
     have:∀ {xs:Yf} {ys:List K},F2 (λv k=>knd.is k v=true/\v.scannable=true) xs ys -> ∀ (i:Nat),xs[i]?=some v->knd.is (ys.getD i d) v=true/\v.scannable=true:=by
      intro xs ys f;induction f with
      |nil=>intro i e;simp at e
      |cons q _ ih=>
       intro i e;cases i with
       |zero=>simp at e;subst e;exact q
       |succ i=>exact ih i (by simpa using e)
     exact this hi i e
    have fin:∀ (I:Yt) (hI:I=(s.heap.push (zi w)).objs.size) (P':Fin->Shared->Prop) (s':Yl) (o':Obj) (es':Yw) (ep':Nat) (t':SetTable) (itO:Obj),
      Moved (s.heap.objs.size::[I]) (λa b=>b=a) { s with heap:=(s.heap.push (zi w)).push itO } s'->s'.heap.get? s.heap.objs.size=some o'->SetK knd o' es' ep' t' (zK ks) ->
      (∃ h' tk o es ep t,s'={ s with heap:=h',toks:=tk }/\h'.get? s.heap.objs.size=some o/\SetK knd o es ep t (zK ks)/\(∀ b o,b<s.heap.objs.size->s.heap.get? b=some o->h'.get? b=some o)):=by
     intro I hI P' s' o' es' ep' t' itO hm ho' hS';obtain ⟨h',g',d',tk',os'⟩:=s';have eg:g'=s.gens:=hm.gens;have ed:d'=s.drawn:=hm.drawn;have eo:os'=s.os:=hm.os;subst eg;subst ed;subst eo;refine ⟨h',tk',o',es',ep',t',rfl,ho',hS',λb o hb e=>?_⟩;have hb1:b≠s.heap.objs.size:=zX8 hb;have hb2:b≠I:=by rw[hI,zYT];exact zX8 (zYc hb)
     exact hm.heap b o (by simp only[zXz,zYF,zYI,zY8,not_or];exact ⟨hb1,hb2⟩) (zXo _ (zXo _ e))
    have go:∀ (d:K) (St:Nat->Heap->Prop) (itO:Obj) (W:Walks prog w A.in1.in1.in1 (s.heap.push (zi w)).objs.size [(s.heap.push (zi w)).objs.size,l] [(s.heap.push (zi w)).objs.size] items.size (λi v=>items[i]?=some v) St),St 0 ((s.heap.push (zi w)).push itO) ->
      ∀ {R':Yx},(∀ s',(∃ h' tk o es ep t,s'={ s with heap:=h',toks:=tk }/\h'.get? s.heap.objs.size=some o/\SetK knd o es ep t (zK ks)/\(∀ b o,b<s.heap.objs.size->s.heap.get? b=some o->h'.get? b=some o))->R' (.ok (.ret .none)) s') ->
      codeAny (model prog w) A.in1.in1 (.builtin "set.update.loop" ⟨[.ref s.heap.objs.size,.ref (s.heap.push (zi w)).objs.size],[]⟩) R' { s with heap:=(s.heap.push (zi w)).push itO }:=by
     intro d St itO W st R' hR;refine zLp (knd:=knd) W.toS s.heap.objs.size hSf (λi=>ks.getD i d) (hval d) (by rw[hlen,zHS];exact hb) (items.size-0) 0 _ (zi w) _ _ _ (by omega) (zYZ _) st (zXo _ hS) .fresh λs' o' es' ep' t' hm ho' hS'=>?_;refine hR s' (fin _ rfl (λ_ _=>True) s' o' es' ep' t' itO hm ho' ?_);rw[hlen,zHS]at hS';exact hS'
    rcases hty with rfl|rfl
    .have hsls:=F.sub_list_set;have hslf:=F.sub_list_frozenset;have hne:(Value.type "list" == Value.type "dict")=false:=by decide
     have hl1:(s.heap.push (zi w)).IsList l items:=⟨_,hol',rfl,nl,rfl⟩;unfold Builtin.«set.__init__» noKeywords Builtin.Frozenset.updateFrom;generalize hPI:pyIter=PI;wp_walk;subst hPI;refine wpAny_pyIter_list hl1 ?_;refine zXn (wpAny_runValue ?_);refine go default _ _ (Walks.list hh3 _ l hneI items) ⟨⟨_,zXx _ rfl,rfl,rfl⟩,(hl1.push _)⟩ λs' q=>?_;refine zXp ?_;exact zXp ⟨rfl,q⟩
    .have hsls:=zIQ;have hslf:=zEp;have hne:(Value.type "tuple" == Value.type "dict")=false:=by decide
     have hl1:(s.heap.push (zi w)).IsTuple l items:=⟨_,hol',rfl,nl,rfl⟩;unfold Builtin.«set.__init__» noKeywords Builtin.Frozenset.updateFrom;generalize hPI:pyIter=PI;wp_walk;subst hPI;refine zZT hl1 ?_;refine zXn (wpAny_runValue ?_);refine go default _ _ (Walks.tuple hh3 _ l hneI items) ⟨⟨_,zXx _ rfl,rfl,rfl⟩,(hl1.push _)⟩ λs' q=>?_;refine zXp ?_;exact zXp ⟨rfl,q⟩
   .cases r₂ with
    |error e=>exact hr₂
    |ok fl₂=>
     cases fl₂ with
     |ret r=>
      obtain ⟨rfl,h',tk,o,es,ep,t,rfl,ho',hS',hk'⟩:=hr₂;repeat (any_goals (first|assumption|wp_step))
      exact h _ _ _ _ _ _ ho' hS' hk'
     |_=>exact hr₂.elim
  |_=>exact hr.elim
end
noncomputable def zD5 (ks:Ye):List Int:=ks.mergeSort λa b=>decide (a<=b)
theorem zBb (ks:Ye):(zD5 ks).Perm ks:=List.mergeSort_perm _ _
theorem zHk (ks:Ye):(zD5 ks).Pairwise (· <= ·):=by
 have:=List.pairwise_mergeSort (le:=λ(a b:Int)=>decide (a<=b)) (λa b c h1 h2=>by simp at h1 h2 ⊢;omega) (λa b=>by simp;omega) ks;exact this.imp λh=>by simpa using h
theorem zIm:∀ {xs ys:Ye},xs.Perm ys->xs.Pairwise (· <= ·)->ys.Pairwise (· <= ·)->xs=ys
 |[],ys,p,_,_=>by have:=p.length_eq;simp at this;rw[List.length_eq_zero_iff.mp this.symm]
 |x::xs,[],p,_,_=>by have:=p.length_eq;simp at this
 |x::xs,y::ys,p,h1,h2=>by
  have hx:=zZx.mp h1;have hy:=zZx.mp h2;have e:x=y:=by
   have a:x∈y::ys:=p.mem_iff.mp zX1;have b:y∈x::xs:=p.mem_iff.mpr zX1;rcases zXz.mp a with z|z
   .exact z
   .rcases zXz.mp b with q|q
    .exact q.symm
    .exact Int.le_antisymm (hx.1 y q) (hy.1 x z)
  subst e;rw[zIm (p.cons_inv) hx.2 hy.2]
theorem zLO (p:xs.Perm ys) (h:xs.Pairwise (· <= ·)):xs=zD5 ys:=zIm (p.trans (zBb ys).symm) h (zHk ys)
section
variable {prog:Ym} {w:Yo} {A:Yn} {E:Yc} {s:Yl}
theorem zNR
  (hc:wpAny (model prog w) A.in1 (collect v) (λvs s1=>∃ ns,IntsAre vs ns/\vs.length<64 /\ ∀ (h':Heap) (out:List Value) (n:Nat),(∀ b u,s1.heap.get? b=some u->h'.get? b=some u)->h'.get? s1.heap.objs.size=some (seqObj "list" out.toArray n)->IntsAre out (zD5 ns)->Q (.ref s1.heap.objs.size) { s1 with heap:=h' }) E s) :
  wpAny (model prog w) A (call (.builtin "sorted") [v]) Q E s:=by
 refine Calls.call_function_entry kind_sorted plain_sorted entry_sorted (args_sorted1 _) ?_;unfold Builtin.«sorted»;refine zXn (m:=checkCount "sorted" 1 1 _) (zXp ?_);refine zXn (zYJ hc (λvs s1 h1=>?_) λ_ _ h'=>h');obtain ⟨ns,hI,h64,h⟩:=h1;refine zXn (wpAny_newList ?_ (by rw[sizeLine_eq];omega));have hoL:(s1.heap.push (seqObj "list" vs.toArray 0)).get? s1.heap.objs.size=some (seqObj "list" vs.toArray 0):=zXx _ rfl;refine zXn (zYg (zYQ slot_list_sort ⟨_,hoL,rfl⟩ entry_list_sort (list_sort_tree (s:={ s1 with heap:=s1.heap.push (seqObj "list" vs.toArray 0) }) hoL hI h64 λout ns' a1 a2 a3=>⟨_,rfl,?_⟩) (args_list_sort _)));refine zXp ⟨_,rfl,?_⟩;have g1:=get?_update_seq hoL (λ_=> #[]);have g2:(((s1.heap.push (seqObj "list" vs.toArray 0)).update s1.heap.objs.size (Obj.mapSeq λ_=> #[])).push (seqObj "tuple" vs.toArray 0)).get? s1.heap.objs.size=_:=zXo _ g1;have g3:=zXo (seqObj "list" #[] 0) g2;have g4:=get?_update_seq g3 (λ_=>out);have eS:=zLO a2 a3;subst eS;refine h _ out.toList _ (λb u e=>?_) (by rw[Array.toArray_toList];exact g4) a1;have hb:s1.heap.objs.size≠b:=λz=>zYV _ (z▸zXy e);exact (zYU _ _ hb).trans (zXo _ (zXo _ ((zYU _ _ hb).trans (zXo _ e))))
theorem zO3 (h:F2 (zUP (intKind prog w)) es ks):IntsAre (es.map (·.2)) ks:=by
 induction h with
 |nil=>exact .nil
 |cons h _ ih=>
  obtain ⟨⟨h1,_⟩,_⟩:=h;obtain ⟨t,e⟩:=Value.isInt_shape h1;rw[zX6,e];exact .cons _ _ ih
theorem zOn (p:us.Perm vs):∀ {ks:Ye},IntsAre vs ks -> ∃ ks',ks'.Perm ks/\IntsAre us ks':=by
 have p':=p.symm;clear p;induction p' with
 |nil=>intro ks h;exact ⟨ks,.refl _,h⟩
 |cons x _ ih=>
  intro ks h;cases h with
  |cons n t r=>
   obtain ⟨ys',q1,q2⟩:=ih r;exact ⟨_,q1.cons _,.cons _ _ q2⟩
 |swap x y l=>
  intro ks h;cases h with
  |cons n t r=>
   cases r with
   |cons n2 t2 r=>exact ⟨_,List.Perm.swap _ _ _,.cons _ _ (.cons _ _ r)⟩
 |trans _ _ ih1 ih2=>
  intro ks h;obtain ⟨ys',q1,q2⟩:=ih1 h;obtain ⟨ys'',r1,r2⟩:=ih2 q2;exact ⟨ys'',r1.trans q1,r2⟩
theorem zK6 (p:xs.Perm ys):zD5 xs=zD5 ys:=zLO ((zBb xs).trans p) (zHk xs)
theorem zNC (hh:A.handled=none) (ho:s.heap.get? a=some o) (hS:SetK (intKind prog w) o es ep t ks) (h64:ks.length<64)
  (h:∀ (s1:Shared) (h':Heap) (out:List Value) (n:Nat),(∀ b u,s.heap.get? b=some u->s1.heap.get? b=some u)->s1.os=s.os->s1.gens=s.gens->(∀ b u,s1.heap.get? b=some u->h'.get? b=some u)->h'.get? s1.heap.objs.size=some (seqObj "list" out.toArray n)->IntsAre out (zD5 ks)->Q (.ref s1.heap.objs.size) { s1 with heap:=h' }) :
  wpAny (model prog w) A (call (.builtin "sorted") [.ref a]) Q E s:=by
 refine zNR (zLy (A:=A.in1) hh ho hS λs' acc k1 k2 k3 hp=>?_);obtain ⟨ks',p,f⟩:=hS.ent;obtain ⟨ks2,p2,f2⟩:=zOn hp (zO3 f);refine ⟨ks2,f2,?_,λh' out n e1 e2 e3=>?_⟩
 .rw[hp.length_eq,zXw,zYW,hS.size];exact h64
 .rw[zK6 (p2.trans p)]at e3;exact h s' h' out n k1 k2 k3 e1 e2 e3
end
end ST
namespace L2
open PySem PySem.Spec PyProof.Rows ST
section
variable {X:Cx} {e:Expr} {p pos:Pos} {zB:Yd} {σ:St} {H:Hp} {s:Yl}
theorem Inv.kept' (I:Inv X zB σ H s) (k:∀ b u,s.heap.get? b=some u->s1.heap.get? b=some u) (ho:s1.os=s.os) (hg:s1.gens=s.gens):Inv X zB σ H s1 :=
 I.call' (ch:=[]) ho (Un.kept k) (I.hok.kept k) (by rw[hg];exact I.bare) λb hb=>nomatch hb
theorem zHw:∀ {ns:Ye} {us:Yf},IntsAre us ns->zb (ns.map V.int) us
 |_,_,.nil=> .nil
 |_,_,.cons n t h=> .cons ⟨t,rfl⟩ (zHw h)
theorem zHd:∀ {ns:Ye} {us:Yf},zb (ns.map V.int) us->IntsAre us ns
 |[],_,.nil=> .nil
 |n::ns,_,.cons r h=>by obtain ⟨t,rfl⟩:=r;exact .cons n t (zHd h)
theorem zQT (ks:Ye):(zD5 ks).length=ks.length:=(zBb ks).length_eq
theorem zRp (hc:X.calm=true) (hg:Gl X "sorted") (hm:X.mg "sorted" = none) (ha:PZ X e t) (hs:starEach [e] X.env=(false,eval e X.env)::starEach [] X.env:=by rfl) (hpl:(backTo pos (starEach [] X.env)).any (·.1)=false:=by rfl) :
  PE X (.Call (.Name "sorted" p) [e] [] pos) (λσ H Q=>t σ H λks H1=>ks.length<64 /\ ∀ q,H1 q=none->Q (.ref q) (upd H1 q (.lst ((zD5 ks).map V.int)))):=by
 intro zB s σ H Q I h;refine wpAny_Call_Name_kw (zDV I hg hm (by rfl) ?_ (by decide) (by decide));refine callWith_builtin1 ?_ hs hpl;rw[hs];refine Calls.spliced_cons (thn (ha zB s σ H _ I h) λu s1 ⟨a,o,es,ep,tb,ks,H1,hv,ho,hS,I1,h64,q⟩=>Calls.spliced_nil ?_);subst hv;refine zNC (I1.ok.hd hc) ho hS h64 λs2 h' out n k1 k2 k3 k4 e4 i4=>?_;have I2:Inv X zB σ H1 s2:=I1.kept' k1 k2 k3;have hf:H1 s2.heap.objs.size=none:=I2.hok.fresh (zXt _);refine ⟨.ref s2.heap.objs.size,upd H1 s2.heap.objs.size (.lst ((zD5 ks).map V.int)),I2.laid (t':=s2.toks) k4 (zXt _) ⟨by rw[zXw,zQT,sizeLine_eq];omega,out,n,zHw i4,e4⟩,rfl,q _ hf⟩
theorem zVq (hc:X.calm=true) (hg:Gl X "set") (hm:X.mg "set" = none) (ha:PE X e te) (hs:starEach [e] X.env=(false,eval e X.env)::starEach [] X.env:=by rfl) (hpl:(backTo pos (starEach [] X.env)).any (·.1)=false:=by rfl) :
  PZ X (.Call (.Name "set" p) [e] [] pos) (λσ H Q=>te σ H λx H1=>∃ a ns,x=.ref a/\(SqL X.K H1 a (ns.map V.int)\/SqT X.K H1 a (ns.map V.int))/\(zK ns).length+1<scanBound/\Q (zK ns) H1):=by
 intro zB s σ H Q I h;refine wpAny_Call_Name_kw (zDV I hg hm (by rfl) ?_ (by decide) (by decide));refine callWith_type1 ?_ hs hpl;rw[hs];refine Calls.spliced_cons (thn (ha zB s σ H _ I h) λu s1 ⟨x,H1,I1,r1,a,ns,hx,hq,hb,q⟩=>Calls.spliced_nil ?_);subst hx;cases r1;have key:∃ (ty:String) (its:List Value),(ty = "list" \/ ty = "tuple")/\(∃ ol,s1.heap.get? a=some ol/\ol.cls=.type ty /\ ∃ nl,ol.data=.seq its.toArray nl)/\zb (ns.map V.int) its:=by
  rcases hq with hq|hq
  .obtain ⟨its,rv,⟨ol,nl,e1,e2,_,e3⟩,_⟩:=I1.list hq;exact ⟨"list", its,.inl rfl,⟨ol,e1,e2,nl,e3⟩,rv⟩
  .obtain ⟨its,rv,⟨ol,e1,e2,nl,e3⟩,_⟩:=I1.tuple hq;exact ⟨"tuple", its,.inr rfl,⟨ol,e1,e2,nl,e3⟩,rv⟩
 obtain ⟨ty,its,hty,hl,rv⟩:=key;have hi:F2 (λv k=>(intKind X.prog X.w).is k v=true/\v.scannable=true) its.toArray.toList ns:=by
  rw[List.toList_toArray];have:=zHd rv;clear rv hq q hb hl;induction this with
  |nil=>exact .nil
  |cons n t _ ih=>exact .cons ⟨intKind_is _ _ _ _,rfl⟩ ih
 refine zRI (knd:=intKind X.prog X.w) hty (I1.ok.hd hc) hl hi hb λh' tk o es ep t ho hS k=>?_;have I2:Inv X zB σ H1 { s1 with heap:=h',toks:=tk }:=I1.kept (t':=tk) λb u e=>k b u (zXy e) e;exact ⟨_,o,es,ep,t,_,H1,rfl,ho,hS,I2,q⟩
end
end L2
namespace L3
open PySem PySem.Spec PyProof.Rows L2 ST
noncomputable abbrev FZ:=Sd->Mem->Option (List Int × Mem)
noncomputable def trZ (K:Yb) (f:FZ):TZ:=λτ H Q=>∃ L σ M ks M',Cor K L M H/\zBj L H σ τ/\f σ M=some (ks,M') /\ ∀ L' H',Stp L H L' H'->Cor K L' M' H'->Q ks H'
structure QZ (X:Cx) (e:Expr) (f:FZ):Prop where
 un:PZ X e (trZ X.K f)
theorem PZ.imp (h:PZ X e t) (hi:∀ τ H Q,t' τ H Q->t τ H Q):PZ X e t':=λzB s σ H Q I q=>h zB s σ H Q I (hi _ _ _ q)
noncomputable def zJT (own:Yj) (fi:FI) (g:FG) (tc:FT) (te:FE):FZ:=λσ M=>match zo own fi g tc te σ M with
 |some (.fl ys,M2)=>match zAV ys with
  |some ks=>if ks.length+1<scanBound then some (zK ks,M2) else none
  |none=>none
 |_=>none
theorem zHu:∀ {as bs:List D} {zs:Ye},zAV (as++bs)=some zs -> ∃ xs ys,zAV as=some xs/\zAV bs=some ys/\zs=xs++ys
 |[],bs,zs,h=>⟨[],zs,rfl,h,rfl⟩
 |a::as,bs,zs,h=>by
  cases a with
  |int i=>
   rw[List.cons_append]at h;unfold zAV at h;split at h
   .rename_i us e;cases h;obtain ⟨xs,ys,e1,e2,e3⟩:=zHu e;refine ⟨i::xs,ys,?_,e2,by rw[e3];rfl⟩;unfold zAV;rw[e1]
   .cases h
  |_=>cases h
theorem zLg (h:zAV as=some xs):zAV (as++[.int i])=some (xs++[i]):=by
 induction as generalizing xs with
 |nil=>cases h;rfl
 |cons a as ih=>
  cases a with
  |int j=>
   unfold zAV at h;split at h
   .rename_i us e;cases h;rw[List.cons_append];unfold zAV;rw[ih e];rfl
   .cases h
  |_=>cases h
theorem zOc {K:Yb} {own:Yj} {fi:FI} {g:TG} {fg:FG} {tc:FT} {te:FE} (hg:zFZ own g fg) {τ:Sv} {H:Hp} {Q:List Int->Hp->Prop} (h:trZ K (zJT own fi fg tc te) τ H Q):zL8 own (trI K fi) g (trT K tc) (trD K (toD te)) τ H Q:=by
 obtain ⟨L,σ,M,d,Mf,c,rs,hf,q⟩:=h;unfold zJT zo at hf;cases e1:fi σ M with
 |none=>rw[e1]at hf;cases hf
 |some r=>
  obtain ⟨xs,gd,M1⟩:=r;rw[e1]at hf;dsimp only at hf;by_cases hz:xs.length<=sizeLine
  .rw[zX2 hz]at hf;cases e2:zAx fg tc te (zBD own σ) xs gd xs M1 with
   |none=>rw[e2]at hf;cases hf
   |some r=>
    obtain ⟨zs,M2⟩:=r;rw[e2]at hf;dsimp only at hf;split at hf
    .rename_i kz ez;split at hf
     .rename_i hb;cases hf;refine ⟨L,σ,M,_,_,_,c,rs,e1,λL1 H1 J s1 c1 it=>?_⟩
      refine ⟨λi m ys H'=>m=xs.length-i/\i<=xs.length /\ ∃ L' M' as bs ka,Stp L1 H1 L' H'/\Cor K L' M' H'/\zAV as=some ka/\ys=zK ka/\zAx fg tc te (zBD own σ) xs gd (xs.drop i) M'=some (bs,Mf)/\as++bs=zs,
       ⟨xs.length,by simp,zYZ _,L1,M1,[],zs,[],.refl _ _,c1,rfl,rfl,by simpa using e2,rfl⟩,?_⟩
      rintro i m ys H' ⟨rfl,hi,L',M',as,bs,ka,s',c',r',hl,e',hab⟩;by_cases hlt:i<xs.length
      .rw[zCY hlt]at e';unfold zAx at e';split at e'
       .rename_i hgd;obtain ⟨step,_⟩:=it L' H' M' s' c' hgd;obtain ⟨go,yl⟩:=step i xs[i] (zXr hlt);split at e'
        .rename_i σ1 eg;refine .inr ⟨go,λv H2 hy=>?_⟩;obtain ⟨gr,rv⟩:=yl v H2 hy;have s2:Stp L1 H1 L' H2:=s'.yld gr;refine hg (zEa own ((rs.stp s1).stp s2)) (.refl _) rv eg λτ2 r2 x2=>⟨x2,?_⟩;split at e'
         .rename_i M3 e3;split at e'
          .rename_i d M4 e4;split at e'
           .rename_i ds M5 e5;cases e';refine ⟨L',σ1,M',_,_,c'.grow gr,r2,e3,λL3 H3 s3 c3=>zG4 ?_⟩;refine ⟨L3,σ1,M3,_,_,c3,r2.stp s3,e4,λL4 H4 w s4 c4 r4=>?_⟩;have st:Stp L' H' L4 H4:=((Stp.grow gr).trans s3).trans s4;have ez':=ez;rw[<-hab]at ez';obtain ⟨x1,y1,g1,g2,g3⟩:=zHu ez';obtain ⟨k,hk⟩:∃ k,d=.int k:=by
             cases d with
             |int k=>exact ⟨k,rfl⟩
             |_=>cases g2
            subst hk;have ew:w=.int k:=by unfold Rep at r4;exact r4
            have hka:ka.length<=kz.length:=by
             rw[r']at g1;cases g1;rw[g3,zX3];omega
            refine ⟨k,ew,?_,xs.length-(i+1),by omega,rfl,hlt,L4,M4,as++[.int k],ds,ka++[k],s'.trans st,c4,zLg r',by rw[hl,zCD],e5,by rw[<-hab];simp⟩;rw[hl];have:=zA8 ka;omega
           .cases e'
          .cases e'
         .rename_i M3 e3;refine ⟨L',σ1,M',_,_,c'.grow gr,r2,e3,λL3 H3 s3 c3=>zHD ?_⟩;have st:Stp L' H' L3 H3:=(Stp.grow gr).trans s3;exact ⟨xs.length-(i+1),by omega,rfl,hlt,L3,M3,as,bs,ka,s'.trans st,c3,r',hl,e',hab⟩
         .cases e'
        .cases e'
       .cases e'
      .have hi':i=xs.length:=by omega
       subst hi';rw[List.drop_length]at e';unfold zAx at e';split at e'
       .rename_i hgd;cases e';obtain ⟨_,stop⟩:=it L' H' _ s' c' hgd;rw[zYX]at hab;subst hab;rw[r']at ez;cases ez;refine .inl ⟨stop,?_⟩;rw[hl];exact q L' H' (s1.trans s') c'
       .cases e'
     .cases hf
    .cases hf
  .rw[zX5 hz]at hf;cases hf
section
variable {X:Cx} {scope:Y0} {tg elt iter:Expr} {ifs:Yi} {pos p:Pos} {own:Yj} {e:Expr} {f:FE}
theorem zUQ (hg:zFZ own g fg) (C:CompIn X scope own) (hcalm:X.calm=true) (hi:QI X tg iter fi) (p:QParts X scope tg ifs elt g tc te) (hs:∀ x,foldedSetIterable iter X.env x=pure x:=by intro _;rfl) :
  QZ X (.SetComp elt [⟨tg,iter,ifs,0⟩] scope pos) (zJT own fi fg tc te) :=
 .mk <| PZ.imp (zTF C hcalm hi.un p.parts hs) λ_ _ _ h=>zOc hg h
noncomputable def zEG (f:FE):FZ:=λσ M=>match f σ M with
 |some (x,M1)=>match zAJ M1 x with
  |some ds=>match zAV ds with
   |some ks=>if (zK ks).length+1<scanBound then some (zK ks,M1) else none
   |none=>none
  |none=>none
 |none=>none
theorem zTf (hc:X.calm=true) (hg:Gl X "set") (hm:X.mg "set" = none) (h:QE X e f) (hs:starEach [e] X.env=(false,eval e X.env)::starEach [] X.env:=by rfl) (hpl:(backTo pos (starEach [] X.env)).any (·.1)=false:=by rfl) :
  QZ X (.Call (.Name "set" p) [e] [] pos) (zEG f):=.mk <| PZ.imp (zVq hc hg hm h.un hs hpl) λτ H Q zz=>by
 obtain ⟨L,σ,M,d,M',c,rs,hf,q⟩:=zz;unfold zEG at hf;split at hf
 .rename_i x M1 e1;split at hf
  .rename_i ds e2;split at hf
   .rename_i ks e3;split at hf
    .rename_i hb;cases hf;refine ⟨L,σ,M,_,_,c,rs,e1,λL1 H1 v s1 c1 r1=>?_⟩;obtain ⟨a,vs,rfl,hsq,r⟩:=zFd c1 r1 e2;have:=zBd e3 r;subst this;exact ⟨a,ks,rfl,hsq,hb,q L1 H1 s1 c1⟩
    .cases hf
   .cases hf
  .cases hf
 .cases hf
noncomputable def zH5 (f:FZ):FE:=λσ M=>match f σ M with
 |some (ks,M1)=>if ks.length<64 then some (.fl ((zD5 ks).map D.int),M1) else none
 |none=>none
theorem zJW:∀ (ns:Ye),zR L H (ns.map D.int) (ns.map V.int)
 |[]=> .nil
 |n::ns=> .cons zAb (zJW ns)
theorem zR9 (hc:X.calm=true) (hg:Gl X "sorted") (hm:X.mg "sorted" = none) (h:QZ X e fz) (hs:starEach [e] X.env=(false,eval e X.env)::starEach [] X.env:=by rfl) (hpl:(backTo pos (starEach [] X.env)).any (·.1)=false:=by rfl) :
  QE X (.Call (.Name "sorted" p) [e] [] pos) (zH5 fz):=.mk <| PE.imp (zRp hc hg hm h.un hs hpl) λτ H Q zz=>by
 obtain ⟨L,σ,M,d,M',c,rs,hf,q⟩:=zz;unfold zH5 at hf;split at hf
 .rename_i ks M1 e1;split at hf
  .rename_i hb;cases hf;refine ⟨L,σ,M,_,_,c,rs,e1,λL1 H1 s1 c1=>⟨hb,λp hp=>?_⟩⟩;exact q L1 _ _ (s1.trans (.upd hp)) (c1.upd hp) (za.newLst s1 c c1 hp (zJW _))
  .cases hf
 .cases hf
end
open AutoSeq1 (wpAny_loadPart')
theorem zVk (hh:A.handled=none) (it l:Yt) (hne:l≠it) (items:Yp) :
  Draws prog w A it [it,l] items.size (λi v=>items[i]?=some v) (λi h=>h.IsTupleIter it l i/\h.IsTuple l items) where
 live:=λ_ _ st=>let ⟨o,ho,_⟩:=st.1;⟨o,ho⟩;frame:=λ_ _ _ st hk=>⟨let ⟨o,ho,r⟩:=st.1;⟨o,hk it (by simp) o ho,r⟩,let ⟨o,ho,r⟩:=st.2;⟨o,hk l (by simp) o ho,r⟩⟩;item:=λi s Q E hi st hQ=>by
  refine zDu st.1 st.2 (x:=items[i]) (by simp[hi]) λh' hit' hs'=>?_;exact hQ _ h' s.toks (by simp[hi]) ⟨hit',Tup.but st.2 hs'.extBut hne⟩ hs'
 done:=λs Q E st hE=>zEk hh st.1 st.2 (by simp) hE
theorem zL5 (l:Yt) (items:Yp) (n:Nat) (dct:Option Addr) (sl:Array (Option Value)) :
  Meets (Builtin.«enumerate.__new__» ⟨[.type "enumerate", .ref l],[]⟩) (λ_ R s=>s.heap.get? l=some { cls:=.type "tuple", dict:=dct,data:=.seq items n,slots:=sl } /\
   R (.ok (.ret (.ref (s.heap.push { cls:=.type "tuple_iterator", data:=.fields #[.ref l,.int 0 0] }).objs.size)))
    { s with heap:=(s.heap.push { cls:=.type "tuple_iterator", data:=.fields #[.ref l,.int 0 0] }).push { cls:=.type "enumerate", data:=.fields #[.none,.bool false,.ref s.heap.objs.size,rawInt 0,.none,.none] } }) :=
 .of_wp λprog w A R s h=>by
  obtain ⟨hp,g,d,tk,os⟩:=s;obtain ⟨hl,h⟩:=h;have hsub:=sub_enumerate;have hL:Heap.IsTuple (Shared.heap ⟨hp,g,d,tk,os⟩) l items:=⟨_,hl,rfl,n,rfl⟩;wp_walk using wpAny_loadPart' hl;refine wpAny_stack_any λst=>zXp ?_;split
  .rename_i c _ _ _ _ _;cases (c==Value.type "enumerate")
   .wp_walk using wpAny_loadPart' hl,zZT hL;exact ⟨_,rfl,h⟩
   .wp_walk using wpAny_loadPart' hl,zZT hL;exact ⟨_,rfl,h⟩
  .wp_walk using wpAny_loadPart' hl,zZT hL;exact ⟨_,rfl,h⟩
section
variable {prog:Ym} {w:Yo} {A:Yn} {E:Yc} {s:Yl}
theorem zNE (hL:s.heap.IsTuple l items)
  (h:∀ h',IsEnum h' (s.heap.objs.size+1) s.heap.objs.size 0 .none->h'.IsTupleIter s.heap.objs.size l 0->(∀ c o,s.heap.get? c=some o->h'.get? c=some o)->Q (.ref (s.heap.objs.size+1)) { s with heap:=h' }) :
  wpAny (model prog w) A (call (.type "enumerate") [.ref l]) Q E s:=by
 obtain ⟨o,ho,hc,n,hd⟩:=hL;obtain ⟨ocls,odict,odata,oslots⟩:=o;simp only at hc hd;subst hc;subst hd;refine callType_new PySem.F.called_enumerate (by decide) (PySem.F.typeCall_enumerate_1 _) (PySem.F.newCall_enumerate_1 _) (λobj=>PySem.F.args_object_init_2 obj _) PySem.F.entry_enumerate_new (zL5 l items n odict oslots) ⟨ho,?_⟩;have q1:(s.heap.push { cls:=.type "tuple_iterator", data:=.fields #[.ref l,.int 0 0] }).objs.size=s.heap.objs.size+1:=zYT ..;have p2:((s.heap.push { cls:=.type "tuple_iterator", data:=.fields #[.ref l,.int 0 0] }).push { cls:=.type "enumerate", data:=.fields #[.none,.bool false,.ref s.heap.objs.size,rawInt 0,.none,.none] }).get? (s.heap.push { cls:=.type "tuple_iterator", data:=.fields #[.ref l,.int 0 0] }).objs.size=some _:=zXx _ rfl;rw[q1]at p2;rw[q1];exact ⟨⟨_,p2,rfl⟩,h _ p2 ⟨_,zXo _ (zXx _ rfl),rfl,rfl⟩ λc o x=>zXo _ (zXo _ x)⟩
theorem zLf (he:IsEnum s.heap e it i old)
  (hn:∀ (Q':Value->Shared->Prop) (E':Value->Shared->Prop),(∀ h' x,Heap.ExtBut it s.heap h'->(∃ o,h'.get? x=some o/\o.cls=.type "StopIteration")->E' (.ref x) { s with heap:=h' })->wpAny (model prog w) A.in1 (Builtin.SmallTypes.nextOf (.ref it)) Q' E' s)
  (hQ:∀ h',Heap.ExtBut it s.heap h'->Q none { s with heap:=h' }):wpAny (model prog w) A (pyNext (.ref e)) Q E s:=by
 have hT:s.TypeIs (.ref e) "enumerate" := ⟨_,he,rfl⟩;unfold pyNext
 refine zXn (wpAny_attempt (zYP (name:=Str.ofString "__next__") hT PySem.F.slot_enumerate_next
  (zYQ PySem.F.slot_enumerate_next hT PySem.F.entry_enumerate_next ?_ (PySem.F.args_enumerate_next_1 _))))
 show wpAny _ _ (field (.ref e) 2 >>= _) _ _ _;refine zXn (zYS he rfl (x:=.ref it) rfl ?_);refine zXn (hn _ _ λh' x he' hx'=>?_);obtain ⟨o,ho,hc⟩:=hx';refine zXn (wpAny_isInstance (T := "StopIteration") (b:=true) ⟨o,ho,hc⟩ isSubtype_stop ?_);exact zXp (hQ _ he')
end
noncomputable def zK2 (K:Yb) (isT:Bool) (a:Yt):It :=
 ⟨λi H=>∃ xs x,(if isT then SqT K H a xs else SqL K H a xs)/\xs[i]?=some x,
  λi H v H'=>∃ T x,v=.ref T/\H T=none/\H'=upd H T (.tup [.int i,x]) /\ ∀ xs,(if isT then SqT K H a xs else SqL K H a xs)->xs[i]?=some x,
  λi H=>∃ xs,(if isT then SqT K H a xs else SqL K H a xs)/\xs.length<=i⟩
def zSD (isT:Bool) (it a:Yt) (i:Nat) (h:Heap):Prop:=if isT then h.IsTupleIter it a i else h.IsListIter it a i
theorem zOb {P:Ym} {w:Yo} {K:Yb} {es:Yi} {ek:Nat} {ep:Pos} {isT:Bool} {e it a:Yt} (hei:e≠it) (hae:a≠e) (hai:a≠it) :
  Turn P w K (.Tuple es ek ep) (zK2 K isT a) [e,it] e (λi h=>(∃ old,IsEnum h e it i old)/\zSD isT it a i h) where
 mem:=by simp
 obj:=λi h ⟨⟨old,he⟩,st⟩ c hc=>by
  simp only[zXz,zYI,zY8]at hc;rcases hc with rfl|rfl
  .exact ⟨_,he,λv m=>by cases m⟩
  .cases isT with
   |true=>obtain ⟨o1,e1,_,d1⟩:=(show h.IsTupleIter c a i from st);exact ⟨_,e1,λv m=>by rw[d1]at m;cases m⟩
   |false=>obtain ⟨o1,e1,_,d1⟩:=(show h.IsListIter c a i from st);exact ⟨_,e1,λv m=>by rw[d1]at m;cases m⟩
 keep:=λi h h' ⟨⟨old,he⟩,st⟩ k=>by
  refine ⟨⟨old,k e (by simp) _ he⟩,?_⟩;cases isT with
  |true=>obtain ⟨o1,e1,r⟩:=(show h.IsTupleIter it a i from st);exact ⟨o1,k it (by simp) _ e1,r⟩
  |false=>obtain ⟨o1,e1,r⟩:=(show h.IsListIter it a i from st);exact ⟨o1,k it (by simp) _ e1,r⟩
 item:=by
  intro X hP hw hK hc i zB s σ H E I hf Z hg;subst hP hw hK;obtain ⟨⟨old,he⟩,st⟩:=Z;obtain ⟨xs,x,sa,hx⟩:=hg;have hch:∀ c∈[e,it],zCV X zB H c:=hf;have elt:e<s.heap.objs.size:=zXy he
  have fin:∀ (its:List Value) (u:Value) (h':Heap) (tk:Nat),zb xs its->its[i]?=some u->IsEnumOut h' e it ((i:Int)+1) u s.heap.objs.size->zSD isT it a (i+1) h'->h'.get? s.heap.objs.size=some { cls:=.type "tuple", data:=.seq #[.int i tk,u] } ->
    (∀ b o,b≠e->b≠it->s.heap.get? b=some o->h'.get? b=some o)->it<s.heap.objs.size ->
    ∃ u',some (Value.ref s.heap.objs.size)=some u'/\wpAny (model X.prog X.w) X.A (letOwnedTupleGo (.Tuple es ek ep) (.ref e) u') (λ_ s2=>∃ x H',Inv X zB σ H' s2/\zp x u'/\(zK2 X.K isT a).yld i H x H'/\((∃ old,IsEnum s2.heap e it ((i+1:Nat):Int) old)/\zSD isT it a (i+1) s2.heap) /\ ∀ b∈[e,it],H' b=none) E { s with heap:=h',toks:=tk+1 }:=by
   intro its u h' tk rv hu ho st' hT hk ilt;refine ⟨_,rfl,wpAny_letOwnedTupleGo_enum ho λh2 he2 e2=>?_⟩;have kk:∀ c o,c∉[e,it]->s.heap.get? c=some o->h2.get? c=some o:=λc o n q=>by
    simp only[zXz,zYI,zY8,not_or]at n;exact e2.extBut _ _ n.1 (hk c o n.1 n.2 q)
   have NT:=e2.extBut _ _ (zZI elt) hT;have hfr:H s.heap.objs.size=none:=I.hok.fresh (zXt _);obtain ⟨u2,hu2,ru⟩:=rv.get hx;rw[hu]at hu2;cases hu2;refine ⟨.ref s.heap.objs.size,upd H s.heap.objs.size (.tup [.int i,x]),zGI (s:=s) (h':=h2) (t':=tk+1) I hch kk (zXt _) ?_,rfl,⟨_,x,rfl,hfr,rfl,λws hw=>?_⟩,⟨⟨u,by simpa using he2⟩,?_⟩,λc hm=>?_⟩
   .exact ⟨by show 2<=sizeLine;decide,[.int i tk,u],.cons ⟨tk,rfl⟩ (.cons ru .nil),⟨_,NT,rfl,⟨_,rfl⟩,rfl⟩⟩
   .cases isT with
    |true=>rw[I.tuple_inj hw sa];exact hx
    |false=>rw[I.list_inj hw sa];exact hx
   .cases isT with
    |true=>obtain ⟨o1,e1,r⟩:=(show h'.IsTupleIter it a (i+1)from st');exact ⟨o1,e2.extBut _ _ hei.symm e1,r⟩
    |false=>obtain ⟨o1,e1,r⟩:=(show h'.IsListIter it a (i+1)from st');exact ⟨o1,e2.extBut _ _ hei.symm e1,r⟩
   .have lt:c<s.heap.objs.size:=by
     simp only[zXz,zYI,zY8]at hm;rcases hm with rfl|rfl
     .exact elt
     .exact ilt
    rw[zZ (zX8 lt)];exact (hf c hm).1
  have hef:e∉[it,a]:=by simp only[zXz,zYI,zY8,not_or];exact ⟨hei,hae.symm⟩
  cases isT with
  |true=>
   obtain ⟨its,rv,p1,z1⟩:=I.tuple sa;have st':s.heap.IsTupleIter it a i:=st;obtain ⟨o1,e1,_⟩:=id st';refine wpAny_pyNext_enum_itemD (zVk (prog:=X.prog) (w:=X.w) (A:=X.A.in1) (I.ok.hd hc) it a hai its.toArray) he ⟨st',show s.heap.IsTuple a its.toArray from p1⟩ (by have:=rv.length;have:=(zXq.mp hx).1;rw[zXv];omega) hei hef λu h' tk hu ho hs hT _ hk=>?_;exact fin its u h' tk rv (by simpa using hu) ho hs.1 hT hk (zXy e1)
  |false=>
   obtain ⟨its,rv,p1,z1⟩:=I.list sa;have st':s.heap.IsListIter it a i:=st;obtain ⟨o1,e1,_⟩:=id st';refine wpAny_pyNext_enum_itemD (Draws.list (prog:=X.prog) (w:=X.w) (A:=X.A.in1) (I.ok.hd hc) it a hai its.toArray) he ⟨st',p1.isList⟩ (by have:=rv.length;have:=(zXq.mp hx).1;rw[zXv];omega) hei hef λu h' tk hu ho hs hT _ hk=>?_;exact fin its u h' tk rv (by simpa using hu) ho hs.1 hT hk (zXy e1)
 done:=by
  intro X hP hw hK hc i zB s σ H E I hf Z hg;subst hP hw hK;obtain ⟨⟨old,he⟩,st⟩:=Z;obtain ⟨xs,sa,hz⟩:=hg;have out:∀ h',Heap.ExtBut it s.heap h'->(none:Option Value)=none/\Inv X zB σ H { s with heap:=h' }:=λh' x=>⟨rfl,zIp (s:=s) (h':=h') (t':=s.toks) I hf λc o n q=>x c o (λm=>n (by simp[m])) q⟩;cases isT with
  |true=>
   obtain ⟨its,rv,p1,z1⟩:=I.tuple sa;refine zLf he (λQ' E' hq=>zEk (I.ok.hd hc) (show s.heap.IsTupleIter it a i from st) (show s.heap.IsTuple a its.toArray from p1) (by have:=rv.length;simp;omega) hq) out
  |false=>
   obtain ⟨its,rv,p1,z1⟩:=I.list sa;refine zLf he (λQ' E' hq=>wpAny_nextOf_list_end (I.ok.hd hc) (show s.heap.IsListIter it a i from st) p1.isList (by have:=rv.length;simp;omega) hq) out
 self:=λ_ _ _ _ _ Z h=>let ⟨⟨_,he⟩,_⟩:=Z;wpAny_pyIter_enum he h
section
variable {X:Cx} {a:Expr} {es:Yi} {ek:Nat} {ep p pos:Pos}
theorem zSk {te:TE} (hg:Gl X "enumerate") (hm:X.mg "enumerate" = none) (ha:PE X a te) (hs:starEach [a] X.env=(false,eval a X.env)::starEach [] X.env:=by rfl) (hpl:(backTo pos (starEach [] X.env)).any (·.1)=false:=by rfl) :
  PI X (.Tuple es ek ep) (.Call (.Name "enumerate" p) [a] [] pos) (λσ H R=>te σ H λx H1=>∃ l,x=.ref l/\((∃ xs,SqT X.K H1 l xs)/\R (zK2 X.K true l) H1\/(∃ xs,SqL X.K H1 l xs)/\R (zK2 X.K false l) H1)):=by
 intro zB s σ H R I h;refine wpAny_Call_Name_kw (zDV I hg hm (by rfl) ?_ (by decide) (by decide));refine callWith_type1 ?_ hs hpl;rw[hs];refine Calls.spliced_cons (thn (ha zB s σ H _ I h) λu s1 ⟨x,H1,I1,r1,l,hx,q⟩=>Calls.spliced_nil ?_);subst hx;cases r1
 have out:∀ (isT:Bool) (h':Heap),l<s1.heap.objs.size->IsEnum h' (s1.heap.objs.size+1) s1.heap.objs.size 0 .none->zSD isT s1.heap.objs.size l 0 h'->(∀ c o,s1.heap.get? c=some o->h'.get? c=some o)->R (zK2 X.K isT l) H1 ->
   wpAny (model X.prog X.w) X.A (pyIter (.ref (s1.heap.objs.size+1))) (PIE X zB σ (.Tuple es ek ep) R) X.xe { s1 with heap:=h' }:=by
  intro isT h' hl he st kp q;refine wpAny_pyIter_enum (s:={ s1 with heap:=h' }) he ?_;refine ⟨s1.heap.objs.size+1,[s1.heap.objs.size+1,s1.heap.objs.size],_,_,H1,rfl,I1.kept (t':=s1.toks) kp,zOb (isT:=isT) (zZI (zYk _)) (zX8 (zYc hl)) (zX8 hl),⟨⟨_,he⟩,st⟩,λc hc=>?_,q⟩;have ge:s1.heap.objs.size<=c:=by
   simp only[zXz,zYI,zY8]at hc;rcases hc with rfl|rfl
   .exact zZV _
   .exact zXt _
  exact I1.fpOk ge (I1.hok.fresh ge)
 rcases q with ⟨⟨xs,hq⟩,q⟩|⟨⟨xs,hq⟩,q⟩
 .obtain ⟨its,rv,p1,_⟩:=I1.tuple hq;have hl:l<s1.heap.objs.size:=by obtain ⟨_,e,_⟩:=p1;exact zXy e
  exact zNE (show s1.heap.IsTuple l its.toArray from p1) λh' he st kp=>out true h' hl he st kp q
 .obtain ⟨its,rv,p1,_⟩:=I1.list hq;have hl:l<s1.heap.objs.size:=by obtain ⟨_,_,e,_⟩:=p1;exact zXy e
  exact call_enumerate_list p1.isList λh' he st _ kp=>out false h' hl he st kp q
noncomputable def zJo (xs:List D):List D:=((List.range xs.length).zip xs).map λq=>D.tup [.int (q.1:Nat),q.2]
theorem zP6 {xs:List D} {i:Nat} {d:D} (h:(zJo xs)[i]?=some d):∃ x,xs[i]?=some x/\d=.tup [.int (i:Nat),x]:=by
 unfold zJo at h;rw[zYA]at h;cases e:((List.range xs.length).zip xs)[i]? with
 |none=>rw[e]at h;cases h
 |some pr=>
  rw[e]at h;cases h;obtain ⟨f1,f2⟩:=List.getElem?_zip_eq_some.mp e;have hi:i<xs.length:=(zXq.mp f2).1;rw[zZr hi]at f1;cases f1;exact ⟨pr.2,f2,rfl⟩
theorem zQN (xs:List D):(zJo xs).length=xs.length:=by unfold zJo;simp
noncomputable def zGP (f:FE):FI:=λσ M=>match f σ M with
 |some (x,M1)=>match zAJ M1 x with
  |some xs=>some (zJo xs,zDr x xs,M1)
  |none=>none
 |none=>none
theorem zTk {g:FE} (hg:Gl X "enumerate") (hm:X.mg "enumerate" = none) (h:QE X a g) (hs:starEach [a] X.env=(false,eval a X.env)::starEach [] X.env:=by rfl) (hpl:(backTo pos (starEach [] X.env)).any (·.1)=false:=by rfl) :
  QI X (.Tuple es ek ep) (.Call (.Name "enumerate" p) [a] [] pos) (zGP g):=.mk <| PI.imp (zSk hg hm h.un hs hpl) λτ H R zz=>by
 obtain ⟨L,σ,M,xs,gd,M',c,rs,hf,q⟩:=zz;unfold zGP at hf;split at hf
 .rename_i y M1 e1;split at hf
  .rename_i zs e2;cases hf;refine ⟨L,σ,M,_,_,c,rs,e1,λL1 H1 v s1 c1 r1=>?_⟩
   have step:∀ (isT:Bool) (l:Yt) (L2:Yg) (H2:Hp) (vs:List V),(if isT then SqT X.K H2 l vs else SqL X.K H2 l vs)->zR L2 H2 zs vs ->
     (∀ (i:Nat) d,(zJo zs)[i]?=some d->(zK2 X.K isT l).go i H2 /\ ∀ v H'',(zK2 X.K isT l).yld i H2 v H''->(∀ a o,H2 a=some o->H'' a=some o)/\Rep L2 H'' d v)/\(zK2 X.K isT l).stop (zJo zs).length H2:=by
    intro isT l L2 H2 vs hq r;refine ⟨λi d hd=>?_,⟨vs,hq,by rw[zQN,r.length];exact zXt _⟩⟩;obtain ⟨x,hx,rfl⟩:=zP6 hd;obtain ⟨u,hu,ru⟩:=r.get hx;refine ⟨⟨vs,u,hq,hu⟩,λv H3 hy=>?_⟩;obtain ⟨T,x',rfl,hT,rfl,hxx⟩:=hy;have ex:=hxx vs hq;rw[hu]at ex;cases ex;exact ⟨λa o e=>by rw[zZ (zAL e hT)];exact e,Rep.newTup hT (.cons zAb (.cons ru .nil))⟩
   unfold zAJ at e2;cases t:zBz y with
   |some ws=>
    rw[t]at e2;cases e2;obtain ⟨a,vs,rfl,e3,r3⟩:=zBk r1 t;refine ⟨a,rfl,.inl ⟨⟨vs,.of e3⟩,q L1 H1 _ s1 c1 λL2 H2 M2 s2 c2 _=>?_⟩⟩;exact step true a L2 H2 vs (.of (s2.tup a vs e3)) (r3.stp s2)
   |none=>
    rw[t]at e2;obtain ⟨a,vs,rfl,e3,r3⟩:=zA6 c1 r1 e2;refine ⟨a,rfl,.inr ⟨⟨vs,.inl e3⟩,q L1 H1 _ s1 c1 λL2 H2 M2 s2 c2 hgd=>?_⟩⟩;have key:∃ vs',SqL X.K H2 a vs'/\zR L2 H2 zs vs':=by
     cases y with
     |fl ys=>
      cases e2;obtain ⟨p',vs',hp',_,e5,e6,r6⟩:=r1;cases hp';exact ⟨vs',.of (s2.old _ _ e5 e6),r6.stp s2⟩
     |dat d=>
      cases d with
      |ref n=>
       unfold za Rep at r1;obtain ⟨a',ha',e5⟩:=r1;cases ha';have e6:L2[n]?=some a:=by obtain ⟨N,hN⟩:=s2.pre;rw[hN];exact zB6 e5
       rcases hgd with z|z
       .obtain ⟨vs',e7,r7⟩:=c2.obj n a _ e6 z;exact ⟨vs',.of e7,r7⟩
       .obtain ⟨o,vs',e7,r7⟩:=c2.obj n a _ e6 z;exact ⟨vs',.inl (.inr ⟨o,e7⟩),r7⟩
      |_=>cases e2
    obtain ⟨vs',hq,r7⟩:=key;exact step false a L2 H2 vs' hq r7
  .cases hf
 .cases hf
end
section
variable {κ:Type} [DecidableEq κ]
noncomputable def zCJ (kf:D->Option κ) (kvs:List (D × D)) (k:κ):Option D:=(kvs.find? λp=>decide (kf p.1=some k)).map (·.2)
noncomputable def zIa (kf:D->Option κ) (kvs:List (D × D)) (k:κ) (kd v:D):List (D × D) :=
 if (kvs.any λp=>decide (kf p.1=some k))=true then kvs.map λp=>if kf p.1=some k then (p.1,v) else p else kvs++[(kd,v)]
theorem zEH (k:κ):∀ {kvs:List (D × D)} {vs:List (κ × V)},zAy kf L H kvs vs->(zCJ kf kvs k=none/\zD6 vs k=none) \/ ∃ d v,zCJ kf kvs k=some d/\zD6 vs k=some v/\Rep L H d v
 |[],vs,h=>by unfold zAy at h;subst h;exact .inl ⟨rfl,rfl⟩
 |p::r,vs,h=>by
  obtain ⟨k',v,r',rfl,e,h1,h2⟩:=h;by_cases q:k'=k
  .subst q;exact .inr ⟨p.2,v,by unfold zCJ;rw[zZZ,e];simp,by rw[zFU rfl],h1⟩
  .have e1:zCJ kf (p::r) k=zCJ kf r k:=by unfold zCJ;rw[zZZ,e];simp[q]
   rw[e1,zFD q];exact zEH k h2
theorem zLx (k:κ):∀ {kvs:List (D × D)} {vs:List (κ × V)},zAy kf L H kvs vs->(kvs.any λp=>decide (kf p.1=some k))=(vs.any λkv=>decide (kv.1=k))
 |[],vs,h=>by unfold zAy at h;subst h;rfl
 |p::r,vs,h=>by
  obtain ⟨k',v,r',rfl,e,h1,h2⟩:=h;rw[List.any_cons,List.any_cons,zLx k h2,e];simp
theorem zHg (k:κ) (hd:Rep L H d u):∀ {kvs:List (D × D)} {vs:List (κ × V)},zAy kf L H kvs vs->zAy kf L H (kvs.map λp=>if kf p.1=some k then (p.1,d) else p) (vs.map λkv=>if kv.1=k then (kv.1,u) else kv)
 |[],vs,h=>by unfold zAy at h;subst h;rfl
 |p::r,vs,h=>by
  obtain ⟨k',v,r',rfl,e,h1,h2⟩:=h;rw[zX6,zX6];by_cases q:k'=k
  .subst q;rw[zX2 e,zX2 rfl];exact ⟨k',u,_,rfl,e,hd,zHg k' hd h2⟩
  .rw[zX5 (by rw[e];simpa using q),zX5 q];exact ⟨k',v,_,rfl,e,h1,zHg k hd h2⟩
theorem zJa (hk:kf kd=some k) (hd:Rep L H d u):∀ {kvs:List (D × D)} {vs:List (κ × V)},zAy kf L H kvs vs->zAy kf L H (kvs++[(kd,d)]) (vs++[(k,u)])
 |[],vs,h=>by unfold zAy at h;subst h;exact ⟨k,u,[],rfl,hk,hd,rfl⟩
 |p::r,vs,h=>by
  obtain ⟨k',v,r',rfl,e,h1,h2⟩:=h;exact ⟨k',v,_,rfl,e,h1,zJa hk hd h2⟩
theorem zNe {kf:D->Option κ} {L:Yg} {H:Hp} {k:κ} {kd d:D} {u:V} (hk:kf kd=some k) (hd:Rep L H d u) {kvs:List (D × D)} {vs:List (κ × V)} (h:zAy kf L H kvs vs):zAy kf L H (zIa kf kvs k kd d) (zCp vs k u):=by
 unfold zIa zCp;rw[zLx k h];split
 .exact zHg k hd h
 .exact zJa hk hd h
end
theorem zLv:∀ {ds:List D} {vs:List V} {ks:List Key},zR L H ds vs->zHp ds=some ks->vs=ks.map kV
 |[],vs,ks,h,e=>by cases e;unfold zR at h;exact h
 |d::ds,vs,ks,h,e=>by
  unfold zR at h;obtain ⟨v,r,rfl,h1,h2⟩:=h;unfold zHp at e;cases e1:zCR d with
  |none=>rw[e1]at e;cases e
  |some k=>
   cases e2:zHp ds with
   |none=>rw[e1,e2]at e;cases e
   |some ks'=>
    rw[e1,e2]at e;cases e;rw[zGo h1 e1,zLv h2 e2];rfl
theorem zMz (h:Rep L H d v) (e:tkD d=some ks):∃ b,v=.ref b/\H b=some (.tup (ks.map kV)):=by
 cases d with
 |tup ds=>
  unfold Rep at h;obtain ⟨a,vs,rfl,e1,r⟩:=h;exact ⟨a,rfl,by rw[e1,zLv r e]⟩
 |_=>cases e
noncomputable def zDJ (M:Mem) (x:EV) (k:D):Option (Option D):=match x with
 |.dat (.ref n)=>match M[n]? with
  |some (.dict kvs)=>match zCR k with
   |some kk=>some (zCJ zCR kvs kk)
   |none=>none
  |some (.dicT kvs)=>match tkD k with
   |some kk=>some (zCJ tkD kvs kk)
   |none=>none
  |some (.froK kvs)=>match zCR k with
   |some kk=>some (zCJ zCR kvs kk)
   |none=>none
  |some (.froT kvs)=>match tkD k with
   |some kk=>some (zCJ tkD kvs kk)
   |none=>none
  |_=>none
 |_=>none
def zWg (L:Yg) (H:Hp):Option D->Option V->Prop
 |none,o=>o=none
 |some d,o=>∃ v,o=some v/\Rep L H d v
theorem zFS {K:Yb} {L:Yg} {M:Mem} {H H0:Hp} {x:EV} {v w:V} {k:D} {o:Option D} (c:Cor K L M H) (rx:za H0 L H x v) (rk:Rep L H k w) (e:zDJ M x k=some o):∃ a ov,v=.ref a/\zDw H a w ov/\zWg L H o ov:=by
 cases x with
 |fl xs=>cases e
 |dat d=>
  cases d with
  |ref n=>
   unfold za Rep at rx;obtain ⟨a,rfl,ea⟩:=rx;unfold zDJ at e;dsimp only at e;cases q:M[n]? with
   |none=>rw[q]at e;cases e
   |some m=>
    rw[q]at e;have z:=c.obj n a m ea q;cases m with
    |dict kvs=>
     cases e2:zCR k with
     |none=>rw[e2]at e;cases e
     |some kk=>
      rw[e2]at e;cases e;obtain ⟨vs,e3,r⟩:=z;refine ⟨a,zD6 vs kk,rfl,?_,?_⟩
      .rw[zGo rk e2];exact zDw.k e3
      .rcases zEH kk r with ⟨h1,h2⟩|⟨d,v,h1,h2,h3⟩
       .rw[h1,h2];rfl
       .rw[h1,h2];exact ⟨v,rfl,h3⟩
    |dicT kvs=>
     cases e2:tkD k with
     |none=>rw[e2]at e;cases e
     |some kk=>
      rw[e2]at e;cases e;obtain ⟨vs,e3,r⟩:=z;obtain ⟨b,rfl,eb⟩:=zMz rk e2;refine ⟨a,zD6 vs kk,rfl,zDw.t e3 eb,?_⟩;rcases zEH kk r with ⟨h1,h2⟩|⟨d,v,h1,h2,h3⟩
      .rw[h1,h2];rfl
      .rw[h1,h2];exact ⟨v,rfl,h3⟩
    |froK kvs=>
     cases e2:zCR k with
     |none=>rw[e2]at e;cases e
     |some kk=>
      rw[e2]at e;cases e;obtain ⟨ob,vs,e3,r⟩:=z;refine ⟨a,zD6 vs kk,rfl,.inl ⟨vs,kk,.inr ⟨ob,e3⟩,zGo rk e2,rfl⟩,?_⟩;rcases zEH kk r with ⟨h1,h2⟩|⟨d,v,h1,h2,h3⟩
      .rw[h1,h2];rfl
      .rw[h1,h2];exact ⟨v,rfl,h3⟩
    |froT kvs=>
     cases e2:tkD k with
     |none=>rw[e2]at e;cases e
     |some kk=>
      rw[e2]at e;cases e;obtain ⟨ob,vs,e3,r⟩:=z;obtain ⟨b,rfl,eb⟩:=zMz rk e2;refine ⟨a,zD6 vs kk,rfl,.inr ⟨vs,kk,b,.inr ⟨ob,e3⟩,rfl,eb,rfl⟩,?_⟩;rcases zEH kk r with ⟨h1,h2⟩|⟨d,v,h1,h2,h3⟩
      .rw[h1,h2];rfl
      .rw[h1,h2];exact ⟨v,rfl,h3⟩
    |_=>cases e
  |_=>cases e
noncomputable def zEJ (M:Mem) (n:Nat) (k v:D):Option Mem:=match M[n]? with
 |some (.dict kvs)=>match zCR k with
  |some kk=>if kvs.length<sizeLine then some (M.set n (.dict (zIa zCR kvs kk k v))) else none
  |none=>none
 |some (.dicT kvs)=>match tkD k with
  |some kk=>if kvs.length<sizeLine then some (M.set n (.dicT (zIa tkD kvs kk k v))) else none
  |none=>none
 |_=>none
theorem zLL {K:Yb} {L:Yg} {M M':Mem} {H:Hp} {n:Nat} {a:Yt} {k v:D} {w u:V} (c:Cor K L M H) (ea:L[n]?=some a) (rk:Rep L H k w) (rv:Rep L H v u) (e:zEJ M n k v=some M'):∃ H',zGg H a w u H'/\Cor K L M' H'/\Stp L H L H':=by
 unfold zEJ at e;cases q:M[n]? with
 |none=>rw[q]at e;cases e
 |some m=>
  rw[q]at e;have z:=c.obj n a m ea q;cases m with
  |dict kvs=>
   cases e2:zCR k with
   |none=>rw[e2]at e;cases e
   |some kk=>
    rw[e2]at e;dsimp only at e;split at e
    .rename_i hl;cases e;obtain ⟨vs,e3,r⟩:=z;obtain ⟨c3,s3⟩:=c.put (m:=.dict (zIa zCR kvs kk k v)) (o':=.dK (zCp vs kk u)) ea e3 (λ_ z=>by cases z) (λ_ _ z=>by cases z) λs3=>⟨_,zAH,(zNe e2 rv r).stp s3⟩;refine ⟨_,?_,c3,s3⟩;rw[zGo rk e2];exact zGg.k e3 (by rw[r.length];exact hl)
    .cases e
  |dicT kvs=>
   cases e2:tkD k with
   |none=>rw[e2]at e;cases e
   |some kk=>
    rw[e2]at e;dsimp only at e;split at e
    .rename_i hl;cases e;obtain ⟨vs,e3,r⟩:=z;obtain ⟨b,rfl,eb⟩:=zMz rk e2;obtain ⟨c3,s3⟩:=c.put (m:=.dicT (zIa tkD kvs kk k v)) (o':=.dT (zCp vs kk u)) ea e3 (λ_ z=>by cases z) (λ_ _ z=>by cases z) λs3=>⟨_,zAH,(zNe e2 rv r).stp s3⟩;exact ⟨_,zGg.t e3 eb (by rw[r.length];exact hl),c3,s3⟩
    .cases e
  |_=>cases e
section
variable {X:Cx} {a b e o i value:Expr} {pos pos' apos cpos:Pos} {f g h:FE}
noncomputable def zx:K2:=λx y M=>match y with
 |.dat k=>match zDJ M x k with
  |some (some d)=>some (.dat d,M)
  |_=>none
 |_=>none
theorem zQK {K:Yb}:zDH K (λx y H Q=>∃ a v,x=.ref a/\zDw H a y (some v)/\Q v H) zx:=by
 intro L M M' H H0 x y d v w Q c rx ry hk q;unfold zx at hk;split at hk
 .rename_i k;split at hk
  .rename_i d' e1;cases hk;obtain ⟨a,ov,rfl,h1,h2⟩:=zFS c rx ry e1;obtain ⟨u,rfl,r⟩:=h2;exact ⟨a,u,rfl,h1,q L H u (.refl L H) c r⟩
  .cases hk
 .cases hk
theorem zUS (hu:X.A.units+1<cLine) (h1:QE X o f) (h2:QE X i g) (hs:zVR i:=by intro _ _;rfl):QE X (.Subscript o i pos) (fOp zx f g):=.mk <| PE.imp (zS7 hu h1.un h2.un hs) λ_ _ _ h=>zDd zQK h
noncomputable def zBC (neg:Bool):K2:=λx y M=>match x with
  |.dat k=>match zDJ M y k with
    |some o=>some (.dat (.bl (if neg then !o.isSome else o.isSome)),M)
    |none=>none
  |_=>none
theorem zLQ {o:Option D} {ov:Option V} (h:zWg L H o ov):ov.isSome=o.isSome:=by
  cases o with
  | none => have h' : ov = none := h
            rw[h'];rfl
  |some d=>obtain ⟨v,rfl,_⟩:=h;rfl
theorem zTR {K:Yb}:zDH K (λy x H Q=>∃ a o,x=.ref a/\zDw H a y o/\Q (.bl o.isSome) H) (zBC false):=by
 intro L M M' H H0 x y d v w Q c rx ry hk q;unfold zBC at hk;split at hk
 .rename_i k;split at hk
  .rename_i o e1;cases hk;obtain ⟨a,ov,rfl,h1,h2⟩:=zFS c ry rx e1;refine ⟨a,ov,rfl,h1,?_⟩;rw[zLQ h2];exact q L H _ (.refl L H) c (zB2 (L:=L) (H:=H))
  .cases hk
 .cases hk
theorem zMp {K:Yb}:zDH K (λy x H Q=>∃ a o,x=.ref a/\zDw H a y o/\Q (.bl (!o.isSome)) H) (zBC true):=by
 intro L M M' H H0 x y d v w Q c rx ry hk q;unfold zBC at hk;split at hk
 .rename_i k;split at hk
  .rename_i o e1;cases hk;obtain ⟨a,ov,rfl,h1,h2⟩:=zFS c ry rx e1;refine ⟨a,ov,rfl,h1,?_⟩;rw[zLQ h2];exact q L H _ (.refl L H) c (zB2 (L:=L) (H:=H))
  .cases hk
 .cases hk
theorem zVb (hu:X.A.units+1<cLine) (h1:QE X a f) (h2:QE X b g) (hm:behindInMarks .In b=false:=by rfl):QT X (.Compare a [.In] [b] pos) (tst (fOp (zBC false) f g)):=.mk <| PT.imp (zRA (zUO hu h1.un h2.un) hm) λ_ _ _ h=>zEx (λ_ _ _ z=>zDd zTR z) (zEX h)
theorem zPL (hu:X.A.units+1<cLine) (h1:QE X a f) (h2:QE X b g) (hm:behindInMarks .NotIn b=false:=by rfl):QT X (.Compare a [.NotIn] [b] pos) (tst (fOp (zBC true) f g)):=.mk <| PT.imp (zRA (zPY hu h1.un h2.un) hm) λ_ _ _ h=>zEx (λ_ _ _ z=>zDd zMp z) (zEX h)
noncomputable def zCO (fv fo fi:FE):FS:=λσ M=>match toD fv σ M with
 |some (v,M1)=>match toD fo σ M1 with
  |some (.ref n,M2)=>match toD fi σ M2 with
   |some (k,M3)=>match zEJ M3 n k v with
    |some M4=>some (.nx,σ,M4)
    |none=>none
   |none=>none
  |_=>none
 |none=>none
theorem zUg (hu:X.A.units+1<cLine) (hv:QE X value f) (ho:QE X o g) (hi:QE X i h) (hs:swapsWith value (some (.Subscript o i pos')) pos.line X.env=pure false:=by rfl):QS X (.Assign [.Subscript o i pos'] value pos) (zCO f g h) :=
 .mk <| PS.imp (zTq hu (zA5 ho).un (zA5 hi).un (zA5 hv).un hs) λE τ H zz=>by
  obtain ⟨L,σ,M,out,σ',M',c,rs,hf,q⟩:=zz;unfold zCO at hf;split at hf
  .rename_i v M1 e1;split at hf
   .rename_i n M2 e2;split at hf
    .rename_i k M3 e3;split at hf
     .rename_i M4 e4;cases hf;refine ⟨L,σ,M,_,_,c,rs,e1,λL1 H1 u s1 c1 r1=>⟨L1,σ,M1,_,_,c1,rs.stp s1,e2,λL2 H2 y s2 c2 r2=>⟨L2,σ,M2,_,_,c2,(rs.stp s1).stp s2,e3,λL3 H3 z s3 c3 r3=>?_⟩⟩⟩;unfold Rep at r2;obtain ⟨a,rfl,ea⟩:=r2;have ea3:L3[n]?=some a:=by obtain ⟨N,hN⟩:=s3.pre;rw[hN];exact zB6 ea
      obtain ⟨H4,h1,h2,h3⟩:=zLL c3 ea3 r3 ((r1.stp s2).stp s3) e4;exact ⟨a,H4,rfl,h1,q L3 H4 (((s1.trans s2).trans s3).trans h3) h2 τ ((((rs.stp s1).stp s2).stp s3).stp h3)⟩
     .cases hf
    .cases hf
   .cases hf
  .cases hf
noncomputable def zB5 (fo fi fx:FE):FE:=λσ M=>match toD fo σ M with
 |some (.ref n,M1)=>match M1[n]? with
  |some (.dict _)|some (.dicT _)=>match toD fi σ M1 with
   |some (k,M2)=>match toD fx σ M2 with
    |some (x,M3)=>match zDJ M3 (.dat (.ref n)) k with
     |some o=>some (.dat (o.getD x),M3)
     |none=>none
    |none=>none
   |none=>none
  |_=>none
 |_=>none
theorem zSF (hu:X.A.units+1<cLine) (ho:QE X o f) (hi:QE X i g) (hx:QE X e h) (m:M2 X o "get" apos i e cpos):QE X (.Call (.Attribute o "get" apos) [i,e] [] cpos) (zB5 f g h) :=
 .mk <| PE.imp (zRr hu (zA5 ho).un (zA5 hi).un (zA5 hx).un m) λτ H Q zz=>by
  obtain ⟨L,σ,M,d,M',c,rs,hf,q⟩:=zz
  have key:∀ n M1,toD f σ M=some (.ref n,M1)->(∃ kvs,M1[n]?=some (.dict kvs)\/M1[n]?=some (.dicT kvs))->(match toD g σ M1 with
   |some (k,M2)=>match toD h σ M2 with
    |some (x,M3)=>match zDJ M3 (.dat (.ref n)) k with
     |some o=>some (EV.dat (o.getD x),M3)
     |none=>none
    |none=>none
   |none=>none)=some (d,M')->zRH (trD X.K (toD f)) (trD X.K (toD g)) (trD X.K (toD h)) τ H Q:=by
   intro n M1 e1 hd hf;split at hf
   .rename_i k M2 e2;split at hf
    .rename_i x M3 e3;split at hf
     .rename_i ov e4;cases hf;refine ⟨L,σ,M,_,_,c,rs,e1,λL1 H1 u s1 c1 r1=>?_⟩;unfold Rep at r1;obtain ⟨a,rfl,ea⟩:=r1;refine ⟨a,rfl,?_,L1,σ,M1,_,_,c1,rs.stp s1,e2,λL2 H2 y s2 c2 r2=>⟨L2,σ,M2,_,_,c2,(rs.stp s1).stp s2,e3,λL3 H3 z s3 c3 r3=>?_⟩⟩
      .obtain ⟨kvs,hk|hk⟩:=hd
       .obtain ⟨vs,e5,_⟩:=c1.obj n a _ ea hk;exact .inl ⟨vs,.inl e5⟩
       .obtain ⟨vs,e5,_⟩:=c1.obj n a _ ea hk;exact .inr ⟨vs,.inl e5⟩
      .have ra:za H L3 H3 (.dat (.ref n)) (.ref a):=by
        unfold za Rep;exact ⟨a,rfl,by obtain ⟨N,hN⟩:=(s2.trans s3).pre;rw[hN];exact zB6 ea⟩
       obtain ⟨a',o',e6,h1,h2⟩:=zFS c3 ra (r2.stp s3) e4;cases e6;refine ⟨o',h1,?_⟩;cases ov with
       |none=>
        have h':o'=none:=h2;subst h';exact q L3 H3 _ ((s1.trans s2).trans s3) c3 r3
       |some dd=>
        obtain ⟨v,rfl,rv⟩:=h2;exact q L3 H3 _ ((s1.trans s2).trans s3) c3 rv
     .cases hf
    .cases hf
   .cases hf
  unfold zB5 at hf;split at hf
  .rename_i n M1 e1;split at hf
   .rename_i kvs e5;exact key n M1 e1 ⟨kvs,.inl e5⟩ hf
   .rename_i kvs e5;exact key n M1 e1 ⟨kvs,.inr e5⟩ hf
   .cases hf
  .cases hf
end
end L3
namespace L2
open PySem PySem.Spec PyProof.Rows
section
variable {prog:Ym} {w:Yo} {A:Yn} {R:Yx} {s:Yl}
theorem zDR {kx vx target iter ifs rest scope pos it acc env}
  (h0:codeAny (model prog w) A (.compLoop (.DictComp kx vx (⟨target,iter,ifs,0⟩::rest) scope pos) 0 it acc env) R s)
  (h:wpAny (model prog w) A (pyIter it) (λit' s'=>codeAny (model prog w) A (.compLoop (.DictComp kx vx (⟨target,iter,ifs,0⟩::rest) scope pos) 0 it' acc env) R s')
   (notedBy (model prog w) A env λx s'=>R (.error x) s') s) :
  codeAny (model prog w) A (.compStart (.DictComp kx vx (⟨target,iter,ifs,0⟩::rest) scope pos) 0 it acc env) R s:=by
 refine codeAny_of_tree ?_;show wpAny _ _ ((compStart (.DictComp kx vx (⟨target,iter,ifs,0⟩::rest) scope pos) 0 it acc env).onRaise (λx=>do noteFrame x env;standAt theWindowsPlace)) _ _ s;refine wpAny_notedAt ?_;unfold compStart;refine zXn (wpAny_askSetting (wpAny_ite ?_));split
 .first
   |exact zXn (zXp (zXp (And.intro rfl h0)))
   |exact zXp (And.intro rfl h0)
 .first
   |exact zXn (zZA (zXn (zYl (zXn (zYJ h (λit' s' h'=>zXp (And.intro rfl h')) λ_ _ x=>x)))))
   | (refine zXn (zZA ?_);show wpAny _ _ (standAt iter.pos >>= _) _ _ s;exact zXn (zYl (zXn (zYJ h (λit' s' h'=>zXp (And.intro rfl h')) λ_ _ x=>x))))
end
section
variable {X:Cx} {zB:Yd} {σ:St} {H:Hp} {s:Yl}
theorem Inv.trackAt (I:Inv X zB σ H s) (ho:s.heap.get? D=some o) (hn:H D=none) (h0:X.s₀.heap.objs.size<=D) (hL:D≠X.env.locals) (hc:∀ x c,X.env.cells.lookup x=some c->c≠D) (hp:∀ p∈X.pn++zB,p.1≠D)
  (new:zAU X.prog X.w (upd H D u) s.heap D u):Inv X zB σ (upd H D u) s:=by
 have un:∀ b v,H b=some v->upd H D u b=some v:=λb v e=>by rw[zZ (zAL e hn)];exact e
 have e0:s={ s with heap:=s.heap,gens:=s.gens,drawn:=s.drawn,toks:=s.toks }:=by cases s;rfl
 rw[e0];refine I.step (g':=s.gens) (d':=s.drawn) (ch:=[D]) (λb hb=>?_) (λb v _ _ _ e _=>e) (λb v _ _ _ e _=>⟨v.slots,e⟩) (λb v hb e n=>?_) (λb v _ e=>⟨v,e⟩) (λb xs e=>un b _ e) (λb p v e=>un b _ e) (λb ps e=>⟨#[],by rw[un b _ e];simp⟩) (λm hm=>hm) (λb v e=>?_) I.bare
 .have:b=D:=by simpa using hb
  subst this;exact ⟨.inr h0,hL,hc,hp⟩
 .rw[zZ (λz=>hb (by simp[z]))];exact n
 .by_cases hb:b=D
  .subst hb;rw[zAH]at e;cases e;exact new
  .rw[zZ hb]at e;exact (I.hok b v e).stay (λc v hc q=>q) (λc q=>un c _ q) λc xs q=>un c _ q
theorem zOl (hu:A.units+1<cLine) (I:Inv X zB σ H s) (g:zGg H a y v H') (ry:zp y u) (rv:zp v r) (h:∀ s',Inv X zB σ H' s'->Heap.SameBut a s.heap s'.heap->Q () s') :
  wpAny (model X.prog X.w) A (dictSet a u r) Q E s:=by
 rcases g with ⟨kvs,k,e,ey,l,eH⟩|⟨kvs,k,b,e,ey,eb,l,eH⟩
 .subst ey eH;obtain ⟨z,hd,vs,rel,dd⟩:=zP1 I.hok e;have hz:vs.length<=sizeLine:=by rw[<-rel.length];exact z
  have hl:(zCp kvs k v).length<=sizeLine:=by have:=zCE kvs k v;omega
  refine wpAny_dictSet_pairs (hsz:=hz) (zGO ry) dd λh' dd' hs=>h _ ?_ hs;have he:∃ q,h'.get? a=some q:=let ⟨q,_,_,hq,_⟩:=dd';⟨q,hq⟩;exact zFE I (by rw[e];exact True.intro) hs he (zMe hl hd (rel.put k rv) dd')
 .subst ey eH;cases (show u=Value.ref b from ry);obtain ⟨z,hd,xs,rel,dd⟩:=zTy I.hok e;have hz:xs.length<=sizeLine:=by rw[<-Paired.length rel];exact z
  have hl:(zCp kvs k v).length<=sizeLine:=by have:=zCE kvs k v;omega
  refine wpAny_dictSet_heap (hsz:=hz) (show (tupleKind (zAQ X.prog X.w)).room A from Nat.lt_of_succ_lt hu) (zEv I.hok eb) dd λh' dd' hs=>h _ ?_ hs;obtain ⟨q,es,ep,hq,h2,h3,h4,_,h5⟩:=dd';refine zFE I (by rw[e];exact True.intro) hs ⟨q,hq⟩ ⟨hl,hd,_,(rel.put k eb rv).keeps λc ys ec=>?_,q,es,ep,hq,h2,h3,h4,h5⟩;rw[zZ (zJA ec e (λz=>nomatch z))];exact ec
end
noncomputable def zEz (isT:Bool):HO:=if isT then .dT [] else .dK []
noncomputable abbrev zCS:Obj:={ cls:=.type "dict", data:=.dict #[] }
section
variable {X:Cx} {zB:Yd} {σ:St} {H:Hp} {s:Yl} {scope:Y0} {cl:Yv} {fp:Yg} {it:Yt} {tn:Nat->Heap->Prop} {J:It} {tg kx vx iter:Expr} {ifs:Yi} {pos:Pos}
 {own:Yj} {g:TG} {tc:TT} {tk tv:TE} {E:Yc} {isT:Bool}
theorem zD2 (hu:X.A.units+1<cLine) (C:CompIn X scope own) (hcalm:X.calm=true) (I:Inv X zB σ H s) (T:Turn X.prog X.w X.K tg J fp it tn) (st:tn 0 s.heap) (hf:∀ b∈fp,zCV X zB H b)
  (c1:∀ x c,cl.lookup x=some c->X.env.cells.lookup x=some c) (c2:∀ y∈scope.names,y.2=.free->(cl.lookup y.1).isSome=true)
  (hg:PG (zM X zB scope cl s H fp) tg g) (hi:zGk (zM X zB scope cl s H fp) ifs tc) (hk:PE (zM X zB scope cl s H fp) kx tk) (hv:PE (zM X zB scope cl s H fp) vx tv)
  {RR:Value->Addr->Result->Shared->Prop} {QQ:Hp->Prop} {W:Nat->Nat->Hp->Prop} {m0:Nat} (w0:W 0 m0 (upd H s.heap.objs.size (zEz isT)))
  (turn:∀ i m H,W i m H->(J.stop i H/\QQ H) \/
   (J.go i H /\ ∀ x H',J.yld i H x H'->g x (clr own σ) H' λσ2 H2=>Ext (clr own σ) σ2/\tc σ2 H2 λb H3=>
    if b=true then tk σ2 H3 λk H4=>tv σ2 H4 λv H5=>∃ H6 m',zGg H5 s.heap.objs.size k v H6/\m'<m/\W (i+1) m' H6 else ∃ m',m'<m/\W (i+1) m' H3))
  (fin:∀ σc H' s',Inv (zM X zB scope cl s H fp) [] σc H' s'->QQ H'->RR (.ref s.heap.objs.size) (s.heap.objs.size+1) (.ok .next) s') :
  wpAny (model X.prog X.w) X.A newDict (λacc s₃=>wpAny (model X.prog X.w) X.A (newFunctionEnv scope X.env.globals cl [] X.env.qual none .none (some X.env)) (λcenv s₄=>
   codeAny (model X.prog X.w) X.A (.compStart (.DictComp kx vx [⟨tg,iter,ifs,0⟩] scope pos) 0 (.ref it) acc { cenv with scope:=relabel scope X.env }) (RR acc cenv.locals) s₄) E s₃) E s:=by
 have ob:∀ b:Nat,b∈fp->b<s.heap.objs.size:=λb hb=>let ⟨_,e,_⟩:=T.obj 0 _ st b hb;zXy e;refine zYG (zC2 ?_);have sz1:(s.heap.push zCS).objs.size=s.heap.objs.size+1:=zYT ..;have I4:=zFe (X:=X) (zB:=zB) (σ:=σ) (σc:=clr own σ) (H:=H) (s:=s) (scope:=scope) (cl:=cl) (fp:=fp) C.sc I hf ob c1 c2 (zBc own σ) (λi x v h1 h2 h3=>by
  obtain ⟨a,b⟩:=zC5 own σ i v h2;rcases C.nm i x h1 with z|z|z
  .exact absurd z b
  .exact absurd (zCU x z) h3
  .exact ⟨z,a⟩) zCS (by intro v z;cases z) rfl rfl
 have st4:tn 0 (pushCells ((s.heap.push zCS).push { cls:=.type "dict", data:=.dict #[] }) scope.names):=T.keep 0 _ _ st λb _ o e=>pushCells_keeps _ _ b o (zXo _ (zXo _ e));unfold newEnv;rw[sz1];have hDfp:s.heap.objs.size∉fp:=λz=>zYV _ (ob _ z);obtain ⟨pD,nD,neD,nfD,dD⟩:=I4.pin (s.heap.objs.size,zCS) (by simp);have hcD:∀ x c,(zM X zB scope cl s H fp).env.cells.lookup x=some c->c≠s.heap.objs.size:=λx c e z=>by
  obtain ⟨v,o,ho,hd⟩:=I4.cell x c e;rw[z,pD]at ho;cases ho;cases hd
 have hpn:∀ p∈(zM X zB scope cl s H fp).pn++[],p.1≠s.heap.objs.size:=λp hp=>by
  rw[zYX]at hp;have hp':p∈X.pn++zB:=hp;exact zX8 (zXy (I.pin p hp').1)
 have big:sysModules<s.heap.objs.size:=I.big;have hsm:(s.heap.objs.size==sysModules)=false:=by rw[beq_eq_false_iff_ne];exact zZI big
 have I5:Inv (zM X zB scope cl s H fp) [] (clr own σ) (upd H s.heap.objs.size (zEz isT)) { s with heap:=pushCells ((s.heap.push zCS).push { cls:=.type "dict", data:=.dict #[] }) scope.names }:=by
  have I4':Inv (zM X zB scope cl s H fp) [] (clr own σ) H { s with heap:=pushCells ((s.heap.push zCS).push { cls:=.type "dict", data:=.dict #[] }) scope.names }:=I4.pins_of λp hp=>nomatch hp;refine I4'.trackAt pD nD (zXt _) neD hcD hpn ?_;cases isT with
  |false=>exact ⟨zYZ _,hsm,[],.nil,zCS,#[],0,pD,⟨rfl,rfl,rfl⟩,rfl,λ_ he=>by simp at he,.nil,List.nodup_nil⟩
  |true=>exact ⟨zYZ _,hsm,[],.nil,zCS,#[],0,pD,⟨rfl,rfl,rfl⟩,rfl,rfl,List.nodup_nil⟩
 have fpk:∀ {H':Hp},(∀ b∈fp,H' b=none) -> ∀ b∈fp,zCV (zM X zB scope cl s H fp) [] H' b:=λ{H'} hn b hb=>
  ⟨hn b hb,(I4.ok.exf b hb).1,I4.ok.exfs b hb,.inl hb,(I4.ok.exf b hb).2,λp hq=>by
   rw[zYX]at hq;exact (hf b hb).2.2.2.2.2 p hq⟩
 have loop:codeAny (model X.prog X.w) X.A (.compLoop (.DictComp kx vx [⟨tg,iter,ifs,0⟩] scope pos) 0 (.ref it) (.ref s.heap.objs.size) (zM X zB scope cl s H fp).env) (RR (.ref s.heap.objs.size) (s.heap.objs.size+1))
   { s with heap:=pushCells ((s.heap.push zCS).push { cls:=.type "dict", data:=.dict #[] }) scope.names }:=by
  refine zIH (λn s'=>∃ i H',Inv (zM X zB scope cl s H fp) [] (clr own σ) H' s'/\tn i s'.heap/\(∀ b∈fp,H' b=none)/\W i n H') ?_ m0
   ⟨0,_,I5,st4,λb hb=>by rw[zZ (show b≠s.heap.objs.size from λz=>hDfp (by rw[<-z];exact hb))];exact (hf b hb).1,w0⟩
  rintro n s5 ⟨i,H5,J5,st5,f5,w5⟩;rcases turn i n H5 w5 with ⟨stop,qq⟩|⟨go,step⟩
  .refine thn (T.done (zM X zB scope cl s H fp) rfl rfl rfl hcalm i _ s5 _ H5 _ J5 (fpk f5) st5 stop) λr s6 ⟨hr,I6⟩=>?_;subst hr;exact fin _ H5 s6 I6 qq
  .refine thn (T.item (zM X zB scope cl s H fp) rfl rfl rfl hcalm i _ s5 _ H5 _ J5 (fpk f5) st5 go) λr s6 ⟨u,hr,h6⟩=>?_;subst hr;refine thn h6 λ_ s7 ⟨x,H7,I7,r7,y7,st7,f7⟩=>?_;have I7':=I7.pinned (fpk f7) (T.obj _ _ st7);refine thn (hg _ s7 _ H7 x u _ I7' r7 (step x H7 y7)) λ_ s8 ⟨σ8,H8,I8,x8,q8⟩=>?_;refine thn (hi _ s8 σ8 H8 _ I8 q8) λok s9 ⟨H9,I9,q9⟩=>?_;have back:∀ {s':Yl} {Hx:Hp},Inv (zM X zB scope cl s H fp) ([]++zDD fp s7.heap) σ8 Hx s'->tn (i+1) s'.heap /\ ∀ b∈fp,Hx b=none:=λ{s' Hx} Ix=>
    ⟨T.keep _ _ _ st7 λb hb o e=>(Ix.pin (b,o) (zX7 _ (zX7 _ (zAT hb e)))).1,λb hb=>by
     obtain ⟨o,e,d⟩:=T.obj _ _ st7 b hb;exact (Ix.pin (b,o) (zX7 _ (zX7 _ (zAT hb e)))).2.1⟩
   cases ok with
   |false=>
    obtain ⟨m',hm,w'⟩:=q9;obtain ⟨b1,b2⟩:=back I9;exact ⟨m',hm,i+1,H9,(I9.weak (by rw[x8.1]) x8.2).unpinned,b1,b2,w'⟩
   |true=>
    refine thn (hk _ s9 σ8 H9 _ I9 q9) λkv s10 ⟨y,H10,I10,r10,q10⟩=>?_;refine thn (hv _ s10 σ8 H10 _ I10 q10) λvv s11 ⟨z,H11,I11,r11,H12,m',hp,hm,w'⟩=>?_;refine zOl (X:=zM X zB scope cl s H fp) hu I11 hp r10 r11 λs12 I12 hs=>?_;obtain ⟨b1,b2⟩:=back I12;exact ⟨m',hm,i+1,H12,(I12.weak (by rw[x8.1]) x8.2).unpinned,b1,b2,w'⟩
 exact zDR loop (T.self _ 0 _ _ _ st4 loop)
theorem zEu (I:Inv X zB σ H s) (hf:∀ b∈fp,zCV X zB H b)
  (Ic:Inv (zM X zB scope cl s H fp) [] σc H' s') (hs:Heap.SameBut (s.heap.objs.size+1) s'.heap h'):Inv X zB σ H' { s' with heap:=h' }:=by
 have nC:H' (s.heap.objs.size+1)=none:=Ic.free;have lt1:∀ {b:Yt} {o:Obj},s.heap.get? b=some o->b≠s.heap.objs.size+1:=λe=>zX8 (zYc (zXy e));have tr:∀ b u,H' b=some u->b≠s.heap.objs.size+1:=λb u e z=>by rw[z,nC]at e;cases e
 have B:=Ic.base;have un:Un (frs X.stack) fp H H' s.heap h':=by
  refine ⟨λb o e q hb hx=>hs.extBut b o (lt1 e) (B.keep b o e q hb hx),λb o e q hb hx=>?_,λb o e q hx=>B.free b o e q hx,λb o e hx=>?_,λb xs e=>B.tups b xs e,λb o xs e=>B.frzs b o xs e,λb ps e=>B.tbls b ps e⟩
  .obtain ⟨sl,e1⟩:=B.slot b o e q hb hx;exact ⟨sl,hs.extBut b _ (lt1 e) e1⟩
  .obtain ⟨o',e1⟩:=B.there b o e hx;exact ⟨o',hs.extBut b _ (lt1 e) e1⟩
 have hok:HOk X.prog X.w H' h':=λb u e=>by
  refine (Ic.hok b u e).stay (λc v hc q=>hs.extBut c v ?_ q) (λc q=>q) λc xs q=>q;rcases hc with z|z
  .rw[z];exact tr b u e
  .exact tr c _ z
 exact I.call' (s':={ s' with heap:=h' }) (ch:=fp) Ic.os un hok Ic.bare λb hb=>⟨(hf b hb).2.2.2.1,(hf b hb).2.1,(hf b hb).2.2.2.2.1,(hf b hb).2.2.2.2.2⟩
end
noncomputable def zFz (isT:Bool) (own:Yj) (wi:TI) (g:TG) (tc:TT) (tk tv:TE):TE:=λσ H Q=>wi σ H λJ H1=>∀ D,H1 D=none -> ∃ W:Nat->Nat->Hp->Prop,(∃ m,W 0 m (upd H1 D (zEz isT))) /\ ∀ i m H,W i m H ->
 (J.stop i H/\Q (.ref D) H) \/
 (J.go i H /\ ∀ x H',J.yld i H x H'->g x (clr own σ) H' λσ2 H2=>Ext (clr own σ) σ2/\tc σ2 H2 λb H3=>
  if b=true then tk σ2 H3 λk H4=>tv σ2 H4 λv H5=>∃ H6 m',zGg H5 D k v H6/\m'<m/\W (i+1) m' H6 else ∃ m',m'<m/\W (i+1) m' H3)
section
variable {X:Cx} {scope:Y0} {tg kx vx iter:Expr} {ifs:Yi} {pos:Pos} {own:Yj} {wi:TI} {g:TG} {tc:TT} {tk tv:TE} {isT:Bool}
theorem zLM (hu:X.A.units+1<cLine) (C:CompIn X scope own) (hcalm:X.calm=true) (hi:PI X tg iter wi) (p:CompParts X scope tg ifs kx g tc tk) (p2:∀ zB cl s H fp,PE (zM X zB scope cl s H fp) vx tv) (hs:∀ x,foldedSetIterable iter X.env x=pure x:=by intro _;rfl) :
  PE X (.DictComp kx vx [⟨tg,iter,ifs,0⟩] scope pos) (zFz isT own wi g tc tk tv):=by
 intro zB s σ H Q I h;obtain ⟨cl,hcl,c1,c2⟩:=C.sc.closure I;rw[arm_eval_DictComp];refine zZh (use:=none) rfl hs hcl C.sc.kind C.sc.names (thn (hi zB s σ H _ I h) λv s1 h1=>thn h1 λitv s2 h2=>?_);obtain ⟨it,fp,tn,J,H2,e,I2,T,st2,f2,hD⟩:=h2;subst e;obtain ⟨W,⟨m0,w0⟩,turn⟩:=hD s2.heap.objs.size (I2.hok.fresh (zXt _));refine zD2 hu C hcalm I2 T st2 f2 c1 c2 (p.g _ _ _ _ _) (p.c _ _ _ _ _) (p.e _ _ _ _ _) (p2 _ _ _ _ _) (RR:=λacc C r s'=>compPost (model X.prog X.w) X.A X.xe none (EP X zB σ Q) acc C r s') (QQ:=λH=>Q (.ref s2.heap.objs.size) H) w0 turn ?_;intro σc H' s' Ic qq;obtain ⟨m,hn,_⟩:=Ic.loc;refine ⟨m,hn,λh' hs'=>?_⟩;exact ⟨.ref s2.heap.objs.size,_,zEu I2 f2 Ic hs',rfl,qq⟩
end
end L2
namespace L3
open PySem PySem.Spec PyProof.Rows L2
noncomputable def zJt (isT:Bool):MO:=if isT then .dicT [] else .dict []
noncomputable def zCq (g:FG) (tc:FT) (tk tv:FE) (σ:Sd) (n:Nat) (all:List D) (gd:Option (Mem->Prop)):List D->Mem->Option Mem
 |[],M=>open Classical in if zAr gd all M then some M else none
 |x::r,M=>open Classical in if zAr gd all M then match g x σ with
   |some σ1=>match tc σ1 M with
    |some (true,M1)=>match toD tk σ1 M1 with
     |some (k,M2)=>match toD tv σ1 M2 with
      |some (v,M3)=>match zEJ M3 n k v with
       |some M4=>zCq g tc tk tv σ n all gd r M4
       |none=>none
      |none=>none
     |none=>none
    |some (false,M1)=>zCq g tc tk tv σ n all gd r M1
    |none=>none
   |none=>none
  else none
noncomputable def zDG (isT:Bool) (own:Yj) (fi:FI) (g:FG) (tc:FT) (tk tv:FE):FE:=λσ M=>match fi σ M with
 |some (xs,gd,M1)=>match zCq g tc tk tv (zBD own σ) M1.length xs gd xs (M1++[zJt isT]) with
  |some M2=>some (.dat (.ref M1.length),M2)
  |none=>none
 |none=>none
theorem zHn {K:Yb} {isT:Bool} {own:Yj} {fi:FI} {g:TG} {fg:FG} {tc:FT} {tk tv:FE} (hg:zFZ own g fg) {τ:Sv} {H:Hp} {Q:VK} (h:trE K (zDG isT own fi fg tc tk tv) τ H Q):zFz isT own (trI K fi) g (trT K tc) (trD K (toD tk)) (trD K (toD tv)) τ H Q:=by
 obtain ⟨L,σ,M,d,Mf,c,rs,hf,q⟩:=h;unfold zDG at hf;split at hf
 .rename_i xs gd M1 e1;split at hf
  .rename_i M2 e2;cases hf;refine ⟨L,σ,M,_,_,_,c,rs,e1,λL1 H1 J s1 c1 it p hp=>?_⟩;obtain ⟨c0,s0⟩:Cor K (L1++[p]) (M1++[zJt isT]) (upd H1 p (zEz isT))/\Stp L1 H1 (L1++[p]) (upd H1 p (zEz isT)):=by
    cases isT with
    |true=>exact c1.pushO (m:=.dicT []) hp ⟨[],zAH,rfl⟩
    |false=>exact c1.pushO (m:=.dict []) hp ⟨[],zAH,rfl⟩
   have lp0:(L1++[p])[M1.length]?=some p:=by rw[<-c1.len];simp
   refine ⟨λi m H'=>m=xs.length-i/\i<=xs.length /\ ∃ L' M',Stp (L1++[p]) (upd H1 p (zEz isT)) L' H'/\Cor K L' M' H'/\zCq fg tc tk tv (zBD own σ) M1.length xs gd (xs.drop i) M'=some Mf,
    ⟨xs.length,by simp,zYZ _,_,_,.refl _ _,c0,by simpa using e2⟩,?_⟩
   rintro i m H' ⟨rfl,hi,L',M',s',c',e'⟩;have lp:L'[M1.length]?=some p:=by obtain ⟨N,hN⟩:=s'.pre;rw[hN];exact zB6 lp0
   by_cases hlt:i<xs.length
   .rw[zCY hlt]at e';unfold zCq at e';split at e'
    .rename_i hgd;obtain ⟨step,_⟩:=it L' H' M' (s0.trans s') c' hgd;obtain ⟨go,yl⟩:=step i xs[i] (zXr hlt);split at e'
     .rename_i σ1 eg;refine .inr ⟨go,λv H2 hy=>?_⟩;obtain ⟨gr,rv⟩:=yl v H2 hy;have s2:Stp (L1++[p]) (upd H1 p (zEz isT)) L' H2:=s'.yld gr;refine hg (zEa own (((rs.stp s1).stp s0).stp s2)) (.refl _) rv eg λτ2 r2 x2=>⟨x2,?_⟩;split at e'
      .rename_i M3 e3;split at e'
       .rename_i kd M4 e4;split at e'
        .rename_i vd M5 e5;split at e'
         .rename_i M6 e6;refine ⟨L',σ1,M',_,_,c'.grow gr,r2,e3,λL3 H3 s3 c3=>zG4 ?_⟩;refine ⟨L3,σ1,M3,_,_,c3,r2.stp s3,e4,λL4 H4 w s4 c4 r4=>?_⟩;refine ⟨L4,σ1,M4,_,_,c4,(r2.stp s3).stp s4,e5,λL5 H5 u s5 c5 r5=>?_⟩;have st:Stp L' H' L5 H5:=(((Stp.grow gr).trans s3).trans s4).trans s5;have lp5:L5[M1.length]?=some p:=by obtain ⟨N,hN⟩:=st.pre;rw[hN];exact zB6 lp
          obtain ⟨H6,h1,h2,h3⟩:=zLL c5 lp5 (r4.stp s5) r5 e6;exact ⟨H6,xs.length-(i+1),h1,by omega,rfl,hlt,L5,M6,(s'.trans st).trans h3,h2,e'⟩
         .cases e'
        .cases e'
       .cases e'
      .rename_i M3 e3;refine ⟨L',σ1,M',_,_,c'.grow gr,r2,e3,λL3 H3 s3 c3=>zHD ?_⟩;have st:Stp L' H' L3 H3:=(Stp.grow gr).trans s3;exact ⟨xs.length-(i+1),by omega,rfl,hlt,L3,M3,s'.trans st,c3,e'⟩
      .cases e'
     .cases e'
    .cases e'
   .have hi':i=xs.length:=by omega
    subst hi';rw[List.drop_length]at e';unfold zCq at e';split at e'
    .rename_i hgd;cases e';obtain ⟨_,stop⟩:=it L' H' _ (s0.trans s') c' hgd;refine .inl ⟨stop,?_⟩;refine q L' _ _ ((s1.trans s0).trans s') c' ?_;unfold za Rep;exact ⟨p,rfl,lp⟩
    .cases e'
  .cases hf
 .cases hf
section
variable {X:Cx} {scope:Y0} {tg kx vx iter:Expr} {ifs:Yi} {pos:Pos} {own:Yj} {isT:Bool}
theorem zSs {fi:FI} {g:TG} {fg:FG} {tc:FT} {tk tv:FE} (hu:X.A.units+1<cLine) (hg:zFZ own g fg) (C:CompIn X scope own) (hcalm:X.calm=true) (hi:QI X tg iter fi) (p:QParts X scope tg ifs kx g tc tk) (p2:∀ zB cl s H fp,QE (zM X zB scope cl s H fp) vx tv) (hs:∀ x,foldedSetIterable iter X.env x=pure x:=by intro _;rfl) :
  QE X (.DictComp kx vx [⟨tg,iter,ifs,0⟩] scope pos) (zDG isT own fi fg tc tk tv) :=
 .mk <| PE.imp (zLM (isT:=isT) hu C hcalm hi.un p.parts (λ_ _ _ _ _=>(zA5 (p2 _ _ _ _ _)).un) hs) λ_ _ _ h=>zHn hg h
end
noncomputable def zDv:Nat->D->Bool
 |0,.int _=>true
 |n+1,.tup ds=>ds.all (zDv n)
 |_,_=>false
noncomputable def zEo:Nat->D->D->Bool
 |0,.int i,.int j=>decide (i=j)
 |n+1,.tup xs,.tup ys=>xs.length==ys.length&&(xs.zip ys).all λq=>zEo n q.1 q.2
 |_,_,_=>false
theorem zJH:∀ (n:Nat) (x:D),zDv n x=true->zEo n x x=true
 |0,.int i,_=>by simp[zEo]
 |n+1,.tup xs,h=>by
  unfold zDv at h;unfold zEo;rw[zYO]at h;simp only[beq_self_eq_true,Bool.true_and];rw[zYO];intro q hq;have:q.1=q.2:=by
   obtain ⟨i,hi,e⟩:=zZq hq;rw[List.getElem_zip]at e;rw[<-e]
  rw[<-this];exact zJH n _ (h q.1 (List.of_mem_zip hq).1)
 |0,.non,h=>by cases h
 |0,.bl _,h=>by cases h
 |0,.str _,h=>by cases h
 |0,.tup _,h=>by cases h
 |0,.ref _,h=>by cases h
 |n+1,.non,h=>by cases h
 |n+1,.bl _,h=>by cases h
 |n+1,.int _,h=>by cases h
 |n+1,.str _,h=>by cases h
 |n+1,.ref _,h=>by cases h
theorem zP2:∀ (n:Nat) (x y:D) (v:V),zDv n x=true->zDv n y=true->Rep L H x v->Rep L H y v->x=y:=by
 intro n;induction n with
 |zero=>
  intro x y v hx hy rx ry;cases x <;> first|cases hx|skip
  cases y <;> first|cases hy|skip
  unfold Rep at rx ry;rw[rx]at ry;cases ry;rfl
 |succ n ih=>
  intro x y v hx hy rx ry;cases x <;> first|cases hx|skip
  cases y <;> first|cases hy|skip
  rename_i xs ys;unfold zDv at hx hy;rw[zYO]at hx hy;unfold Rep at rx ry;obtain ⟨a,vs,rfl,e,r⟩:=rx;obtain ⟨a',vs',e1,e2,r'⟩:=ry;cases e1;rw[e]at e2;cases e2;congr 1;have hl:xs.length=ys.length:=by rw[<-r.length,r'.length]
  apply List.ext_getElem hl;intro i h1 h2;obtain ⟨u,hu,ru⟩:=r.get (zXr h1);obtain ⟨u',hu',ru'⟩:=r'.get (zXr h2);rw[hu]at hu';cases hu';exact ih _ _ u (hx _ (zYL h1)) (hy _ (zYL h2)) ru ru'
section
variable {X:Cx} {zB:Yd} {σ:L2.St} {H:Hp} {s:Yl} {L:Yg}
theorem zS1 {xs ys:List D} (f:D->D->Bool) (h:xs.length=ys.length):((List.range xs.length).all λj=>f (xs.getD j .non) (ys.getD j .non))=(xs.zip ys).all λq=>f q.1 q.2:=by
  rw[Bool.eq_iff_iff,zYO,zYO];constructor
  . intro hh q hq
    obtain ⟨i,hi,e⟩:=zZq hq;rw[List.getElem_zip]at e;rw[List.length_zip]at hi;have:=hh i (by simp;omega);rw[<-e];simpa [zXs,show i<xs.length by omega,show i<ys.length by omega] using this
  . intro hh i hi
    have h1:i<xs.length:=by simpa using hi
    have h2:i<ys.length:=by omega
    have hz:i<(xs.zip ys).length:=by rw[List.length_zip];omega
    have:=hh (xs.zip ys)[i] (zYL hz);rw[List.getElem_zip]at this;simpa [zXs,h1,h2] using this
theorem zO5 (I : Inv X zB σ H s) : ∀ (n : Nat) (A : Around) (x y : D) (v w : V) (u u' : Value), A.units + n < cLine -> zDv n x = true -> zDv n y = true -> Rep L H x v -> Rep L H y w -> zp v u -> zp w u' -> SeqAt.EqAt A s u u' (zEo n x y) := by
  intro n;induction n with
  |zero=>
    intro A x y v w u u' hu hx hy rx ry ru ru';cases x <;> first|cases hx|skip
    cases y <;> first|cases hy|skip
    unfold Rep at rx ry;subst rx;subst ry;obtain ⟨t,rfl⟩:=ru;obtain ⟨t',rfl⟩:=ru';have:=SeqAt.EqAt.int_int (A:=A) (s:=s) ‹Int› t ‹Int› t';unfold zEo;rename_i i j;have h:=SeqAt.EqAt.int_int (A:=A) (s:=s) i t j t';have e:(i==j)=decide (i=j):=by by_cases q:i=j <;> simp[q]
    rw[e]at h;exact h
  | succ n ih =>
    intro A x y v w u u' hu hx hy rx ry ru ru';cases x <;> first|cases hx|skip
    cases y <;> first|cases hy|skip
    rename_i xs ys;have hx':=hx;have hy':=hy;have rx':=rx;have ry':=ry;unfold zDv at hx hy;rw[zYO]at hx hy;unfold Rep at rx ry;obtain ⟨a,vs,rfl,e,r⟩:=rx;obtain ⟨b,ws,rfl,e2,r2⟩:=ry;cases ru;cases ru';by_cases hab:a=b
    . subst hab
      have:=zP2 (n+1) _ _ _ hx' hy' rx' ry';rw[this,zJH (n+1) _ hy'];exact SeqAt.EqAt.same _
    · refine SeqAt.EqAt.of_refs hab ?_
      obtain ⟨its,rv,p1,_⟩:=I.tuple (.of e);obtain ⟨its2,rv2,p2,_⟩:=I.tuple (.of e2);have l1:its.toArray.size=xs.length:=by rw[zXv,<-rv.length,r.length]
      have l2:its2.toArray.size=ys.length:=by rw[zXv,<-rv2.length,r2.length]
      have key := SeqAt.RcAt.tuples (A := A) (s := s) (l := a) (b := b) (items := its.toArray) (items2 := its2.toArray) (e := fun j => zEo n (xs.getD j .non) (ys.getD j .non)) p1 p2 (by omega) (fun j h1 h2 => by
        have j1:j<xs.length:=by omega
        have j2:j<ys.length:=by omega
        obtain ⟨q1,g1,t1⟩:=r.get (zXr j1);obtain ⟨q2,g2,t2⟩:=r2.get (zXr j2);obtain ⟨o1,k1,m1⟩:=rv.get g1;obtain ⟨o2,k2,m2⟩:=rv2.get g2
        have z1 : its.toArray[j] = o1 := by have : its.toArray[j]? = some o1 := by simpa using k1
                                            rw[zYY h1]at this;exact zYn this
        have z2 : its2.toArray[j] = o2 := by have : its2.toArray[j]? = some o2 := by simpa using k2
                                             rw[zYY h2]at this;exact zYn this
        rw[z1,z2];have w1:xs.getD j .non=xs[j]:=by simp[zXs,j1]
        have w2:ys.getD j .non=ys[j]:=by simp[zXs,j2]
        rw[w1,w2];exact ih A.in1 _ _ _ _ _ _ (by show A.units+1+n<cLine;omega) (hx _ (zYL j1)) (hy _ (zYL j2)) t1 t2 m1 m2)
      have fin:((List.range (min its.toArray.size its2.toArray.size)).all (λj=>zEo n (xs.getD j .non) (ys.getD j .non))&&its.toArray.size==its2.toArray.size)=zEo (n+1) (.tup xs) (.tup ys):=by
        rw[l1,l2];show _=(xs.length==ys.length&&(xs.zip ys).all λq=>zEo n q.1 q.2);by_cases hl:xs.length=ys.length
        .rw[hl,Nat.min_self,<-hl,zS1 (zEo n) hl,Bool.and_comm]
        . have:(xs.length==ys.length)=false:=by simpa using hl
          rw[this];simp
      rw[fin]at key;exact key
end
section
variable {X:Cx} {a b e o:Expr} {pos apos cpos:Pos} {f g:FE}
theorem zV8 (n:Nat) (hn:n<=8) (hr:Room k A):A.units+1+n<cLine:=by
 have:=hr.units;omega
noncomputable def zF2 (f g:FE):FE:=λσ M=>match toD f σ M with
 |some (.tup ds,M1)=>match zAV ds with
  |some xs=>match toD g σ M1 with
   |some (.int i,M2)=>if i∈xs then some (.dat (.int (xs.idxOf i)),M2) else none
   |_=>none
  |none=>none
 |_=>none
theorem zSi (h:QE X o f) (hg:QE X e g) (hbase:attributeBase o "index" X.env (eval o X.env)=eval o X.env:=by rfl)
  (hfew:((backTo cpos (starEach [e] X.env)).all (λx=> !x.1)&&(backToKw cpos (keywordEach [] X.env)).all (λx=>x.1.isSome)&&decide ([e].length+([]:List Keyword).length+(if ([]:List Keyword).isEmpty then 0 else 1)<30))=true:=by rfl)
  (hline:(apos.endLine==cpos.line)=true:=by rfl) (hs:starEach [e] X.env=(false,eval e X.env)::starEach [] X.env:=by rfl) (hplain:(backTo cpos (starEach [] X.env)).any (·.1)=false:=by rfl) :
  QE X (.Call (.Attribute o "index" apos) [e] [] cpos) (zF2 f g) :=
 .mk <| PE.imp (zNi PySem.F.plainAttrs_tuple PySem.F.slot_tuple_index PySem.F.type_tuple_index zRO (zA5 h).un (zEm (zA5 hg) zKX hs).un hbase hfew hline hs hplain) λτ H Q zz=>by
  obtain ⟨L,σ,M,d,M',c,rs,hf,q⟩:=zz;unfold zF2 at hf;split at hf
  .rename_i ds M1 e1;split at hf
   .rename_i xs e2;split at hf
    .rename_i i Mq e3;split at hf
     .rename_i hi;cases hf;refine ⟨L,σ,M,_,_,c,rs,e1,λL1 H1 u s1 c1 r1=>?_⟩;unfold Rep at r1;obtain ⟨p,vs,rfl,h1,r⟩:=r1;have ev:=zBd e2 r;subst ev;refine ⟨.inr (.inl ⟨rfl,.inr ⟨_,h1⟩⟩),L1,σ,M1,_,_,c1,rs.stp s1,(show zD (toD g) zI σ M1=some ([D.int i],M') by unfold zD zI;rw[e3]),λL2 H2 ws s2 c2 r2=>?_⟩;have ew:=zEY r2;subst ew;exact ⟨p,i,xs,rfl,rfl,.of (s2.tup p _ h1),hi,q L2 H2 _ (s1.trans s2) c2 (zAb (L:=L2) (H:=H2))⟩
     .cases hf
    .cases hf
   .cases hf
  .cases hf
end
open Builtin
theorem zHF:fillsNumberSlot (.type "tuple") "mul" = pure false :=
 PySem.fillsNumberSlot_seq (id := "tuple.__mul__") (r:=some (.builtin "tuple.__rmul__")) F.slot_tuple_mul.lookup (by decide +kernel) F.slot_tuple_rmul.lookup (by decide +kernel)
theorem zMo:seqRepeat? (.type "tuple")=pure (some (.builtin "tuple.__mul__")):=by
 unfold seqRepeat?;rw[PySem.seqSlot_of (T := "tuple") (name := "__mul__") (id := "tuple.__mul__") F.slot_tuple_mul.lookup (by decide +kernel),PySem.seqSlot_of (T := "tuple") (name := "__rmul__") (id := "tuple.__rmul__") F.slot_tuple_rmul.lookup (by decide +kernel)];rfl
theorem zQa (a:Int) (t:Tok) (l:Yt) (items:Yp) (n:Nat) (dd:Option Addr) (sl:Array (Option Value)) :
  Meets (Builtin.«int.__rmul__» ⟨[.int a t,.ref l],[]⟩) (λ_ R s=>s.heap.get? l=some { cls:=.type "tuple", dict:=dd,data:=.seq items n,slots:=sl }/\R (.ok (.ret Value.notImplemented)) s) :=
 .of_wp λprog w A R s h=>by obtain ⟨hp,g,d,tk,os⟩:=s;obtain ⟨hl,h⟩:=h;wp_walk using wpAny_loadPart' hl;exact ⟨_,rfl,h⟩
theorem zL0 (l:Yt) (items:Yp) (n:Nat) (dd:Option Addr) (sl:Array (Option Value)) (u:Tok) :
  Meets (Builtin.«tuple.__mul__» ⟨[.ref l,.int 1 u],[]⟩) (λ_ R s=>s.heap.get? l=some { cls:=.type "tuple", dict:=dd,data:=.seq items n,slots:=sl }/\R (.ok (.ret (.ref l))) s) :=
 .of_wp λprog w A R s h=>by
  obtain ⟨hp,g,d,tk,os⟩:=s;obtain ⟨hl,h⟩:=h;have f1:=AutoSeq1.idx_int;wp_walk using wpAny_loadPart' hl;exact ⟨_,rfl,h⟩
theorem zLl (l:Yt) (items:Yp) (n:Nat) (dd:Option Addr) (sl:Array (Option Value)) (x:Int) (u:Tok) (h0:¬ (decide (x < -(2 ^ 63))||decide (x≥2 ^ 63))=true) (h1:¬ (items.isEmpty||x==1)=true) (h2:¬ (decide (x<=0)||items.isEmpty)=true) (h3:¬ (items.size:Int)*x>(2 ^ 63-1) / 8) (h4:¬ Builtin.Tuple.tupleTooMany (items.size*x)=true)
  (hsz:(List.foldl (λx1 x2=>x1++x2) #[] (List.replicate x.toNat items)).size<=sizeLine) :
  Meets (Builtin.«tuple.__mul__» ⟨[.ref l,.int x u],[]⟩) (λ_ R s=>s.heap.get? l=some { cls:=.type "tuple", dict:=dd,data:=.seq items n,slots:=sl }/\R (.ok (.ret (Value.ref s.heap.objs.size))) { s with heap:=s.heap.push { cls:=Value.type "tuple", data:=Data.seq (List.foldl (λx1 x2=>x1++x2) #[] (List.replicate x.toNat items)) },toks:=s.toks }) :=
 .of_wp λprog w A R s h=>by
  obtain ⟨hp,g,d,tk,os⟩:=s;obtain ⟨hl,h⟩:=h;have f1:=AutoSeq1.idx_int;wp_walk using wpAny_loadPart' hl;rw[zX5 h0];wp_walk using wpAny_loadPart' hl;rw[zX5 h3];wp_walk using wpAny_loadPart' hl;all_goals first|exact ⟨_,rfl,h⟩|skip
section
variable {X:Cx} {a b o e e2:Expr} {pos p apos cpos:Pos} {f g:FE}
noncomputable def zTx (K:Yb):R2:=λx y H Q=>∃ a k xs,x=.ref a/\y=.int k/\SqT K H a xs/\xs≠[]/\1<=k/\xs.length*k.toNat<=sizeLine /\
 (k=1->Q (.ref a) H)/\(k≠1 -> ∀ p,H p=none->Q (.ref p) (upd H p (.tup (List.replicate k.toNat xs).flatten)))
theorem zS4:OpR X (binaryOp .Mult) (zTx X.K):=by
 intro zB s σ H x y v u Q I rx ry h;obtain ⟨a,k,xs,rfl,rfl,ha,hx,hk,hz,q1,q2⟩:=h;cases rx;obtain ⟨t,rfl⟩:=ry;obtain ⟨its,r,p1,_⟩:=I.tuple ha;obtain ⟨⟨cls,dd,data,sl⟩,ho,hc,n,hd⟩:=id p1;simp only at hc hd;subst hc hd;have hl:its.toArray.size=xs.length:=by rw[zXv];exact r.length.symm
 have hx0:0<xs.length:=List.length_pos_iff.mpr hx;have hkz:k.toNat<=sizeLine:=zYE (Nat.le_mul_of_pos_left _ hx0) hz;have hk63:k<2 ^ 63:=by
  have:(sizeLine:Nat)<2 ^ 62:=by decide
  omega
 refine wpAny_binaryOp_repeat_ref (T := "tuple") (U := "int") (by decide) ⟨_,ho,rfl⟩ (λs'=>typeIs_int s' k t) zHF F.fills_int_mul F.slot_int_rmul zMo F.slot_int_index.lookup
  (call_meets F.slot_int_rmul (typeIs_int s k t) F.entry_int_rmul (F.args_int_rmul_2 _ _) (zQa k t a its.toArray n dd sl)
   ⟨ho,rfl,⟨_,ho,rfl⟩,?_⟩)
 by_cases h1:k=1
 .subst h1;exact call_meets F.slot_tuple_mul ⟨_,ho,rfl⟩ F.entry_tuple_mul (F.args_tuple_mul_2 _ _) (zL0 a its.toArray n dd sl t) ⟨ho,⟨.ref a,H,I,rfl,q1 rfl⟩⟩
 .have hnew:List.foldl (λx1 x2=>x1++x2) #[] (List.replicate k.toNat its.toArray)=(List.replicate k.toNat its).flatten.toArray:=by
   have:=zF7 its k.toNat [];rw[List.nil_append]at this;exact this
  have hlr:(List.replicate k.toNat its).flatten.length<=sizeLine:=by
   rw[zKd,<-r.length,Nat.mul_comm];exact hz
  have hem:its.toArray.isEmpty=false:=by
   rw[Array.isEmpty_eq_false_iff];intro z;rw[z]at hl;simp at hl;omega
  have hprod:((its.toArray.size:Int))*k=((xs.length*k.toNat:Nat):Int):=by
   rw[hl];rw[Int.natCast_mul,show ((k.toNat:Nat):Int)=k by omega]
  refine call_meets F.slot_tuple_mul ⟨_,ho,rfl⟩ F.entry_tuple_mul (F.args_tuple_mul_2 _ _) (zLl a its.toArray n dd sl k t ?_ ?_ ?_ ?_ ?_ ?_) ⟨ho,?_⟩
  .rw[zYM (by omega),zYM (by omega)];decide
  .rw[hem,Bool.false_or];intro z;exact h1 (eq_of_beq z)
  .rw[hem,Bool.or_false,zYM (by omega)];decide
  .rw[hprod];have:(sizeLine:Nat)<=(2 ^ 63-1) / 8:=by decide
   omega
  .rw[hprod];unfold Builtin.Tuple.tupleTooMany;rw[zYM (by omega)];decide
  .rw[hnew,zXv];exact hlr
  .rw[hnew];refine ⟨.ref s.heap.objs.size,_,I.laid (t':=s.toks) (o:=.tup (List.replicate k.toNat xs).flatten) (λb ob q=>zXo _ q) (zXt _) ?_,rfl,q2 h1 _ (I.hok.fresh (zXt _))⟩;exact ⟨by rw[zKd,Nat.mul_comm];exact hz,_,r.rep k.toNat,zCM.new _ _⟩
theorem zR.rep (h:zR L H ds vs):∀ k:Nat,zR L H (List.replicate k ds).flatten (List.replicate k vs).flatten
 |0=> .nil
 |k+1=>by
  rw[zY6,zY6,zZm,zZm];exact zR.app h (zR.rep h k)
noncomputable def zKO:K2:=λx y M=>match y with
 |.dat (.int k)=>match zBz x with
  |some xs=>if 0<xs.length/\1<=k/\xs.length*k.toNat<=sizeLine then some (.dat (.tup (List.replicate k.toNat xs).flatten),M) else none
  |none=>match zKc M x with
   |some xs=>if -(2 ^ 63)<=k/\k<2 ^ 63/\xs.length*k.toNat<=sizeLine then some (.fl (List.replicate k.toNat xs).flatten,M) else none
   |none=>none
 |_=>none
theorem zTp {K:Yb}:zDH K (λx y H Q=>zW7 x y H Q\/zTx K x y H Q) zKO:=by
 intro L M M' H H0 x y d v w Q c rx ry hk q;unfold zKO at hk;split at hk
 .rename_i k;have hw:w=.int k:=by unfold za Rep at ry;exact ry
  subst hw;split at hk
  .rename_i xs e1;split at hk
   .rename_i hz;cases hk;obtain ⟨p1,vs,rfl,h1,r1⟩:=zBk rx e1;refine .inr ⟨p1,k,vs,rfl,rfl,.of h1,?_,hz.2.1,by rw[r1.length];exact hz.2.2,λz=>?_,λz pp hp=>?_⟩
    .intro z;have:=r1.length;rw[z]at this;simp at this;omega
    .subst z;refine q L H _ (.refl L H) c ?_;have:(List.replicate (1:Int).toNat xs).flatten=xs:=by simp
     rw[this];unfold za Rep;exact ⟨p1,vs,rfl,h1,r1⟩
    .exact q L _ _ (.upd hp) (c.upd hp) (Rep.newTup hp (r1.rep k.toNat))
   .cases hk
  .split at hk
   .rename_i xs e1;split at hk
    .rename_i hz;cases hk;obtain ⟨l,vs,rfl,h1,r1⟩:=zM3 c rx e1;refine .inl ⟨l,k,vs,rfl,rfl,h1,hz.1,hz.2.1,by rw[r1.length];exact hz.2.2,λp hp=>?_⟩;exact q L _ _ (.upd hp) (c.upd hp) (za.newLst (.refl L H) c c hp (r1.rep k.toNat))
    .cases hk
   .cases hk
 .cases hk
theorem zWJ (h1:QE X a f) (h2:QE X b g):QE X (.BinOp a .Mult b pos) (fOp zKO f g):=zLT zTp (zVl.or zS4) h1 h2
noncomputable def zJQ:KB:=λxs M=>match xs with
 |[.dat (.int i),.dat (.int j)]=>some (.dat (.int (if j<i then j else i)),M)
 |_=>none
theorem zKx (r:zC4 H0 L H [.dat (.int i),.dat (.int j)] vs):vs=[.int i,.int j]:=by
 unfold zC4 at r;obtain ⟨v,r1,rfl,a1,a2⟩:=r;unfold zC4 at a2;obtain ⟨v2,r2,rfl,b1,b2⟩:=a2;unfold zC4 at b2;subst b2;unfold za Rep at a1 b1;subst a1 b1;rfl
theorem zRe {K:Yb}:zIA K (λxs H Q=>∃ i j,xs=[.int i,.int j]/\Q (.int (if j<i then j else i)) H) zJQ:=by
 intro L M M' H H0 xs d vs Q c r hk q;unfold zJQ at hk;split at hk
 .rename_i i j;cases hk;exact ⟨i,j,zKx r,q L H _ (.refl L H) c (zAb (L:=L) (H:=H))⟩
 .cases hk
theorem zVw (hcalm:X.calm=true) (hg:Gl X "min") (hm:X.mg "min" = none) (ha:QAE X [e,e2] fa) (he:starEach [e,e2] X.env=(false,eval e X.env)::starEach [e2] X.env:=by rfl) (hpl:(backTo pos (starEach [e2] X.env)).any (·.1)=false:=by rfl):QE X (.Call (.Name "min" p) [e,e2] [] pos) (fB zJQ fa) :=
 zDn zRe (zOy hcalm) (by rfl) hg hm ha (by decide) (by decide) he hpl
end
end L3
namespace HT
open PySem PySem.Spec PyProof.Rows
end HT
namespace L3
open PySem PySem.Spec PyProof.Rows L2
section
variable {X:Cx} {a b o e e2 st:Expr} {pos p p2 apos cpos:Pos} {f g:FE} {te:TE} {ts:TO}
theorem zOL:MtM X "list.index" (λx vs H Q=>∃ (l:Addr) (i:Int) (xs:List Int),x=.ref l/\vs=[.int i]/\H l=some (.lst (xs.map V.int))/\xs.length<=90000/\i∈xs/\Q (.int (xs.idxOf i)) H):=by
 intro zB s σ H x xs v us Q I rx rv z;obtain ⟨p,i,ns,rfl,rfl,hp,hz,hi,q⟩:=z;cases rx;obtain ⟨u,rfl,ru⟩:=rv.one;obtain ⟨t,rfl⟩:=ru;obtain ⟨z,its,n,r,hl,ee⟩:=I.lstM hp;have hia:=zNG r;have hlen:=hia.length;have hj:ns.idxOf i<ns.length:=List.idxOf_lt_length_iff.mpr hi
 refine call_meets PySem.F.slot_list_index ⟨_,ee,rfl⟩ PySem.F.entry_list_index (PySem.F.args_list_index_2 _ _)
  (PySem.SeqAt.list_indexAt p its.toArray n none #[] (.int i t) (isInt i) (ns.idxOf i) (by simpa [hlen] using hj) (by omega) ?_ ?_) ⟨ee,λy hy=>(eq_isInt i t hia y (by simpa using hy)).at _ _,⟨.int (ns.idxOf i),H,I.tok _,⟨_,rfl⟩,q⟩⟩
 .show isInt i its[ns.idxOf i]=true;rw[isInt_at i hia _ (by omega) hj];simpa using List.getElem_idxOf hj
 .intro j hjs hlt;show isInt i its[j]=false;rw[isInt_at i hia j (by simpa using hjs) (by omega)];exact ne_of_lt_idxOf hlt _
noncomputable def zEd:KM:=λx ds M=>match x,ds with
 |.dat (.ref n),[.int i]=>match M[n]? with
  |some (.lst ds)=>match zAV ds with
   |some xs=>if i∈xs/\xs.length<=90000 then some (.int (xs.idxOf i),M) else none
   |none=>none
  |_=>none
 |_,_=>none
theorem zMZ {K:Yb}:zSg K (λx vs H Q=>∃ (l:Yt) (i:Int) (xs:Ye),x=.ref l/\vs=[.int i]/\H l=some (.lst (xs.map V.int))/\xs.length<=90000/\i∈xs/\Q (.int (xs.idxOf i)) H) zEd:=by
 intro L M M' H H0 x ds d v vs Q c rx rd hk q;unfold zEd at hk;split at hk
 .rename_i n i;split at hk
  .rename_i ds e1;split at hk
   .rename_i xs e2;split at hk
    .rename_i hi;cases hk;unfold za Rep at rx;obtain ⟨a,rfl,e4⟩:=rx;obtain ⟨ws,e5,r5⟩:=c.obj n a _ e4 e1;have ev:=zBd e2 r5;subst ev;exact ⟨a,i,xs,rfl,zEY rd,e5,hi.2,hi.1,q L H _ (.refl L H) c (by unfold Rep;rfl)⟩
    .cases hk
   .cases hk
  .cases hk
 .cases hk
theorem zRk (h:QE X a f) (hg:QA X [e] fg) (hbase:attributeBase a "index" X.env (eval a X.env)=eval a X.env:=by rfl)
  (hfew:((backTo cpos (starEach [e] X.env)).all (λx=> !x.1)&&(backToKw cpos (keywordEach [] X.env)).all (λx=>x.1.isSome)&&decide ([e].length+([]:List Keyword).length+(if ([]:List Keyword).isEmpty then 0 else 1)<30))=true:=by rfl)
  (hline:(apos.endLine==cpos.line)=true:=by rfl) (hs:starEach [e] X.env=(false,eval e X.env)::starEach [] X.env:=by rfl) (hplain:(backTo cpos (starEach [] X.env)).any (·.1)=false:=by rfl) :
  QE X (.Call (.Attribute a "index" apos) [e] [] cpos) (fM zEd f fg) :=
 .mk <| PE.imp (zNi PySem.F.plainAttrs_list PySem.F.slot_list_index PySem.F.type_list_index zOL h.un hg.un hbase hfew hline hs hplain) λ_ _ _ z=>zM1 zMZ z
end
section
variable {X:Cx} {a b a2 b2 o e e2:Expr} {pos p apos cpos:Pos}
noncomputable def zKP (k1:Str) (fv:FE) (k2:Str) (fw:FE):FE:=λσ M=>match toD fv σ (M++[.dict []]) with
 |some (v,M1)=>match toD fw σ M1 with
  |some (w,M2)=>match M2[M.length]? with
   |some (.dict [])=>if k1=k2 then none else some (.dat (.ref M.length),M2.set M.length (.dict [(.str k1,v),(.str k2,w)]))
   |_=>none
  |none=>none
 |none=>none
theorem zTZ (h1:QE X a (fC (.str k1))) (h2:QE X b fv) (h3:QE X a2 (fC (.str k2))) (h4:QE X b2 fw):QE X (.Dict [some a,some a2] [b,b2] pos) (zKP k1 fv k2 fw):=.mk <| PE.imp (zTo (zLu (zA5 h1).un (zA5 h2).un (zLu (zA5 h3).un (zA5 h4).un zSd)) rfl rfl (by simp) (by simp)) λτ H Q ⟨L,σ,M,d,M',c,rs,hf,q⟩ p hp=>by
 unfold zKP at hf;split at hf
 .rename_i v M1 e2;split at hf
  .rename_i w M2 e4;split at hf
   .rename_i e5;split at hf
    .cases hf
    .rename_i hne;cases hf;obtain ⟨c0,s0⟩:=c.pushO (m:=.dict []) (o:=.dK []) hp ⟨[],zAH,rfl⟩;refine ⟨L++[p],σ,_,_,_,c0,rs.stp s0,(rfl:toD (fC (.str k1)) σ (M++[.dict []])=some (.str k1,_)),λL1 H1 x st1 c1 r1=>⟨L1,σ,_,_,_,c1,(rs.stp s0).stp st1,e2,λL2 H2 y st2 c2 r2=>?_⟩⟩;refine ⟨L2,σ,_,_,_,c2,((rs.stp s0).stp st1).stp st2,(rfl:toD (fC (.str k2)) σ M1=some (.str k2,_)),λL3 H3 x' st3 c3 r3=>⟨L3,σ,_,_,_,c3,(((rs.stp s0).stp st1).stp st2).stp st3,e4,λL4 H4 y' st4 c4 r4=>?_⟩⟩;have st:=(((s0.trans st1).trans st2).trans st3).trans st4;have hx:x=.str k1:=by unfold Rep at r1;exact r1
     have hx':x'=.str k2:=by unfold Rep at r3;exact r3
     have lp:L4[M.length]?=some p:=by
      obtain ⟨N,hN⟩:=((st1.trans st2).trans st3).trans st4 |>.pre;rw[hN,<-c.len];simp
     obtain ⟨vs,ev,dv⟩:=c4.obj _ p _ lp e5;unfold zAy at dv;subst dv;have hm:zE0 [] [((Sum.inr k1:Key),y),(Sum.inr k2,y')]=[((Sum.inr k1:Key),y),(Sum.inr k2,y')]:=by
      unfold zE0 zCp;have h12:¬ ((Sum.inr k1:Key)=Sum.inr k2):=λz=>hne (Sum.inr.inj z);simp[h12]
     refine ⟨ev,[(Sum.inr k1,y),(Sum.inr k2,y')],by rw[hx,hx'];rfl,by simp,?_⟩;rw[hm];obtain ⟨c5,s5⟩:=c4.put (m:=.dict [(.str k1,v),(.str k2,w)]) (o':=.dK [(Sum.inr k1,y),(Sum.inr k2,y')]) lp ev (λ_ z=>by cases z) (λ_ _ z=>by cases z) λs5=>⟨_,zAH,_,y,[(Sum.inr k2,y')],rfl,rfl,(r2.stp (st3.trans st4)).stp s5,_,y',[],rfl,rfl,r4.stp s5,rfl⟩;refine q _ _ _ (st.trans s5) c5 ?_;unfold za Rep;exact ⟨p,rfl,lp⟩
   .cases hf
  .cases hf
 .cases hf
end
section
variable {X:Cx} {e tg:Expr} {pos:Pos}
noncomputable def zLn (fg:FG) (f:FE):FS:=λσ M=>match toD f σ M with
 |some (d,M1)=>match fg d σ with
  |some σ1=>some (.nx,σ1,M1)
  |none=>none
 |none=>none
theorem zT0 (hk:GOk g fg) (h:QE X e f) (hg:PG X tg g) (hs:swapsWithSole [tg] e pos.line X.env=pure false:=by rfl) (hw:swappedStores [tg] e X.env=pure none:=by rfl)
  (h1:(assignEach [tg] X.env).map (·.2)=[assign tg X.env]:=by rfl):QS X (.Assign [tg] e pos) (zLn fg f) :=
 .mk <| PS.imp (zQA h.un hg hs hw h1) λE τ H zz=>by
  obtain ⟨L,σ,M,o,σ',M',c,rs,hf,q⟩:=zz;unfold zLn at hf;split at hf
  .rename_i d M1 e1;split at hf
   .rename_i σ1 e2;cases hf;refine zK3 ⟨L,σ,M,_,_,c,rs,e1,λL1 H1 v s1 c1 r1=>?_⟩;exact hk (rs.stp s1) r1 e2 λτ' rs'=>q L1 H1 s1 c1 τ' rs'
   .cases hf
  .cases hf
variable {σ:Sd} {M:Mem} {P:Out->Sd->Mem->Prop} {fg:FG} {f:FE}
theorem zGx:OkS (zLn fg f σ M) P ↔ Ok (f σ M) (zGa λd M1=>∃ σ1,fg d σ=some σ1/\P .nx σ1 M1):=by
 rw[<-zAZ];unfold zLn;constructor
 .rintro ⟨o,σ',M',e,p⟩;split at e
  .rename_i d M1 e1;split at e
   .rename_i σ1 e2;cases e;exact ⟨d,_,e1,_,e2,p⟩
   .cases e
  .cases e
 .rintro ⟨d,M1,e1,σ1,e2,p⟩;refine ⟨.nx,σ1,M1,?_,p⟩;rw[e1];dsimp only;rw[e2]
end
def SI (b:Bool) (h:Heap) (it t:Yt) (k:Nat):Prop:=if b then h.IsTupleIter it t k else h.IsListIter it t k
def SO (b:Bool) (h:Heap) (t:Yt) (xs:Yp):Prop:=if b then h.IsTuple t xs else h.IsList t xs
noncomputable abbrev itO (b:Bool) (t:Addr):Obj:={ cls:=.type (if b then "tuple_iterator" else "list_iterator"),data:=.fields #[.ref t,.int 0 0] }
theorem SO.keep (x:SO b h t xs) (e:∀ o,h.get? t=some o->h'.get? t=some o):SO b h' t xs:=by
 cases b with
 |true=>obtain ⟨o,q,r⟩:=(show h.IsTuple t xs from x);exact (show h'.IsTuple t xs from ⟨o,e o q,r⟩)
 |false=>obtain ⟨o,q,r⟩:=(show h.IsList t xs from x);exact (show h'.IsList t xs from ⟨o,e o q,r⟩)
section
variable {prog:Ym} {w:Yo} {A:Yn} {E:Yc} {s:Yl}
theorem zQR (hl:SO b s.heap l items) (hQ:Q (.ref s.heap.objs.size) { s with heap:=s.heap.push (itO b l) }):wpAny (model prog w) A (pyIter (.ref l)) Q E s:=by
 cases b with
 |true=>exact zZT (show s.heap.IsTuple l items from hl) hQ
 |false=>exact wpAny_pyIter_list (show s.heap.IsList l items from hl) hQ
theorem zT9 (e:h.get? it=some (itO b t)):SI b h it t 0:=by
 cases b with
 |true=>exact (show h.IsTupleIter it t 0 from ⟨_,e,rfl,rfl⟩)
 |false=>exact (show h.IsListIter it t 0 from ⟨_,e,rfl,rfl⟩)
end
def SqG (K:Yb) (b:Bool) (H:Hp) (a:Yt) (xs:List V):Prop:=if b then SqT K H a xs else SqL K H a xs
theorem zQb (I:Inv X zB σ H s) (h:SqG X.K b H a xs):∃ its,zb xs its/\SO b s.heap a its.toArray:=by
 cases b with
 |true=>obtain ⟨its,rv,p1,_⟩:=I.tuple h;exact ⟨its,rv,p1⟩
 |false=>obtain ⟨its,rv,p1,_⟩:=I.list h;exact ⟨its,rv,p1.isList⟩
theorem zWd (x:SO b h a its):a<h.objs.size:=by
 cases b with
 |true=>obtain ⟨_,e,_⟩:=(show h.IsTuple a its from x);exact zXy e
 |false=>obtain ⟨_,e,_⟩:=(show h.IsList a its from x);exact zXy e
section
variable {X:Cx} {a b:Expr} {es:Yi} {ek:Nat} {ep p pos:Pos}
theorem zVo {K:Yb} {L1:Yg} {M1:Mem} {H1:Hp} {x:D} {v:V} {xs:List D} (c1:Cor K L1 M1 H1) (r1:Rep L1 H1 x v) (e:zAJ M1 (.dat x)=some xs) :
  ∃ b l,v=.ref l/\(∃ vs,SqG K b H1 l vs) /\ ∀ L2 H2 M2,Stp L1 H1 L2 H2->Cor K L2 M2 H2->zAJ M2 (.dat x)=some xs -> ∃ vs',SqG K b H2 l vs'/\zR L2 H2 xs vs':=by
 have r1':za H1 L1 H1 (.dat x) v:=r1;cases x with
 |tup ds=>
  cases e;obtain ⟨a,vs,rfl,e3,r3⟩:=zBk r1' (xs:=xs) rfl;exact ⟨true,a,rfl,⟨vs,(show SqT K H1 a vs from .of e3)⟩,λL2 H2 M2 s2 c2 _=>⟨vs,(show SqT K H2 a vs from .of (s2.tup a vs e3)),r3.stp s2⟩⟩
 |ref n=>
  have e2:zBW M1 (.dat (.ref n))=some xs:=e;obtain ⟨a,vs,rfl,e3,r3⟩:=zA6 c1 r1' e2;refine ⟨false,a,rfl,⟨vs,(show SqL K H1 a vs from .inl e3)⟩,λL2 H2 M2 s2 c2 hq=>?_⟩;unfold Rep at r1;obtain ⟨a',ha',e5⟩:=r1;cases ha';have e6:L2[n]?=some a:=by obtain ⟨N,hN⟩:=s2.pre;rw[hN];exact zB6 e5
  have r2:za H2 L2 H2 (.dat (.ref n)) (.ref a):=by unfold za Rep;exact ⟨a,rfl,e6⟩
  obtain ⟨a2,vs',h2,e7,r7⟩:=zA6 c2 r2 (show zBW M2 (.dat (.ref n))=some xs from hq);cases h2;exact ⟨vs',(show SqL K H2 a vs' from .inl e7),r7⟩
 |_=>cases e
end
theorem zHO {ns:Ye} {its:Yf} (r:zb (ns.map V.int) its) {i:Nat} {v:Yu} (h:its.toArray[i]?=some v):∃ t,v=.int (ns.getD i 0) t:=by
 have h':its[i]?=some v:=by simpa using h
 have hi:i<its.length:=(zXq.mp h').1;have hl:=r.length;rw[zXw]at hl;have hx:(ns.map V.int)[i]?=some (.int (ns.getD i 0)):=by
  rw[zYA,zXs,zXr (by omega)];rfl
 obtain ⟨u,hu,ru⟩:=r.get hx;rw[h']at hu;cases hu;obtain ⟨t,rfl⟩:=ru;exact ⟨t,rfl⟩
theorem zMF (hh:A.handled=none) (b:Bool) (I ax:Yt) (hne:ax≠I) (items:Yp) :
  Walks prog w A I [I,ax] [I] items.size (λi v=>items[i]?=some v) (λi h=>SI b h I ax i/\SO b h ax items):=by
 cases b with
 |true=>exact Walks.tuple hh I ax hne items
 |false=>exact Walks.list hh I ax hne items
section
variable {X:Cx} {e:Expr} {pos p:Pos}
theorem zJX (gt:Bool) (hc:X.calm=true):zCP X (.builtin (if gt then "max" else "min")) (λxs H Q=>∃ (b:Bool) (a:Addr) (ns:List Int) (m:Int),xs=[.ref a]/\SqG X.K b H a (ns.map V.int)/\m∈ns/\(∀ x∈ns,if gt then x<=m else m<=x)/\Q (.int m) H):=by
 intro zB s σ H xs us Q I r h;obtain ⟨b,a,ns,m,rfl,hs,hm,hb,q⟩:=h;obtain ⟨u,rfl,ru⟩:=zEq r;cases ru;obtain ⟨its,rv,p1⟩:=zQb I hs;have hl:its.toArray.size=ns.length:=by have:=rv.length;simp at this ⊢;omega
 have hpos:0<ns.length:=List.length_pos_of_mem hm;have hlt:=zWd p1;have hfp:∀ c∈[s.heap.objs.size,a],c<(s.heap.push (itO b a)).objs.size:=λc hc'=>by
  rw[zYT];simp only[zXz,zYI,zY8]at hc';rcases hc' with rfl|rfl
  .exact zYk _
  .exact zYc hlt
 have st:SI b (s.heap.push (itO b a)) s.heap.objs.size a 0/\SO b (s.heap.push (itO b a)) a its.toArray:=⟨zT9 (zXx _ rfl),p1.keep λo e=>zXo _ e⟩;have kp:∀ h':Heap,(∀ c o,c∉[s.heap.objs.size]->(s.heap.push (itO b a)).get? c=some o->h'.get? c=some o) -> ∀ c o,s.heap.get? c=some o->h'.get? c=some o:=λh' hk c o e0=>
  hk c o (by simp only[zXz,zYI,zY8];exact zX8 (zXy e0)) (zXo _ e0)
 have fin:∀ (i:Nat) (v:Yu) (h':Heap) (tk:Nat),its.toArray[i]?=some v->ns.getD i 0=m->(∀ c o,s.heap.get? c=some o->h'.get? c=some o)->EP X zB σ Q v { s with heap:=h',toks:=tk }:=λi v h' tk hv hi hk=>by
  obtain ⟨t,rfl⟩:=zHO rv hv;rw[hi];exact ⟨.int m,H,I.kept hk,⟨t,rfl⟩,q⟩
 cases gt with
 |true=>
  refine call_max_walk (zQR p1 ⟨s.heap.objs.size,[s.heap.objs.size,a],[s.heap.objs.size],its.toArray.size,λi v=>its.toArray[i]?=some v,λi h=>SI b h s.heap.objs.size a i/\SO b h a its.toArray,_,rfl,zMF (A:=X.A.in1) (I.ok.hd hc) b _ a (zX8 hlt) its.toArray,st,hfp,by omega,CmpOf.ints_gt (λi=>ns.getD i 0) (λ_ _ hv=>zHO rv hv),λv h' tk hP hk=>?_⟩);refine fin _ v h' tk hP ?_ (kp h' hk);obtain ⟨h1,h2⟩:=argBest_gt (λi=>ns.getD i 0) (its.toArray.size-1);rw[hl]at h1 h2 ⊢;generalize argBest _ (ns.length-1)=q at h1 h2 ⊢;obtain ⟨j,hj,ej⟩:=List.mem_iff_getElem.mp hm;have h3:=h2 j (by omega);have e3:ns.getD j 0=m:=by rw[zXs,zXr hj];exact ej
  have hq:q<ns.length:=by omega
  have h4:ns.getD q 0<=m:=by
   have:=hb (ns.getD q 0) (by rw[zXs,zXr hq];exact zYL hq);simpa using this
  rw[e3]at h3;omega
 |false=>
  refine call_min_walk (zQR p1 ⟨s.heap.objs.size,[s.heap.objs.size,a],[s.heap.objs.size],its.toArray.size,λi v=>its.toArray[i]?=some v,λi h=>SI b h s.heap.objs.size a i/\SO b h a its.toArray,_,rfl,zMF (A:=X.A.in1) (I.ok.hd hc) b _ a (zX8 hlt) its.toArray,st,hfp,by omega,CmpOf.ints_lt (λi=>ns.getD i 0) (λ_ _ hv=>zHO rv hv),λv h' tk hP hk=>?_⟩);refine fin _ v h' tk hP ?_ (kp h' hk);obtain ⟨h1,h2⟩:=argBest_lt (λi=>ns.getD i 0) (its.toArray.size-1);rw[hl]at h1 h2 ⊢;generalize argBest _ (ns.length-1)=q at h1 h2 ⊢;obtain ⟨j,hj,ej⟩:=List.mem_iff_getElem.mp hm;have h3:=h2 j (by omega);have e3:ns.getD j 0=m:=by rw[zXs,zXr hj];exact ej
  have hq:q<ns.length:=by omega
  have h4:m<=ns.getD q 0:=by
   have:=hb (ns.getD q 0) (by rw[zXs,zXr hq];exact zYL hq);simpa using this
  rw[e3]at h3;omega
noncomputable def zCn (gt:Bool):Int->List Int->Int
 |m,[]=>m
 |m,x::r=>zCn gt (if (if gt then m<x else x<m) then x else m) r
theorem zCj (gt:Bool):∀ (r:Ye) (m:Int),zCn gt m r∈m::r /\ ∀ x∈m::r,if gt then x<=zCn gt m r else zCn gt m r<=x
 |[],m=>by
  refine ⟨by simp[zCn],λx hx=>?_⟩;have:x=m:=by simpa using hx
  subst this;cases gt <;> simp[zCn]
 |y::r,m=>by
  unfold zCn;obtain ⟨h1,h2⟩:=zCj gt r (if (if gt then m<y else y<m) then y else m);generalize hb:zCn gt (if (if gt then m<y else y<m) then y else m) r=B at h1 h2;constructor
  .rcases zXz.mp h1 with q|q
   .rw[q];by_cases hc:(if gt=true then m<y else y<m)
    .rw[zX2 hc];simp
    .rw[zX5 hc];simp
   .simp[q]
  .intro x hx;have h0:=h2 _ zX1;rcases zXz.mp hx with q|q
   .subst q;cases gt with
    |true=>simp at h0 ⊢;split at h0 <;> omega
    |false=>simp at h0 ⊢;split at h0 <;> omega
   .rcases zXz.mp q with z|z
    .subst z;cases gt with
     |true=>simp at h0 ⊢;split at h0 <;> omega
     |false=>simp at h0 ⊢;split at h0 <;> omega
    .exact h2 x (zX0 _ z)
noncomputable def zC7 (gt:Bool):KB:=λxs M=>match xs with
 |[.dat d]=>match zAJ M (.dat d) with
  |some ds=>match zAV ds with
   |some (n::ns)=>some (.dat (.int (zCn gt n ns)),M)
   |_=>none
  |none=>none
 |[.fl ds]=>match zAV ds with
  |some (n::ns)=>some (.dat (.int (zCn gt n ns)),M)
  |_=>none
 |_=>none
theorem zLk {K:Yb} {gt:Bool}:zIA K (λxs H Q=>∃ (b:Bool) (a:Yt) (ns:Ye) (m:Int),xs=[.ref a]/\SqG K b H a (ns.map V.int)/\m∈ns/\(∀ x∈ns,if gt then x<=m else m<=x)/\Q (.int m) H) (zC7 gt):=by
 intro L M M' H H0 xs d vs Q c r hk q;unfold zC7 at hk;split at hk
 .rename_i d0;split at hk
  .rename_i ds e1;split at hk
   .rename_i n ns e2;cases hk;obtain ⟨v,rfl,r1⟩:=r.one;have r1':Rep L H d0 v:=r1;obtain ⟨b,l,rfl,_,key⟩:=zVo c r1' e1;obtain ⟨vs',hq,rr⟩:=key L H M (.refl L H) c e1;have ev:=zBd e2 rr;subst ev;obtain ⟨h1,h2⟩:=zCj gt ns n;exact ⟨b,l,n::ns,zCn gt n ns,rfl,hq,h1,h2,q L H _ (.refl L H) c (zAb (L:=L) (H:=H))⟩
   .cases hk
  .cases hk
 .rename_i ds;split at hk
  .rename_i n ns e2;cases hk;obtain ⟨v,rfl,r1⟩:=r.one;obtain ⟨l,vs',rfl,hq,rr⟩:=zA6 c r1 (show zBW M (.fl ds)=some ds from rfl);have ev:=zBd e2 rr;subst ev;obtain ⟨h1,h2⟩:=zCj gt ns n;exact ⟨false,l,n::ns,zCn gt n ns,rfl,.inl hq,h1,h2,q L H _ (.refl L H) c (zAb (L:=L) (H:=H))⟩
  .cases hk
 .cases hk
theorem zUI (hcalm:X.calm=true) (hg:Gl X "max") (hm:X.mg "max" = none) (ha:QAE X [e] fa) (he:starEach [e] X.env=(false,eval e X.env)::starEach [] X.env:=by rfl) (hpl:(backTo pos (starEach [] X.env)).any (·.1)=false:=by rfl):QE X (.Call (.Name "max" p) [e] [] pos) (fB (zC7 true) fa) :=
 zDn zLk (zJX true hcalm) (by rfl) hg hm ha (by decide) (by decide) he hpl
theorem zVg (hcalm:X.calm=true) (hg:Gl X "min") (hm:X.mg "min" = none) (ha:QAE X [e] fa) (he:starEach [e] X.env=(false,eval e X.env)::starEach [] X.env:=by rfl) (hpl:(backTo pos (starEach [] X.env)).any (·.1)=false:=by rfl):QE X (.Call (.Name "min" p) [e] [] pos) (fB (zC7 false) fa) :=
 zDn zLk (zJX false hcalm) (by rfl) hg hm ha (by decide) (by decide) he hpl
end
section
variable {X:Cx} {a e e2 o:Expr} {pos p apos cpos:Pos} {f:FE}
noncomputable def zNH (f:FE):FT:=λσ M=>match f σ M with
 |some (x,M1)=>match zAJ M1 x with
  |some xs=>some (!xs.isEmpty,M1)
  |none=>none
 |none=>none
theorem zTA (h:QE X a f) (he:∀ whole,isTrue a X.env whole=(do let v <- whole;standAt a.pos;holding [v] (truthy v)):=by intro _;rfl):QT X a (zNH f) :=
 .mk <| PT.imp (zRl h.un he) λτ H Q zz=>by
  obtain ⟨L,σ,M,d,M',c,rs,hf,q⟩:=zz;unfold zNH at hf;split at hf
  .rename_i x M1 e1;split at hf
   .rename_i xs e2;cases hf;refine ⟨L,σ,M,_,_,c,rs,e1,λL1 H1 v s1 c1 r1=>⟨!xs.isEmpty,?_,q L1 H1 s1 c1⟩⟩;unfold zAJ at e2;have emp:∀ {vs:List V},zR L1 H1 xs vs->(!xs.isEmpty) = !vs.isEmpty:=λ{vs} r=>by
     have:=r.length;cases xs <;> cases vs <;> first|rfl|simp at this
    cases t:zBz x with
    |some ws=>
     rw[t]at e2;cases e2;obtain ⟨l,vs,rfl,e3,r3⟩:=zBk r1 t;exact .inr (.inl ⟨vs,.of e3,emp r3⟩)
    |none=>
     rw[t]at e2;obtain ⟨l,vs,rfl,e3,r3⟩:=zA6 c1 r1 e2;exact .inl ⟨vs,.inl e3,emp r3⟩
   .cases hf
  .cases hf
noncomputable def zSx (i j k:Nat):FG:=λd σ=>match d with
 |.tup [x,y,z]=>some (((σ.set i (some x)).set j (some y)).set k (some z))
 |_=>none
noncomputable abbrev gP3 (K:Yb) (i j k:Nat):TG:=zUk K 3 (zJO (zCs i) (zJO (zCs j) (zJO (zCs k) zVZ)))
theorem zW9 (r:zR L H [x,y,z] vs):∃ v1 v2 v3,vs=[v1,v2,v3]/\Rep L H x v1/\Rep L H y v2/\Rep L H z v3:=by
 unfold zR at r;obtain ⟨v1,r',rfl,h1,r⟩:=r;obtain ⟨v2,v3,rfl,h2,h3⟩:=r.two;exact ⟨v1,v2,v3,rfl,h1,h2,h3⟩
theorem zSq {K:Yb} {i j k:Nat}:GOk (gP3 K i j k) (zSx i j k):=by
 intro L H σ σ' τ d v Q rs r hf q;unfold zSx at hf;split at hf
 .rename_i x y z;cases hf;unfold Rep at r;obtain ⟨a,vs,rfl,e,r⟩:=r;obtain ⟨v1,v2,v3,rfl,r1,r2,r3⟩:=zW9 r;exact ⟨a,_,rfl,.of e,rfl,v1,[v2,v3],rfl,v2,[v3],rfl,v3,[],rfl,rfl,q _ (((rs.set r1).set r2).set r3)⟩
 .cases hf
theorem zPX:zCP X (.builtin "len") (λxs H Q=>∃ (p:Addr) (kvs:List (Key × V)),xs=[.ref p]/\H p=some (.dK kvs)/\Q (.int kvs.length) H):=by
 intro zB s σ H xs us Q I r h;obtain ⟨p,kvs,rfl,hx,q⟩:=h;obtain ⟨u,rfl,rx⟩:=zEq r;cases rx;have hn:=zEy;obtain ⟨hz,hS,vs,r',m⟩:kvs.length<=sizeLine/\(p==sysModules)=false /\ ∃ vs,KV kvs vs/\s.heap.DictOf (zAQ X.prog X.w) p vs:=I.hok p _ hx;have hlen:kvs.length=vs.length:=Paired.length r';exact call_len_dict hS m (by omega) ⟨.int kvs.length,H,I.tok _,⟨s.toks+1,by rw[hlen]⟩,q⟩
noncomputable def zIq:KB:=λxs M=>match xs with
 |[.dat (.ref n)]=>match M[n]? with
  |some (.dict kvs)=>some (.dat (.int kvs.length),M)
  |_=>none
 |_=>none
theorem zP5 {K:Yb}:zIA K (λxs H Q=>∃ (p:Yt) (kvs:List (Key × V)),xs=[.ref p]/\H p=some (.dK kvs)/\Q (.int kvs.length) H) zIq:=by
 intro L M M' H H0 xs d vs Q c r hk q;unfold zIq at hk;split at hk
 .rename_i n;split at hk
  .rename_i kvs e1;cases hk;obtain ⟨v,rfl,r1⟩:=r.one;unfold za Rep at r1;obtain ⟨a,rfl,e2⟩:=r1;obtain ⟨ws,e3,r3⟩:=c.obj n a _ e2 e1;have hl:=r3.length;refine ⟨a,ws,rfl,e3,?_⟩;have:=q L H (.int kvs.length) (.refl L H) c (zAb (L:=L) (H:=H));rw[<-hl]at this;exact this
  .cases hk
 .cases hk
theorem zUl (hg:Gl X "len") (hm:X.mg "len" = none) (ha:QAE X [e] fa) (he:starEach [e] X.env=(false,eval e X.env)::starEach [] X.env:=by rfl) (hpl:(backTo pos (starEach [] X.env)).any (·.1)=false:=by rfl):QE X (.Call (.Name "len" p) [e] [] pos) (fB zIq fa) :=
 zDn zP5 zPX PySem.boot_len hg hm ha (by decide) (by decide) he hpl
end
noncomputable def zJe (fg:FG) (tc:FT) (fi2:FI) (own2:Yj) (fg2:FG) (tc2:FT) (te:FE) (σ:Sd) (all:List D) (gd:Option (Mem->Prop)):List D->List D->Mem->Option (List D × Mem)
 |[],acc,M=>open Classical in if zAr gd all M then some (acc,M) else none
 |x::r,acc,M=>open Classical in if zAr gd all M then match fg x σ with
   |some σ1=>match tc σ1 M with
    |some (true,M1)=>match fi2 σ1 M1 with
     |some (ys,gd2,M2)=>if acc.length+ys.length<=sizeLine then match zAx fg2 tc2 te (zBD own2 σ1) ys gd2 ys M2 with
       |some (ds,M3)=>zJe fg tc fi2 own2 fg2 tc2 te σ all gd r (acc++ds) M3
       |none=>none
      else none
     |none=>none
    |some (false,M1)=>zJe fg tc fi2 own2 fg2 tc2 te σ all gd r acc M1
    |none=>none
   |none=>none
  else none
noncomputable def zFo (own own2:Yj) (fi:FI) (fg:FG) (tc:FT) (fi2:FI) (fg2:FG) (tc2:FT) (te:FE):FE:=λσ M=>match fi σ M with
 |some (xs,gd,M1)=>match zJe fg tc fi2 own2 fg2 tc2 te (zBD own σ) xs gd xs [] M1 with
  |some (ys,M2)=>some (.fl ys,M2)
  |none=>none
 |none=>none
theorem zMc {K:Yb} {own own2:Yj} {fi fi2:FI} {g g2:TG} {fg fg2:FG} {tc tc2:FT} {te:FE} (hg:zFZ own g fg) (hg2:zFZ own2 g2 fg2) {τ:Sv} {H:Hp} {Q:VK} (h:trE K (zFo own own2 fi fg tc fi2 fg2 tc2 te) τ H Q) :
  zQB own own2 (trI K fi) g (trT K tc) (trI K fi2) g2 (trT K tc2) (trD K (toD te)) τ H Q:=by
 obtain ⟨L,σ,M,d,Mf,c,rs,hf,q⟩:=h;unfold zFo at hf;split at hf
 .rename_i xs gd M1 e1;split at hf
  .rename_i zs M2 e2;cases hf;refine ⟨L,σ,M,_,_,_,c,rs,e1,λL1 H1 J s1 c1 it=>?_⟩
   refine ⟨λi m ys H'=>m=xs.length-i/\i<=xs.length /\ ∃ L' M' as,Stp L1 H1 L' H'/\Cor K L' M' H'/\zR L' H' as ys/\as.length<=sizeLine/\zJe fg tc fi2 own2 fg2 tc2 te (zBD own σ) xs gd (xs.drop i) as M'=some (zs,Mf),
    ⟨xs.length,by simp,zYZ _,L1,M1,[],.refl _ _,c1,.nil,zYZ _,by simpa using e2⟩,?_⟩
   rintro i m ys H' ⟨rfl,hi,L',M',as,s',c',r',hl,e'⟩;by_cases hlt:i<xs.length
   .rw[zCY hlt]at e';unfold zJe at e';split at e'
    .rename_i hgd;obtain ⟨step,_⟩:=it L' H' M' s' c' hgd;obtain ⟨go,yl⟩:=step i xs[i] (zXr hlt);split at e'
     .rename_i σ1 eg;refine .inr ⟨go,λv H2 hy=>?_⟩;obtain ⟨gr,rv⟩:=yl v H2 hy;have s2:Stp L1 H1 L' H2:=s'.yld gr;refine hg (zEa own ((rs.stp s1).stp s2)) (.refl _) rv eg λτ2 r2 x2=>⟨x2,?_⟩;split at e'
      .rename_i M3 e3;split at e'
       .rename_i ys2 gd2 M4 e4;split at e'
        .rename_i hz2;split at e'
         .rename_i ds M5 e5;refine ⟨L',σ1,M',_,_,c'.grow gr,r2,e3,λL3 H3 s3 c3=>zG4 ?_⟩;have st3:Stp L' H' L3 H3:=(Stp.grow gr).trans s3;refine ⟨L3,σ1,M3,_,_,_,c3,r2.stp s3,e4,λL4 H4 J2 s4 c4 it2=>?_⟩
          refine ⟨λj m2 ws H5=>m2=ys2.length-j/\j<=ys2.length /\ ∃ L5 M6 bs cs,Stp L4 H4 L5 H5/\Cor K L5 M6 H5/\zR L5 H5 (as++bs) ws/\bs.length<=j/\zAx fg2 tc2 te (zBD own2 σ1) ys2 gd2 (ys2.drop j) M6=some (cs,M5)/\bs++cs=ds,
           ⟨ys2.length,by simp,zYZ _,L4,M4,[],ds,.refl _ _,c4,by simpa using (r'.stp st3).stp s4,zXt _,by simpa using e5,rfl⟩,?_⟩
          rintro j m2 ws H5 ⟨rfl,hj,L5,M6,bs,cs,s5,c5,r5,hbl,e6,hbc⟩;have hws:ws.length<=as.length+j:=by rw[r5.length,zX3];omega
          by_cases hlt2:j<ys2.length
          .rw[zCY hlt2]at e6;unfold zAx at e6;split at e6
           .rename_i hgd2;obtain ⟨step2,_⟩:=it2 L5 H5 M6 s5 c5 hgd2;obtain ⟨go2,yl2⟩:=step2 j ys2[j] (zXr hlt2);split at e6
            .rename_i σ2 eg2;refine .inr ⟨go2,λv2 H6 hy2=>?_⟩;obtain ⟨gr2,rv2⟩:=yl2 v2 H6 hy2;have s6:Stp L4 H4 L5 H6:=s5.yld gr2;refine hg2 (zEa own2 (((r2.stp s3).stp s4).stp s6)) (.refl _) rv2 eg2 λτ3 r3 x3=>⟨x3,?_⟩;split at e6
             .rename_i M7 e7;split at e6
              .rename_i d M8 e8;split at e6
               .rename_i ds' M9 e9;cases e6;refine ⟨L5,σ2,M6,_,_,c5.grow gr2,r3,e7,λL7 H7 s7 c7=>zG4 ?_⟩;refine ⟨L7,σ2,M7,_,_,c7,r3.stp s7,e8,λL8 H8 w s8 c8 r8=>?_⟩;have st:Stp L5 H5 L8 H8:=((Stp.grow gr2).trans s7).trans s8;refine ⟨by omega,ys2.length-(j+1),by omega,rfl,hlt2,L8,M8,bs++[d],ds',s5.trans st,c8,?_,by simp;omega,e9,by rw[<-hbc];simp⟩;have:=(r5.stp st).app (.cons r8 .nil);simpa using this
               .cases e6
              .cases e6
             .rename_i M7 e7;refine ⟨L5,σ2,M6,_,_,c5.grow gr2,r3,e7,λL7 H7 s7 c7=>zHD ?_⟩;have st:Stp L5 H5 L7 H7:=(Stp.grow gr2).trans s7;exact ⟨ys2.length-(j+1),by omega,rfl,hlt2,L7,M7,bs,cs,s5.trans st,c7,r5.stp st,by omega,e6,hbc⟩
             .cases e6
            .cases e6
           .cases e6
          .have hj':j=ys2.length:=by omega
           subst hj';rw[List.drop_length]at e6;unfold zAx at e6;split at e6
           .rename_i hgd2;cases e6;obtain ⟨_,stop2⟩:=it2 L5 H5 _ s5 c5 hgd2;rw[zYX]at hbc;subst hbc;refine .inl ⟨stop2,xs.length-(i+1),by omega,rfl,hlt,L5,M5,as++bs,s'.trans ((st3.trans s4).trans s5),c5,r5,by rw[zX3];omega,e'⟩
           .cases e6
         .cases e'
        .cases e'
       .cases e'
      .rename_i M3 e3;refine ⟨L',σ1,M',_,_,c'.grow gr,r2,e3,λL3 H3 s3 c3=>zHD ?_⟩;have st:Stp L' H' L3 H3:=(Stp.grow gr).trans s3;exact ⟨xs.length-(i+1),by omega,rfl,hlt,L3,M3,as,s'.trans st,c3,r'.stp st,hl,e'⟩
      .cases e'
     .cases e'
    .cases e'
   .have hi':i=xs.length:=by omega
    subst hi';rw[List.drop_length]at e';unfold zJe at e';split at e'
    .rename_i hgd;cases e';obtain ⟨_,stop⟩:=it L' H' _ s' c' hgd;refine .inl ⟨stop,by rw[r'.length];exact hl,λp hp=>?_⟩;exact q L' _ _ ((s1.trans s').trans (.upd hp)) (c'.upd hp) (za.newLst (s1.trans s') c c' hp r')
    .cases e'
  .cases hf
 .cases hf
section
variable {X:Cx} {scope:Y0} {elt t1 i1 t2 i2:Expr} {f1 f2:Yi} {pos:Pos}
structure QParts2 (X:Cx) (scope:Y0) (t1:Expr) (f1:Yi) (t2 i2:Expr) (f2:Yi) (elt:Expr) (g:TG) (tc:FT) (fi2:FI) (g2:TG) (tc2:FT) (te:FE):Prop where
 g:∀ zB cl s H fp,PG (zM X zB scope cl s H fp) t1 g
 c:∀ zB cl s H fp,QIfs (zM X zB scope cl s H fp) f1 tc
 w2:∀ zB cl s H fp,QI (zM X zB scope cl s H fp) t2 i2 fi2
 g2:∀ zB cl s H fp,PG (zM X zB scope cl s H fp) t2 g2
 c2:∀ zB cl s H fp,QIfs (zM X zB scope cl s H fp) f2 tc2
 e:∀ zB cl s H fp,QE (zM X zB scope cl s H fp) elt te
 s2:∀ zB cl s H fp x,foldedSetIterable i2 (zM X zB scope cl s H fp).env x=pure x
theorem zSn {own own2:Yj} {fi fi2:FI} {g g2:TG} {fg fg2:FG} {tc tc2:FT} {te:FE} (hsub:∀ i∈own2,i∈own) (hg:zFZ own g fg) (hg2:zFZ own2 g2 fg2) (C:CompIn X scope own) (hcalm:X.calm=true) (hi:QI X t1 i1 fi) (p:QParts2 X scope t1 f1 t2 i2 f2 elt g tc fi2 g2 tc2 te) (hs:∀ x,foldedSetIterable i1 X.env x=pure x:=by intro _;rfl) :
  QE X (zBh elt t1 i1 f1 t2 i2 f2 scope pos) (zFo own own2 fi fg tc fi2 fg2 tc2 te) :=
 .mk <| PE.imp (zPr hsub C hcalm hi.un ⟨p.g,λzB cl s H fp=>(p.c zB cl s H fp).un,λzB cl s H fp=>(p.w2 zB cl s H fp).un,p.g2,λzB cl s H fp=>(p.c2 zB cl s H fp).un,λzB cl s H fp=>(zA5 (p.e zB cl s H fp)).un,p.s2⟩ hs) λ_ _ _ h=>zMc hg hg2 h
end
end L3
namespace L2
open PySem PySem.Spec PyProof.Rows
section
variable {X:Cx} {scope:Y0} {tg kx vx iter:Expr} {ifs:Yi} {pos:Pos} {own:Yj} {isT:Bool} {wi:TI} {g:TG} {tc:TT} {tk tv:TE}
theorem zHV (hN:X.N.Nodup) (hi':X.N[i]?=some x) (hx:Loc X.env.scope x) (hfn:X.fn x=true\/X.env.scope.names.lookup x=some .local)
  (hsw:swapsWith (.DictComp kx vx [⟨tg,iter,ifs,0⟩] scope pos) (some (.Name x pos')) pos''.line X.env=pure true)
  (hu:X.A.units+1<cLine) (C:CompIn X scope own) (hcalm:X.calm=true) (hi:PI X tg iter wi) (p:CompParts X scope tg ifs kx g tc tk) (p2:∀ zB cl s H fp,PE (zM X zB scope cl s H fp) vx tv) (hs:∀ x,foldedSetIterable iter X.env x=pure x:=by intro _;rfl) :
  PS X (.Assign [.Name x pos'] (.DictComp kx vx [⟨tg,iter,ifs,0⟩] scope pos) pos'') (zQ5 (zFz isT own wi g tc tk tv) (zCs i)):=by
 intro zB s σ H D I h;obtain ⟨cl,hcl,c1,c2⟩:=C.sc.closure I;rw[exec_Assign_Name_used _ _ _ _ hsw];refine zXn (zYl (zXn ?_));show wpAny _ X.A (do let _ <- comprehension (.DictComp kx vx [⟨tg,iter,ifs,0⟩] scope pos) scope X.env _ newDict false (eval iter X.env) (some (assign (.Name x pos') X.env))) _ _ s
 refine zXn (zYJ (zZh (use:=some (assign (.Name x pos') X.env)) (Q:=λ_ s'=>SP X zB D .next s') rfl hs hcl C.sc.kind C.sc.names
  (thn (hi zB s σ H _ I h) λv s1 h1=>thn h1 λitv s2 h2=>?_)) (λ_ s' hq=>zXp (zXp hq)) λ_ _ e=>e)
 obtain ⟨it,fp,tn,J,H2,e,I2,T,st2,f2,hD⟩:=h2;subst e;obtain ⟨W,⟨m0,w0⟩,turn⟩:=hD s2.heap.objs.size (I2.hok.fresh (zXt _))
 refine zD2 hu C hcalm I2 T st2 f2 c1 c2 (p.g _ _ _ _ _) (p.c _ _ _ _ _) (p.e _ _ _ _ _) (p2 _ _ _ _ _) (RR:=λacc C r s'=>compPost (model X.prog X.w) X.A X.xe (some (assign (.Name x pos') X.env)) (λ_ s'=>SP X zB D .next s') acc C r s')
  (QQ:=λH=>zCs i (.ref s2.heap.objs.size) σ H D.nx) w0 turn ?_
 intro σc H' s' Ic qq;obtain ⟨m,hn,_⟩:=Ic.loc;have J':=zEu (h':=s'.heap) I2 f2 Ic (.refl ..);obtain ⟨oC,es,ep,hoC,hdC,r1,r2⟩:=id hn;have nC:H' (s2.heap.objs.size+1)=none:=Ic.free;have K':Inv X (zB++[(s2.heap.objs.size+1,oC)]) σ H' s':=J'.pins_of λq hq=>by
  rcases zYD.mp hq with z|z
  .exact J'.pin q (zX7 _ z)
  .have e:q=(s2.heap.objs.size+1,oC):=by simpa using z
   subst e;refine ⟨hoC,nC,zZI (zYc I2.lt),I2.nofs (zZV _),λv z=>?_⟩;have z':oC.data=.cell v:=z;rw[hdC]at z';cases z'
 show wpAny _ X.A (assign (.Name x pos') X.env (.ref s2.heap.objs.size)) _ _ _;refine thn (zKr hN hi' hx hfn _ s' σ _ (.ref s2.heap.objs.size) (.ref s2.heap.objs.size) _ K' rfl qq) λ_ s'' ⟨σ'',H'',I'',q''⟩=>?_;obtain ⟨eC,_⟩:=I''.pin (s2.heap.objs.size+1,oC) (by simp);refine ⟨m,⟨oC,es,ep,eC,hdC,r1,r2⟩,λh' hs'=>⟨σ'',H'',?_,q''⟩⟩;have I3:Inv X zB σ'' H'' s'':=I''.unpinned;obtain ⟨_,nC'',neC,_,_⟩:=I''.pin (s2.heap.objs.size+1,oC) (by simp);refine I3.turned (t':=s''.toks) (it:=s2.heap.objs.size+1) (λb o hb e=>hs'.extBut b o hb e) nC'' neC (.inr (zYE I2.sz (zZV _))) (λx c e z=>?_) (λq hq z=>?_)
 .obtain ⟨v,o,ho,hd⟩:=I3.cell x c e;rw[z,eC]at ho;cases ho;rw[hdC]at hd;cases hd
 .obtain ⟨e,_⟩:=I2.pin q hq;exact zX8 (zYc (zXy e)) z
end
end L2
namespace L3
open PySem PySem.Spec PyProof.Rows L2
section
variable {X:Cx} {scope:Y0} {tg kx vx iter:Expr} {ifs:Yi} {pos:Pos} {own:Yj} {isT:Bool}
theorem zMl (hN:X.N.Nodup) (hi':X.N[i]?=some x) (hx:Loc X.env.scope x) (hfn:X.fn x=true\/X.env.scope.names.lookup x=some .local)
  (hsw:swapsWith (.DictComp kx vx [⟨tg,iter,ifs,0⟩] scope pos) (some (.Name x pos')) pos''.line X.env=pure true)
  (hu:X.A.units+1<cLine) (hg:zFZ own g fg) (C:CompIn X scope own) (hcalm:X.calm=true) (hi:QI X tg iter fi) (p:QParts X scope tg ifs kx g tc tk) (p2:∀ zB cl s H fp,QE (zM X zB scope cl s H fp) vx tv) (hs:∀ x,foldedSetIterable iter X.env x=pure x:=by intro _;rfl) :
  QS X (.Assign [.Name x pos'] (.DictComp kx vx [⟨tg,iter,ifs,0⟩] scope pos) pos'') (zj i (zDG isT own fi fg tc tk tv)) :=
 .mk <| PS.imp (zHV (isT:=isT) hN hi' hx hfn hsw hu C hcalm hi.un p.parts (λ_ _ _ _ _=>(zA5 (p2 _ _ _ _ _)).un) hs) λ_ _ _ z=>zHI (λ_ _ _ z=>zHn hg z) z
end
end L3
namespace L2
open PySem PySem.Spec PyProof.Rows
end L2
namespace L3
open PySem PySem.Spec PyProof.Rows L2
open SeqAt
def zFx (A:Yn) (s:Yl) (x y:Yu) (b:Bool):Prop:=∀ (prog:Ym) (w:Yo) (E Q:Yc),Q (.bool b) s->wpAny (model prog w) A (richCompare .Lt x y) Q E s
theorem zFx.ints (i:Int) (t:Tok) (j:Int) (u:Tok):zFx A s (.int i t) (.int j u) (decide (i<j)):=λprog w E Q q=>
 richCompare_gives (op:=.Lt) (typeIs_int s i t) (typeIs_int s j u) F.slot_int_lt F.entry_int_lt (F.args_int_lt_2 _ _) (gives_int_lt i j t u) (λx=>nomatch x) q
noncomputable def zEQ (e l:Nat->Bool) (sz:Bool):Nat->Nat->Bool
 |0,_=>sz
 |m+1,k=>if e k then zEQ e l sz m (k+1) else l k
theorem zMr (a b:Yt) (xs ys:Yp) (n1 n2:Nat) (d1 d2:Option Addr) (s1 s2:Array (Option Value)) (e l:Nat->Bool) :
  Meets (Builtin.«tuple.__lt__» ⟨[.ref a,.ref b],[]⟩)
   (λA R s=>s.heap.get? a=some { cls:=.type "tuple", dict:=d1,data:=.seq xs n1,slots:=s1 }/\s.heap.get? b=some { cls:=.type "tuple", dict:=d2,data:=.seq ys n2,slots:=s2 } /\
    (∀ j (h1:j<xs.size) (h2:j<ys.size),EqAt A.in1 s xs[j] ys[j] (e j))/\(∀ j (h1:j<xs.size) (h2:j<ys.size),e j=false->zFx A.in1 s xs[j] ys[j] (l j)) /\
    R (.ok (.ret (.bool (zEQ e l (decide (xs.size<ys.size)) (min xs.size ys.size) 0)))) s) :=
 .of_wp λprog w A R s h=>by
  obtain ⟨hp,g,d,tk,os⟩:=s;obtain ⟨ha,hb,he,hl,q⟩:=h;have f2:=AutoSeq1.sub_tuple_tuple;have hZ:(xs.toList.zip ys.toList).length=min xs.size ys.size:=by simp
  wp_walk using wpAny_loadPart' ha,wpAny_loadPart' hb,wpAny_forIn_list _ (λrest c s'=>c.1=none/\s'=⟨hp,g,d,tk,os⟩ /\ ∃ i,i<=min xs.size ys.size/\rest=(xs.toList.zip ys.toList).drop i /\
   R (.ok (.ret (.bool (zEQ e l (decide (xs.size<ys.size)) (min xs.size ys.size-i) i)))) ⟨hp,g,d,tk,os⟩) _
  case turn=>
   rintro ⟨y,x⟩ rest c s' ⟨hc,rfl,i,hi,hz,q⟩;have hlt:i<(xs.toList.zip ys.toList).length:=by
    rcases zY9 i (xs.toList.zip ys.toList).length with z|z
    .exact z
    .rw[List.drop_of_length_le z]at hz;cases hz
   have hm:i<min xs.size ys.size:=hZ▸hlt;have i1:i<xs.size:=by omega
   have i2:i<ys.size:=by omega
   rw[List.drop_eq_getElem_cons hlt]at hz;injection hz with hyx hrest
   have hy:y=xs[i]:=by have:=zZa Prod.fst hyx;simpa using this
   have hx:x=ys[i]:=by have:=zZa Prod.snd hyx;simpa using this
   subst hy hx;rw[show min xs.size ys.size-i=(min xs.size ys.size-(i+1))+1 by omega,zEQ]at q;refine zXn (he i i1 i2 prog w _ _ ?_);cases hq:e i with
   |true=>
    rw[hq,zX2 rfl]at q;wp_walk;exact ⟨rfl,rfl,i+1,by omega,hrest,q⟩
   |false=>
    rw[hq,zX5 (by decide)]at q;refine wpAny_ite_split (λ_=>?_) (λz=>absurd rfl z);refine zXn (zZA (zXn (hl i i1 i2 hq prog w _ _ ?_)));wp_walk;exact ⟨_,rfl,q⟩
  case fin=>
   rintro ⟨c1,c2⟩ s' ⟨hc,rfl,i,hi,hz,q⟩;simp only at hc;subst hc;have hge:min xs.size ys.size<=i:=by
    rcases zY9 i (xs.toList.zip ys.toList).length with z|z
    .rw[List.drop_eq_getElem_cons z]at hz;cases hz
    .exact hZ▸z
   rw[show min xs.size ys.size-i=0 by omega,zEQ]at q;wp_walk;exact ⟨_,rfl,by simpa [Builtin.Tuple.tupleCompareSizes] using q⟩
  case h=>
   exact ⟨rfl,rfl,0,by omega,rfl,q⟩
theorem zFx.tuples (ha:s.heap.IsTuple a xs) (hb:s.heap.IsTuple b ys) (hu:A.units<cLine)
  (he:∀ j (h1:j<xs.size) (h2:j<ys.size),EqAt A.in1 s xs[j] ys[j] (e j)) (hl:∀ j (h1:j<xs.size) (h2:j<ys.size),e j=false->zFx A.in1 s xs[j] ys[j] (l j)) :
  zFx A s (.ref a) (.ref b) (zEQ e l (decide (xs.size<ys.size)) (min xs.size ys.size) 0):=λprog w E Q q=>by
 obtain ⟨⟨c1,d1,t1,s1⟩,o1,rfl,n1,rfl⟩:=id ha;obtain ⟨⟨c2,d2,t2,s2⟩,o2,rfl,n2,rfl⟩:=id hb;exact richCompare_meets_room (op:=.Lt) ⟨_,o1,rfl⟩ ⟨_,o2,rfl⟩ F.slot_tuple_lt F.entry_tuple_lt (F.args_tuple_lt_2 _ _) (zMr a b xs ys n1 n2 d1 d2 s1 s2 e l) ⟨o1,o2,he,hl,(λx=>nomatch x),q⟩ hu
section
variable {prog:Ym} {w:Yo} {A:Yn} {R:Yx} {J:Yt} {fp wr:Yg} {n:Nat} {P:Nat->Value->Prop} {St:Nat->Heap->Prop}
abbrev zI0 (s0:Yl) (h:Heap):Prop:=∀ b o,s0.heap.get? b=some o->h.get? b=some o
def zUD (prog:Ym) (w:Yo) (A:Yn) (s0:Yl) (P:Nat->Value->Prop) (bt:Nat->Nat->Bool):Prop :=
 ∀ i j x y h t (Q E:Yc),zI0 s0 h->P i x->P j y->Q (.bool (bt i j)) { s0 with heap:=h,toks:=t }->wpAny (model prog w) A (richCompare .Lt x y) Q E { s0 with heap:=h,toks:=t }
theorem zFc:(toString "min" ++ toString ".loop" : String) = "min.loop" := by decide
theorem zQ1 (W:Walks prog w A.in1 J fp wr n P St) (bt:Nat->Nat->Bool) (cmp:zUD prog w A.in1 s0 P bt) (S:Yt) (sf:S∉fp) (new:∀ b o,s0.heap.get? b=some o->b∉wr/\b≠S) :
  ∀ (k j:Nat) (h:Heap) (t:Nat) (best:Yu) (c:Nat),n-(j+1)=k->j+1<=n->St (j+1) h->P (argBest bt j) best->zI0 s0 h ->
  h.get? S=some { cls:=.type "list", dict:=none,data:=.seq #[best,best] c,slots:=#[] } ->
  (∀ v h' t',P (argBest bt (n-1)) v->zI0 s0 h'->R (.ok (.ret v)) { s0 with heap:=h',toks:=t' }) ->
  codeAny (model prog w) A (.builtin "min.loop" ⟨[.ref J,.none,.ref S],[]⟩) R { s0 with heap:=h,toks:=t }:=by
 have sw:S∉wr:=λz=>sf (W.sub _ z);intro k;induction k with
 |zero=>
  intro j h t best c hk hj st pb ko hS q;have e:j+1=n:=by omega
  refine zYs F.entry_min_loop ?_;rw[zYi F.plain_min_loop _];refine zXn (zYd (s:={ s0 with heap:=h,toks:=t }) hS rfl ?_);refine zXn (wpAny_tryCatch (W.done { s0 with heap:=h,toks:=t } _ _ (e▸st) λh1 t1 k1=>?_));have hS1:=k1 S _ sw hS;refine zXn ?_;refine wpAny_updateSeq hS1 rfl (zXn (wpAny_letGo (zXp ?_)));exact q best _ t1 (by rw[<-e];exact pb) λb o eo=>(zYU _ _ (Ne.symm (new b o eo).2)).trans (k1 b o (new b o eo).1 (ko b o eo))
 |succ k ih=>
  intro j h t best c hk hj st pb ko hS q;have lt:j+1<n:=by omega
  refine zYs F.entry_min_loop ?_;rw[zYi F.plain_min_loop _];refine zXn (zYd (s:={ s0 with heap:=h,toks:=t }) hS rfl ?_);refine zXn (wpAny_tryCatch (W.item (j+1) { s0 with heap:=h,toks:=t } _ _ lt st λv h1 t1 pv st1 k1=>?_));have hS1:=k1 S _ sw hS;have ko1:zI0 s0 h1:=λb o eo=>k1 b o (new b o eo).1 (ko b o eo);show wpAny _ A.in1 (tryCatch (holding [v,v] (richCompare .Lt v best >>= _)) _ >>= _) _ _ { s0 with heap:=h1,toks:=t1 };refine zXn (wpAny_tryCatch (zYg (zXn (cmp (j+1) (argBest bt j) v best h1 t1 _ _ ko1 pv pb ?_))));refine zXn (zYg (zYz ?_));refine zXn (wpAny_letGo (zXp ?_));cases hb:bt (j+1) (argBest bt j) with
  |true=>
   simp only[if_true];refine zXn ?_;refine wpAny_updateSeq (s:={ s0 with heap:=h1,toks:=t1 }) hS1 rfl (zXn (wpAny_letGo ?_));rw[zFc];refine zXp ⟨plainId_quiet F.plain_min_loop _,ih (j+1) _ t1 v _ (by omega) lt (W.frame _ _ _ st1 λb hbf o e=>(zYU _ _ (λz:S=b=>sf (by rw[z];exact hbf))).trans e) (by simp only[argBest,hb,if_true];exact pv) (λb o eo=>(zYU _ _ (Ne.symm (new b o eo).2)).trans (ko1 b o eo)) (zYa _ hS1 rfl) q⟩
  |false=>
   simp only[zYo,if_false];refine zXn (wpAny_letGo ?_);rw[zFc];exact zXp ⟨plainId_quiet F.plain_min_loop _,ih (j+1) h1 t1 best c (by omega) lt st1 (by simp only[argBest,hb,zYo,if_false];exact pb) ko1 hS1 q⟩
end
section
variable {prog:Ym} {w:Yo} {A:Yn} {E:Yc} {s:Yl}
theorem zLe
  (h:wpAny (model prog w) A.in1 (pyIter x) (λit s2=>∃ J fp wr n P St bt h2,it=.ref J/\s2={ s with heap:=h2 }/\Walks prog w A.in1 J fp wr n P St/\St 0 h2/\zI0 s h2/\(∀ b o,s.heap.get? b=some o->b∉wr)/\(∀ b∈fp,b<h2.objs.size)/\0<n/\zUD prog w A.in1 s P bt /\
   ∀ v h' tk,P (argBest bt (n-1)) v->zI0 s h'->Q v { s with heap:=h',toks:=tk }) E s) :
  wpAny (model prog w) A (call (.builtin "min") [x]) Q E s:=by
 refine call_function_tree F.kind_min F.plain_min F.entry_min (F.args_min1 _) ?_;refine zXn (wpAny_of_eq (show Builtin.Builtins.bindParams "min" ["key", "default"] 0 ⟨[],[]⟩=pure [none,none]from rfl) ?_);refine zXn (zXp ?_);refine zXn (zYJ h (λit s2 g=>?_) λ_ _ e=>e);obtain ⟨J,fp,wr,n,P,St,bt,h2,rfl,rfl,W,st,ko,nw,hfp,n0,cmp,q⟩:=g;refine zXn (zYG ?_);have sf:h2.objs.size∉fp:=λhm=>zYV _ (hfp _ hm);have sw:h2.objs.size∉wr:=λz=>sf (W.sub _ z);rw[zFc];generalize hH:h2.push { cls:=.type "list", data:=.seq ([]:List Value).toArray }=H;have kH:∀ b u,h2.get? b=some u->H.get? b=some u:=λb u e=>by rw[<-hH];exact zXo _ e
 have hS:H.get? h2.objs.size=some { cls:=.type "list", data:=.seq ([]:List Value).toArray }:=by rw[<-hH];exact zXx _ rfl
 refine zXp ⟨plainId_quiet F.plain_min_loop _,?_⟩;refine zYs F.entry_min_loop ?_;rw[zYi F.plain_min_loop _];refine zXn (zYd (s:={ s with heap:=H }) hS rfl ?_);have st':St 0 H:=W.frame _ _ _ st λb _ o e=>kH b o e;refine zXn (wpAny_tryCatch (W.item 0 { s with heap:=H } _ _ n0 st' λv h1 t1 pv st1 k1=>?_));have hS1:=k1 _ _ sw hS;show wpAny _ A.in1 (updateSeq h2.objs.size (λ_=> #[v,v]) >>= _) _ _ { s with heap:=h1,toks:=t1 };refine zXn ?_;refine wpAny_updateSeq (s:={ s with heap:=h1,toks:=t1 }) hS1 rfl ?_;rw[zFc];have nS:∀ b o,s.heap.get? b=some o->b≠h2.objs.size:=λb o e=>zX8 (zXy (ko b o e));refine zXp ⟨plainId_quiet F.plain_min_loop _,zQ1 (s0:=s) W bt cmp h2.objs.size sf (λb o e=>⟨nw b o e,nS b o e⟩) _ 0 _ t1 v _ rfl n0 (W.frame _ _ _ st1 λb hbf o e=>(zYU _ _ (λz:h2.objs.size=b=>sf (by rw[z];exact hbf))).trans e) pv (λb o e=>(zYU _ _ (Ne.symm (nS b o e))).trans (k1 b o (nw b o e) (kH b o (ko b o e)))) (zYa _ hS1 rfl) q⟩
end
noncomputable abbrev NP:=Int × Int × Int
noncomputable def npD (t:NP):D:=.tup [.int t.1,.tup [.int t.2.1,.int t.2.2]]
noncomputable def zUT:D->Option NP
 |.tup [.int k,.tup [.int a,.int b]]=>some (k,a,b)
 |_=>none
theorem zSH (h:zUT d=some t):d=npD t:=by
 unfold zUT at h;split at h
 .cases h;rfl
 .cases h
noncomputable def zIz:List D->Option (List NP)
 |[]=>some []
 |d::r=>match zUT d,zIz r with
  |some t,some ts=>some (t::ts)
  |_,_=>none
theorem zL7:∀ {ds:List D} {ts:List NP},zIz ds=some ts->ds=ts.map npD
 |[],ts,h=>by cases h;rfl
 |d::r,ts,h=>by
  unfold zIz at h;split at h
  .rename_i t ts' e1 e2;cases h;rw[zX6,zSH e1,zL7 e2]
  .cases h
theorem zI8:∀ ts:List NP,zIz (ts.map npD)=some ts
 |[]=>rfl
 |t::r=>by rw[zX6,zIz,zI8 r];rfl
noncomputable def ltP (x y:NP):Bool:=decide (x.1<y.1\/(x.1=y.1/\(x.2.1<y.2.1\/(x.2.1=y.2.1/\x.2.2<y.2.2))))
section
variable {X:Cx} {zB:Yd} {σ:L2.St} {H:Hp} {s:Yl} {L:Yg}
theorem zNb (r:zR L H [x,y] vs):∃ v1 v2,vs=[v1,v2]/\Rep L H x v1/\Rep L H y v2:=r.two
theorem zKj (r:zb [v1,v2] its):∃ u1 u2,its=[u1,u2]/\zp v1 u1/\zp v2 u2:=by
 have hl:=r.length;obtain ⟨u1,e1,r1⟩:=r.get (i:=0) rfl;obtain ⟨u2,e2,r2⟩:=r.get (i:=1) rfl;match its,hl,e1,e2 with
 |[a,b],_,e1,e2=>cases e1;cases e2;exact ⟨_,_,rfl,r1,r2⟩
 |[],hl,_,_=>cases hl
 |[_],hl,_,_=>cases hl
 |_::_::_::_,hl,_,_=>simp at hl
theorem zOg (I:Inv X zB σ H s) (hu:A.units+1<cLine) (rx:Rep L H (.tup [.int a,.int b]) v) (ry:Rep L H (.tup [.int c,.int d]) w) (ru:zp v u) (ru':zp w u'):zFx A s u u' (decide (a<c\/(a=c/\b<d))):=by
 unfold Rep at rx ry;obtain ⟨p,vs,rfl,e,r⟩:=rx;obtain ⟨q,ws,rfl,e2,r2⟩:=ry;cases ru;cases ru';obtain ⟨v1,v2,rfl,t1,t2⟩:=zNb r;obtain ⟨w1,w2,rfl,t3,t4⟩:=zNb r2;unfold Rep at t1 t2 t3 t4;subst t1;subst t2;subst t3;subst t4;obtain ⟨its,rv,p1,_⟩:=I.tuple (.of e);obtain ⟨its2,rv2,p2,_⟩:=I.tuple (.of e2);obtain ⟨u1,u2,rfl,⟨k1,rfl⟩,⟨k2,rfl⟩⟩:=zKj rv;obtain ⟨u3,u4,rfl,⟨k3,rfl⟩,⟨k4,rfl⟩⟩:=zKj rv2;have key:=zFx.tuples (A:=A) (s:=s) (e:=λj=>if j=0 then a==c else b==d) (l:=λj=>if j=0 then decide (a<c) else decide (b<d)) p1 p2 (by omega) (λj h1 h2=>by
  match j,h1,h2 with
  |0,_,_=>exact EqAt.int_int a k1 c k3
  |1,_,_=>exact EqAt.int_int b k2 d k4
  |j+2,h1,_=>simp at h1;omega) (λj h1 h2 _=>by
  match j,h1,h2 with
  |0,_,_=>exact zFx.ints a k1 c k3
  |1,_,_=>exact zFx.ints b k2 d k4
  |j+2,h1,_=>simp at h1;omega)
 have ev:zEQ (λj=>if j=0 then a==c else b==d) (λj=>if j=0 then decide (a<c) else decide (b<d)) (decide (2<2)) (min 2 2) 0=decide (a<c\/(a=c/\b<d)):=by
  show (if (a==c)=true then (if (b==d)=true then false else decide (b<d)) else decide (a<c))=_;by_cases h1:a=c
  .subst h1;rw[zX2 (by simp)];by_cases h2:b=d
   .subst h2;rw[zX2 (by simp)];simp
   .rw[zX5 (by simpa using h2)];simp
  .rw[zX5 (by simpa using h1)];exact decide_eq_decide.mpr ⟨.inl,λh=>h.elim id λz=>absurd z.1 h1⟩
 rw[<-ev];exact key
theorem zSA (I:Inv X zB σ H s) (hu:A.units+2<cLine) (rx:Rep L H (npD x) v) (ry:Rep L H (npD y) w) (ru:zp v u) (ru':zp w u'):zFx A s u u' (ltP x y):=by
 obtain ⟨k,a,b⟩:=x;obtain ⟨k',c,d⟩:=y;unfold npD Rep at rx ry;obtain ⟨p,vs,rfl,e,r⟩:=rx;obtain ⟨q,ws,rfl,e2,r2⟩:=ry;cases ru;cases ru';obtain ⟨v1,v2,rfl,t1,t2⟩:=zNb r;obtain ⟨w1,w2,rfl,t3,t4⟩:=zNb r2;unfold Rep at t1 t3;subst t1;subst t3;obtain ⟨its,rv,p1,_⟩:=I.tuple (.of e);obtain ⟨its2,rv2,p2,_⟩:=I.tuple (.of e2);obtain ⟨u1,u2,rfl,⟨k1,rfl⟩,z2⟩:=zKj rv;obtain ⟨u3,u4,rfl,⟨k3,rfl⟩,z4⟩:=zKj rv2;have hu1:A.in1.units+1<cLine:=by show A.units+1+1<cLine;omega
 have he:=zO5 I 1 A.in1 (.tup [.int a,.int b]) (.tup [.int c,.int d]) v2 w2 u2 u4 hu1 rfl rfl t2 t4 z2 z4;have hl:=zOg I hu1 t2 t4 z2 z4;have key:=zFx.tuples (A:=A) (s:=s) (e:=λj=>if j=0 then k==k' else zEo 1 (.tup [.int a,.int b]) (.tup [.int c,.int d])) (l:=λj=>if j=0 then decide (k<k') else decide (a<c\/(a=c/\b<d))) p1 p2 (by omega) (λj h1 h2=>by
  match j,h1,h2 with
  |0,_,_=>exact EqAt.int_int k k1 k' k3
  |1,_,_=>exact he
  |j+2,h1,_=>simp at h1;omega) (λj h1 h2 _=>by
  match j,h1,h2 with
  |0,_,_=>exact zFx.ints k k1 k' k3
  |1,_,_=>exact hl
  |j+2,h1,_=>simp at h1;omega)
 have ev:zEQ (λj=>if j=0 then k==k' else zEo 1 (.tup [.int a,.int b]) (.tup [.int c,.int d])) (λj=>if j=0 then decide (k<k') else decide (a<c\/(a=c/\b<d))) (decide (2<2)) (min 2 2) 0=ltP (k,a,b) (k',c,d):=by
  show (if (k==k')=true then (if zEo 1 (.tup [.int a,.int b]) (.tup [.int c,.int d])=true then false else decide (a<c\/(a=c/\b<d))) else decide (k<k'))=_;unfold ltP;have he2:zEo 1 (.tup [.int a,.int b]) (.tup [.int c,.int d])=decide (a=c/\b=d):=by
   simp[zEo]
  rw[he2];by_cases h1:k=k'
  .subst h1;rw[zX2 (by simp)];by_cases h2:a=c/\b=d
   .obtain ⟨rfl,rfl⟩:=h2;simp
   .rw[zX5 (by simpa using h2)];exact decide_eq_decide.mpr (by dsimp only;constructor <;> intro h <;> omega)
  .rw[zX5 (by simpa using h1)];exact decide_eq_decide.mpr (by dsimp only;constructor <;> intro h <;> omega)
 rw[<-ev];exact key
end
noncomputable def zBv:NP->List NP->NP
 |m,[]=>m
 |m,x::r=>zBv (if ltP x m then x else m) r
theorem zRu (ts:List NP) (d:NP):∀ k,k<ts.length->ts.getD (argBest (λi j=>ltP (ts.getD i d) (ts.getD j d)) k) d=zBv (ts.getD 0 d) ((ts.drop 1).take k)/\argBest (λi j=>ltP (ts.getD i d) (ts.getD j d)) k<=k:=by
 intro k;have snoc:∀ (r:List NP) (m x:NP),zBv m (r++[x])=if ltP x (zBv m r) then x else zBv m r:=by
  intro r;induction r with
  |nil=>intro m x;rfl
  |cons y r ih=>intro m x;show zBv (if ltP y m then y else m) (r++[x])=_;rw[ih];rfl
 induction k with
 |zero=>intro _;exact ⟨by simp[argBest,zBv],zXt _⟩
 |succ k ih=>
  intro hk;obtain ⟨h1,h2⟩:=ih (by omega);have ht:(ts.drop 1).take (k+1)=(ts.drop 1).take k++[ts.getD (k+1) d]:=by
   have hlt:k<(ts.drop 1).length:=by rw[List.length_drop];omega
   rw[List.take_succ_eq_append_getElem hlt,List.getElem_drop,zXs,zXr (by omega)];simp[Nat.add_comm]
  have ha:argBest (λi j=>ltP (ts.getD i d) (ts.getD j d)) (k+1)=if ltP (ts.getD (k+1) d) (ts.getD (argBest (λi j=>ltP (ts.getD i d) (ts.getD j d)) k) d) then k+1 else argBest (λi j=>ltP (ts.getD i d) (ts.getD j d)) k:=rfl
  rw[ht,snoc,<-h1,ha];by_cases hb:ltP (ts.getD (k+1) d) (ts.getD (argBest (λi j=>ltP (ts.getD i d) (ts.getD j d)) k) d)=true
  .rw[zX2 hb,zX2 hb];exact ⟨rfl,zXt _⟩
  .rw[zX5 hb,zX5 hb];exact ⟨rfl,by omega⟩
section
variable {X:Cx} {e:Expr} {pos p:Pos}
theorem zPZ (hc:X.calm=true) (hu:X.A.units+1+3<cLine):zCP X (.builtin "min") (λxs H Q=>∃ (b:Bool) (a:Addr) (L:List Addr) (vs:List V) (ts:List NP),xs=[.ref a]/\SqG X.K b H a vs/\zR L H (ts.map npD) vs/\0<ts.length /\ ∀ (i:Nat) v,vs[i]?=some v->ts[i]?=some (zBv (ts.getD 0 (0,0,0)) (ts.drop 1))->Q v H):=by
 intro zB s σ H xs us Q I r h;obtain ⟨b,a,L,vs,ts,rfl,hs,hr,n0,q⟩:=h;obtain ⟨u,rfl,ru⟩:=zEq r;cases ru;obtain ⟨its,rv,p1⟩:=zQb I hs;have hvl:vs.length=ts.length:=by have:=hr.length;simpa using this
 have hl:its.toArray.size=ts.length:=by have:=rv.length;simp at this ⊢;omega
 have hlt:=zWd p1;have hfp:∀ c∈[s.heap.objs.size,a],c<(s.heap.push (itO b a)).objs.size:=λc hc'=>by
  rw[zYT];simp only[zXz,zYI,zY8]at hc';rcases hc' with rfl|rfl
  .exact zYk _
  .exact zYc hlt
 have st:SI b (s.heap.push (itO b a)) s.heap.objs.size a 0/\SO b (s.heap.push (itO b a)) a its.toArray:=⟨zT9 (zXx _ rfl),p1.keep λo e=>zXo _ e⟩;have item:∀ (i:Nat) (x:Yu),its.toArray[i]?=some x -> ∃ t v,ts[i]?=some t/\vs[i]?=some v/\Rep L H (npD t) v/\zp v x:=λi x hx=>by
  have hx':its[i]?=some x:=by simpa using hx
  have hi:i<ts.length:=by have:=(Array.getElem?_eq_some_iff.mp hx).1;omega
  obtain ⟨v,hv,rt⟩:=hr.get (i:=i) (by rw[zYA,zXr hi];rfl);obtain ⟨y,hy,ry⟩:=rv.get hv;rw[hx']at hy;cases hy;exact ⟨ts[i],v,zXr hi,hv,rt,ry⟩
 have hub:X.A.in1.units+2<cLine:=by show X.A.units+1+2<cLine;omega
 refine zLe (zQR p1 ⟨s.heap.objs.size,[s.heap.objs.size,a],[s.heap.objs.size],its.toArray.size,λi v=>its.toArray[i]?=some v,λi h=>SI b h s.heap.objs.size a i/\SO b h a its.toArray,λi j=>ltP (ts.getD i (0,0,0)) (ts.getD j (0,0,0)),_,rfl,rfl,zMF (A:=X.A.in1) (I.ok.hd hc) b _ a (zX8 hlt) its.toArray,st,λc o e=>zXo _ e,λc o e z=>absurd (zXy e) (by rw[zYF.mp z];exact zYV _),hfp,by omega,?_,λv h' tk hP hk=>?_⟩)
 .intro i j x y h t Q' E' ko hx hy q';obtain ⟨t1,v1,ht1,_,r1,w1⟩:=item i x hx;obtain ⟨t2,v2,ht2,_,r2,w2⟩:=item j y hy;have:=zSA (I.kept (t':=t) ko) hub r1 r2 w1 w2 X.prog X.w E' Q';refine this ?_;dsimp only at q';rw[zXs,zXs,ht1,ht2]at q';exact q'
 .obtain ⟨t,v',ht,hv,rt,rx⟩:=item _ v hP;obtain ⟨h1,h2⟩:=zRu ts (0,0,0) (its.toArray.size-1) (by omega);refine ⟨v',H,I.kept hk,rx,q _ v' hv ?_⟩;rw[ht];rw[zXs,ht]at h1;rw[List.take_of_length_le (by rw[List.length_drop];omega)]at h1;rw[<-h1];rfl
noncomputable def zI9:KB:=λxs M=>match xs with
 |[x]=>match zAJ M x with
  |some ds=>match zIz ds with
   |some (t::ts)=>some (.dat (npD (zBv t ts)),M)
   |_=>none
  |none=>none
 |_=>none
theorem zI1:∀ (r:List NP) (m:NP),zBv m r∈m::r
 |[],m=>by simp[zBv]
 |x::r,m=>by
  unfold zBv;have:=zI1 r (if ltP x m then x else m);rcases zXz.mp this with h|h
  .rw[h];split <;> simp
  .simp[h]
theorem zPk {K:Yb} {L:Yg} {M:Mem} {H H0:Hp} {x:EV} {v:V} {xs:List D} (c:Cor K L M H) (r:za H0 L H x v) (h:zAJ M x=some xs):∃ b a vs,v=.ref a/\SqG K b H a vs/\zR L H xs vs:=by
 unfold zAJ at h;cases t:zBz x with
 |some zs=>
  rw[t]at h;cases h;obtain ⟨a,ws,rfl,e2,r2⟩:=zBk r t;exact ⟨true,a,ws,rfl,.of e2,r2⟩
 |none=>
  rw[t]at h;obtain ⟨a,ws,rfl,e2,r2⟩:=zA6 c r h;exact ⟨false,a,ws,rfl,.inl e2,r2⟩
theorem zQv {K:Yb}:zIA K (λxs H Q=>∃ (b:Bool) (a:Yt) (L:Yg) (vs:List V) (ts:List NP),xs=[.ref a]/\SqG K b H a vs/\zR L H (ts.map npD) vs/\0<ts.length /\ ∀ (i:Nat) v,vs[i]?=some v->ts[i]?=some (zBv (ts.getD 0 (0,0,0)) (ts.drop 1))->Q v H) zI9:=by
 intro L M M' H H0 xs d vs Q c r hk q;unfold zI9 at hk;split at hk
 .rename_i x;split at hk
  .rename_i ds e1;split at hk
   .rename_i t ts e2;cases hk;obtain ⟨v,rfl,r1⟩:=r.one;obtain ⟨b,a,ws,rfl,hq,rr⟩:=zPk c r1 e1;have ed:=zL7 e2;subst ed;refine ⟨b,a,L,ws,t::ts,rfl,hq,rr,by simp,λi v hv ht=>?_⟩;refine q L H _ (.refl L H) c ?_;obtain ⟨v',hv',rt⟩:=rr.get (show ((t::ts).map npD)[i]?=some (npD (zBv t ts)) by rw[zYA,ht];rfl);rw[hv]at hv';cases hv';exact rt
   .cases hk
  .cases hk
 .cases hk
theorem zUj (hcalm:X.calm=true) (hu:X.A.units+1+3<cLine) (hg:Gl X "min") (hm:X.mg "min" = none) (ha:QAE X [e] fa) (he:starEach [e] X.env=(false,eval e X.env)::starEach [] X.env:=by rfl) (hpl:(backTo pos (starEach [] X.env)).any (·.1)=false:=by rfl):QE X (.Call (.Name "min" p) [e] [] pos) (fB zI9 fa) :=
 zDn zQv (zPZ hcalm hu) (by rfl) hg hm ha (by decide) (by decide) he hpl
end
structure Df (K:Yb) (mg:Yh) (x:Str) (st:Stmt) (ps:Yk) where
 f:Addr
 fd:FuncData
 F:Fun K x x st f fd
 b:zHl K fd ps []
 m:mg x=some (.ref f)
structure Dg (K:Yb) (x:Str) (st:Stmt) where
 f:Addr
 {od an:Option Addr}
 {sl:Array (Option Value)}
 {oc kV dc pm cd ct:Yu}
 a:PySem.W.nsIn K mainGlobals x=some (some (.ref f))
 l:K.lookup f=some ⟨oc,od,.func (PySem.W.fnOf x x (zEW st) (zCy st) (zQ st) .none kV dc pm an cd ct),sl⟩
 c:PySem.W.codeIn K cd x=true
 k:PySem.W.keepIn K (.ref f)=true
noncomputable abbrev Dg.df {K:Yb} {x:Str} {st:Stmt} {ps:Yk} {h:Heap} {mg:Yh} (g:Dg K x st) (X:K.In h) (G:h.Ns mainGlobals mg)
  (hb:∀ (kV doc pm:Yu) (an:Option Addr) (cdv ct:Yu) (us:Yf),us.length=ps.length->bindArgs (PySem.W.fnOf x x (zEW st) (zCy st) (zQ st) .none kV doc pm an cdv ct) ⟨us,[]⟩=pure (ps.zip us)):Df K mg x st ps :=
 ⟨g.f,_,zQx g.l g.c g.k,(zQx g.l g.c g.k).binds hb,PySem.W.mg_of X G g.a⟩
abbrev Od (P:Ym) (w:Yo) (base:Heap) (k:Nat) {K:Yb} {mg:Yh} {x:Str} {st:Stmt} {ps:Yk} (d:Df K mg x st ps) (m:FF):Prop:=FnOk P w K mg base CX0 k d.f d.fd ps (spF K ps.length m)
abbrev Zn (K:Yb) (x:Str):Prop:=PySem.W.nsIn K mainGlobals x=some none
abbrev Ki (K:Yb) (t T:String) (b:Bool):Prop:=PySem.W.kitOne K (.type t) (.type T)=some b
theorem zF0 {P:List Value->Prop} (h:∀ a,P [a]):∀ us:List Value,us.length=1->P us
 |[a],_=>h a
theorem zIP {P:List Value->Prop} (h:∀ a b,P [a,b]):∀ us:List Value,us.length=2->P us
 |[a,b],_=>h a b
theorem zII {P:List Value->Prop} (h:∀ a b c,P [a,b,c]):∀ us:List Value,us.length=3->P us
 |[a,b,c],_=>h a b c
section
variable {X:Cx} {e:Expr} {es:Yi} {pos p:Pos} {x:Str} {k:Nat} {st:Stmt} {ps:Yk}
theorem zW2 {d:Df X.K X.mg x st ps} (F:FnOk X.prog X.w X.K X.mg X.base CX0 k d.f d.fd ps (spF X.K (e::es).length g)) (hr:Room k X.A) (hg:Gl X x)
  (ha:QA X (e::es) fa) (hl:∀ σ M ds M1,fa σ M=some (ds,M1)->ds.length=(e::es).length) (hdb:(x==("__debug__" : Str))=false) (he:starEach (e::es) X.env=(false,eval e X.env)::starEach es X.env) (hpl:(backTo pos (starEach es X.env)).any (·.1)=false) :
  QE X (.Call (.Name x p) (e::es) [] pos) (zP g fa):=zU2 F hr hg d.m d.F.kp d.b ha hl hdb he hpl
theorem zXO (hN:X.N.Nodup) (hi:X.N[i]?=some x) (h:QE X e f) (hx:Loc X.env.scope x:=by first|exact Or.inl rfl|exact Or.inr rfl) (hs:swapsWith e (some (.Name x pos')) pos.line X.env=pure false:=by rfl)
  (hf:X.fn x=true\/X.env.scope.names.lookup x=some .local:=by first|exact .inl rfl|exact .inr rfl|assumption):QS X (.Assign [.Name x pos'] e pos) (zj i f):=zWX hN hi hx h hs hf
theorem zQo (hN:X.N.Nodup) (hi:X.N[i]?=some x) (hx:Loc X.env.scope x:=by first|exact Or.inl rfl|exact Or.inr rfl) (hf:X.fn x=true\/X.env.scope.names.lookup x=some .local:=by first|exact .inl rfl|exact .inr rfl|assumption):PG X (.Name x pos) (zCs i):=zKr hN hi hx hf
end
end L3
namespace ST
open PySem PySem.Spec PyProof.Rows
end ST
namespace L3
open PySem PySem.Spec PyProof.Rows L2 ST
end L3
namespace ST
open PySem PySem.Spec PyProof.Rows
end ST
namespace L3
open PySem PySem.Spec PyProof.Rows L2 ST
end L3
namespace L2
open PySem PySem.Spec PyProof.Rows
end L2
namespace L3
open PySem PySem.Spec PyProof.Rows L2
end L3
namespace L2
open PySem PySem.Spec PyProof.Rows ST
section
variable {X:Cx} {e:Expr} {p pos:Pos}
theorem zTD (hg:Gl X "len") (hm:X.mg "len" = none) (ha:PZ X e t) (hs:starEach [e] X.env=(false,eval e X.env)::starEach [] X.env:=by rfl) (hpl:(backTo pos (starEach [] X.env)).any (·.1)=false:=by rfl) :
  PE X (.Call (.Name "len" p) [e] [] pos) (λσ H Q=>t σ H λks H1=>Q (.int ks.length) H1):=by
 intro zB s σ H Q I h;refine wpAny_Call_Name_kw (zDV I hg hm (by rfl) ?_ (by decide) (by decide));refine callWith_builtin1 ?_ hs hpl;rw[hs];refine Calls.spliced_cons (thn (ha zB s σ H _ I h) λu s1 ⟨a,o,es,ep,tb,ks,H1,hv,ho,hS,I1,q⟩=>Calls.spliced_nil ?_);subst hv;have hb:=hS.bound;have hsb:scanBound<2 ^ 62:=by decide
 have hn:es.size=ks.length:=by
  obtain ⟨ks',p,f⟩:=hS.ent;have:=zBt f;rw[<-p.length_eq,<-this,zYW]
 refine call_len_set ho hS.ex hS.data hS.fits (by omega) ⟨.int ks.length,H1,I1.tok _,?_,q⟩;exact ⟨_,by rw[hn]⟩
end
end L2
namespace L3
open PySem PySem.Spec PyProof.Rows L2 ST
section
variable {X:Cx} {e:Expr} {p pos:Pos}
noncomputable def zJP (f:FZ):FE:=λσ M=>match f σ M with
 |some (ks,M1)=>some (.dat (.int ks.length),M1)
 |none=>none
theorem zVE (hg:Gl X "len") (hm:X.mg "len" = none) (h:QZ X e fz) (hs:starEach [e] X.env=(false,eval e X.env)::starEach [] X.env:=by rfl) (hpl:(backTo pos (starEach [] X.env)).any (·.1)=false:=by rfl) :
  QE X (.Call (.Name "len" p) [e] [] pos) (zJP fz):=.mk <| PE.imp (zTD hg hm h.un hs hpl) λτ H Q zz=>by
 obtain ⟨L,σ,M,d,M',c,rs,hf,q⟩:=zz;unfold zJP at hf;split at hf
 .rename_i ks M1 e1;cases hf;exact ⟨L,σ,M,_,_,c,rs,e1,λL1 H1 s1 c1=>q L1 H1 _ s1 c1 (zAb (L:=L1) (H:=H1))⟩
 .cases hf
end
end L3
namespace Law
open PySem PySem.Spec PyProof.Rows L2 L3
theorem zm (n:Nat):∀ c:List Int,D.unds n (c.map D.int)=true
 |[]=>rfl
 |x::r=>by
  show (D.und n (D.int x)&&D.unds n (r.map D.int))=true;rw[zm n r];rfl
theorem zLJ {M:Mem} (h:M[k]?=some u):M.set k u=M:=by
 apply List.ext_getElem?;intro i;rw[zZM];split
 .rename_i e;subst e;rw[zX2 (zXq.mp h).1];exact h.symm
 .rfl
theorem at0 {x:D} {xs:List D}:atI (x::xs) 0=some x:=zRE (k:=0) rfl
theorem zRU (ns:Ye) (lo hi:Ys):∃ c:List Int,L3.zDi (ns.map D.int) lo hi=c.map D.int/\c.length<=ns.length:=by
 refine ⟨(ns.drop (HT.sIx ns.length 0 lo)).take (HT.sIx ns.length ns.length hi-HT.sIx ns.length 0 lo),?_,?_⟩
 .unfold L3.zDi;rw[zXw,List.map_take,List.map_drop]
 .rw[zZB,List.length_drop];omega
theorem zAY (h:x::r=c.map D.int):∃ y c',c=y::c'/\x=.int y/\r=c'.map D.int:=by
 cases c with
 |nil=>cases h
 |cons y c'=>rw[zX6]at h;exact ⟨y,c',rfl,(zYr h).1,(zYr h).2⟩
theorem zAI:zAr none xs M:=trivial
theorem zX (h:n<=100000):n<=sizeLine:=zYE h (by decide)
mutual
theorem zHA (h:a<=b):∀ {d:D},D.und a d=true->D.und b d=true
 |.non,_=>by unfold D.und;rfl
 |.bl _,_=>by unfold D.und;rfl
 |.int _,_=>by unfold D.und;rfl
 |.str _,_=>by unfold D.und;rfl
 |.tup ds,e=>by unfold D.und at e ⊢;exact zCe h e
 |.ref k,e=>by unfold D.und at e ⊢;simp at e ⊢;omega
theorem zCe (h:a<=b):∀ {ds:List D},D.unds a ds=true->D.unds b ds=true
 |[],_=>by unfold D.unds;rfl
 |d::ds,e=>by
  unfold D.unds at e ⊢;rw[zYN]at e ⊢;exact ⟨zHA h e.1,zCe h e.2⟩
end
theorem zOW (h:a<=b) (e:MO.und a u=true):MO.und b u=true:=by
 cases u with
 |lst xs=>exact zCe h e
 |fro xs=>exact zCe h e
 |set xs=>exact zCe h e
 |dict kvs|dicT kvs|froT kvs|froK kvs=>
  unfold MO.und at e ⊢;rw[zYO]at e ⊢;intro p hp;have:=e p hp;rw[zYN]at this ⊢;exact ⟨zHA h this.1,zHA h this.2⟩
theorem zFK:∀ {xs ys:List D},D.unds n (xs++ys)=(D.unds n xs&&D.unds n ys)
 |[],ys=>by simp[D.unds]
 |x::xs,ys=>by
  show (D.und n x&&D.unds n (xs++ys))=((D.und n x&&D.unds n xs)&&D.unds n ys);rw[zFK,Bool.and_assoc]
theorem zEC:∀ {xs:List D},(∀ x∈xs,D.und n x=true)->D.unds n xs=true
 |[],_=>rfl
 |x::xs,h=>by
  show (D.und n x&&D.unds n xs)=true;rw[h x zX1,zEC λy hy=>h y (zX0 _ hy)];rfl
theorem zAC (c:Ye):D.und n (.tup (c.map D.int))=true:=by unfold D.und;exact zm n c
noncomputable def zCN (i:Nat):Nat->List D
 |0=>[]
 |n+1=> .int i::zCN (i+1) n
theorem zJu (n:Nat):∀ i,((List.range' i n).map λ(k:Nat)=>D.int k)=zCN i n:=by
 induction n with
 |zero=>intro i;rfl
 |succ n ih=>intro i;rw[List.range'_succ,zX6,ih];rfl
theorem zHT (n:Nat):((List.range n).map λ(k:Nat)=>D.int k)=zCN 0 n:=by rw[List.range_eq_range',zJu]
theorem zDF:∀ (n i:Nat),(zCN i n).length=n
 |0,_=>rfl
 |n+1,i=>by show (zCN (i+1) n).length+1=_;rw[zDF n]
theorem zMD (n:Nat) (I:Nat->Sd->Mem->Prop)
  (hs:∀ i σ M,i<n->I i σ M -> ∃ σ1,g (.int i) σ=some σ1/\OkS (b σ1 M) λo σ2 M2=>match o with|.nx=>I (i+1) σ2 M2|.cnt=>I (i+1) σ2 M2|.brk=>P .nx σ2 M2|.ret d=>P (.ret d) σ2 M2)
  (he:∀ σ M,I n σ M->P .nx σ M) (σ:Sd) (M:Mem) (h0:I 0 σ M):OkS (zC6 g b all none (zCN 0 n) σ M) P:=by
 refine zAp (I:=λr σ M=>∃ i,i<=n/\r=zCN i (n-i)/\I i σ M) ?_ ?_ _ _ _ ⟨0,zYZ _,by simp,h0⟩
 .rintro x r σ M ⟨i,hi,e,hI⟩;have hlt:i<n:=by
   rcases zY9 i n with z|z
   .exact z
   .rw[show n-i=0 by omega]at e;cases e
  rw[show n-i=(n-(i+1))+1 by omega]at e;obtain ⟨rfl,rfl⟩:=zYr e;obtain ⟨σ1,e1,q⟩:=hs i σ M hlt hI;refine ⟨zAI,σ1,e1,OkS.mono q ?_⟩;intro o σ2 M2 z;cases o with
  |nx=>exact ⟨i+1,hlt,rfl,z⟩
  |cnt=>exact ⟨i+1,hlt,rfl,z⟩
  |brk=>exact z
  |ret d=>exact z
 .rintro σ M ⟨i,hi,e,hI⟩;have:i=n:=by
   rcases zY9 i n with z|z
   .rw[show n-i=(n-(i+1))+1 by omega]at e;cases e
   .omega
  subst this;exact ⟨zAI,he σ M hI⟩
theorem zUW (n:Nat) (I:Nat->List D->Mem->Prop)
  (hs:∀ i acc M,i<n->I i acc M -> ∃ σ1,g (.int i) σ=some σ1/\Ok (te σ1 M) (zGa λd M2=>I (i+1) (acc++[d]) M2)) (h0:I 0 [] M) :
  Ok (zAx g zq te σ all none (zCN 0 n) M) λys M1=>I n ys M1:=by
 refine Ok.mono (zBu (I:=λr acc M=>∃ i,i<=n/\r=zCN i (n-i)/\I i acc M) (Q:=λacc M=>I n acc M) ?_ ?_ _ [] _ ⟨0,zYZ _,by simp,h0⟩) λys M1 q=>by simpa using q
 .rintro x r acc M ⟨i,hi,e,hI⟩;have hlt:i<n:=by
   rcases zY9 i n with z|z
   .exact z
   .rw[show n-i=0 by omega]at e;cases e
  rw[show n-i=(n-(i+1))+1 by omega]at e;obtain ⟨rfl,rfl⟩:=zYr e;obtain ⟨σ1,e1,q⟩:=hs i acc M hlt hI;refine ⟨zAI,σ1,e1,zFL.mpr ?_⟩;rw[zX2 rfl];refine Ok.mono q ?_;intro x M2 z;cases x with
  |dat d=>exact ⟨i+1,hlt,rfl,z⟩
  |fl xs=>exact ⟨i+1,hlt,rfl,z⟩
 .rintro acc M ⟨i,hi,e,hI⟩;have:i=n:=by
   rcases zY9 i n with z|z
   .rw[show n-i=(n-(i+1))+1 by omega]at e;cases e
   .omega
  subst this;exact ⟨zAI,hI⟩
theorem zCk (e:f σ M=some (.dat (.int j),M)) (h1:0<=j) (h2:j<2 ^ 62):zAc (zD (toD f) zI) σ M=some (zCN 0 j.toNat,none,M):=by
 have e':(zD (toD f) zI) σ M=some ([.int j],M):=by unfold zD toD zI;rw[e]
 rw[zNV e' h1 h2,zHT]
noncomputable def mD (zA:Ya):D:=.tup (zA.map λr=> .tup (r.map D.int))
structure IsM (zA:Ya) (l:Nat):Prop where
 r0:0<zA.length
 l0:0<l
 row:∀ r∈zA,r.length=l /\ ∀ g∈r,0<=g/\g<zA.length
theorem zCK (zA:Ya):D.und n (mD zA)=true:=by
 unfold mD D.und;refine zEC λx hx=>?_;obtain ⟨r,_,rfl⟩:=zX4.mp hx;exact zAC r
theorem zRR (zA:Ya):D.unds n (zA.map λr=>D.tup (r.map D.int))=true:=by
 refine zEC λx hx=>?_;obtain ⟨r,_,rfl⟩:=zX4.mp hx;exact zAC r
theorem zT {α:Type} {x:Option (α × Mem)} {a:α} {M:Mem} (h:Ok x λb M'=>b=a/\M'=M):x=some (a,M):=by
 obtain ⟨b,M',e,rfl,rfl⟩:=h;exact e
theorem zE {α:Type} {x:Option (α × Mem)} {a:α} {M:Mem} {P:α->Mem->Prop} (h:x=some (a,M)) (p:P a M):Ok x P:=⟨a,M,h,p⟩
theorem zFQ {c:FT} {a g:FS} {σ:Sd} {M:Mem} {P:Out->Sd->Mem->Prop} (hc:c σ M=some (false,M)) (h:OkS (g σ M) P):OkS (zW (sIf c a zBX) g σ M) P:=by
 rw[zH,zAu];refine zE hc ?_;rw[zX5 (by decide),zAf];exact h
theorem zR8 {c:FT} {a:FS} {σ:Sd} {M:Mem} {P:Out->Sd->Mem->Prop} (hc:c σ M=some (false,M)) (h:P .nx σ M):OkS (sIf c a zBX σ M) P:=by
 rw[zAu];refine zE hc ?_;rw[zX5 (by decide),zAf];exact h
theorem zY {f:FE} {σ:Sd} {M:Mem} {d:D} (h:f σ M=some (.dat d,M)):zD (toD f) zI σ M=some ([d],M):=by
 unfold zD toD zI;rw[h]
theorem zg {f:FE} {g:FA} {σ:Sd} {M:Mem} {d:D} {ds:List D} (h:f σ M=some (.dat d,M)) (hg:g σ M=some (ds,M)):zD (toD f) g σ M=some (d::ds,M):=by
 unfold zD toD;rw[h];dsimp only;rw[hg]
theorem zh {m:FF} {a:FA} {σ:Sd} {M M':Mem} {ds:List D} {d:D} (h:a σ M=some (ds,M)) (hm:m ds M=some (d,M')):zP m a σ M=some (.dat d,M'):=by
 unfold zP;rw[h];dsimp only;rw[hm]
theorem zL {k:K2} {f g:FE} {σ:Sd} {M:Mem} {x y:EV} {r:Option (EV × Mem)} (hf:f σ M=some (x,M)) (hg:g σ M=some (y,M)) (hk:k x y M=r):fOp k f g σ M=r:=by
 unfold fOp;rw[hf];dsimp only;rw[hg];exact hk
theorem zVx {xs ys:List D} {M:Mem} (h:xs.length+ys.length<=sizeLine):zAX (.dat (.tup xs)) (.dat (.tup ys)) M=some (.dat (.tup (xs++ys)),M):=zT (zWr.mpr ⟨h,rfl,rfl⟩)
theorem zBN {x:EV} {xs:List D} {i:Int} {d:D} {M:Mem} (h:zAJ M x=some xs) (hd:atI xs i=some d):kIx x (.dat (.int i)) M=some (.dat d,M):=zT (zSO h hd ⟨rfl,rfl⟩)
theorem zCi {f:FE} {x:EV} {xs:List D} {σ:Sd} {M:Mem} (hf:f σ M=some (x,M)) (h:zAJ M x=some xs):fB zAv (zU f zk) σ M=some (.dat (.int xs.length),M):=by
 unfold fB zU zk;rw[hf];exact zT ((zWm h).mpr ⟨rfl,rfl⟩)
noncomputable def zBQ (zA:Ya) (h g:Int):Int:=(zA.getD h.toNat []).getD g.toNat 0
noncomputable def zAg (zA:Ya) (room:Int) (word:Ye):Int:=word.foldl (zBQ zA) room
theorem zNU {zA:Ya} {h:Int} (h0:0<=h) (h1:h<zA.length):atI (zA.map λr=>D.tup (r.map D.int)) h=some (.tup ((zA.getD h.toNat []).map D.int)):=by
 refine zNF h0 ?_;rw[zYA,zXs,zXr (by omega)];rfl
theorem zC9 {r:Ye} {g:Int} (h0:0<=g) (h1:g<r.length):atI (r.map D.int) g=some (.int (r.getD g.toNat 0)):=by
 refine zNF h0 ?_;rw[zYA,zXs,zXr (by omega)];rfl
theorem IsM.get {zA:Ya} {l:Nat} (m:IsM zA l) {h:Int} (h0:0<=h) (h1:h<zA.length):(zA.getD h.toNat []).length=l /\ ∀ g∈zA.getD h.toNat [],0<=g/\g<zA.length:=by
 refine m.row _ ?_;rw[zXs,zXr (by omega)];exact zYL _
theorem IsM.step {zA:Ya} {l:Nat} (m:IsM zA l) {h g:Int} (h0:0<=h) (h1:h<zA.length) (g0:0<=g) (g1:g<l):0<=zBQ zA h g/\zBQ zA h g<zA.length:=by
 obtain ⟨q1,q2⟩:=m.get h0 h1;refine q2 _ ?_;unfold zBQ;rw[zXs (l:=zA.getD h.toNat []),zXr (by omega)];exact zYL _
theorem IsM.ix {zA:Ya} {l:Nat} (m:IsM zA l) {h g:Int} (h0:0<=h) (h1:h<zA.length) (g0:0<=g) (g1:g<l) {f1 f2 f3:FE} {σ:Sd} {M:Mem} (e1:f1 σ M=some (.dat (mD zA),M)) (e2:f2 σ M=some (.dat (.int h),M)) (e3:f3 σ M=some (.dat (.int g),M)) :
  fOp kIx (fOp kIx f1 f2) f3 σ M=some (.dat (.int (zBQ zA h g)),M):=by
 obtain ⟨q1,_⟩:=m.get h0 h1;exact zL (zL e1 e2 (zBN zu (zNU h0 h1))) e3 (zBN zu (zC9 g0 (by omega)))
theorem zMT (hf:f σ M=some (x,M)) (ht:zMG M x=some t):zFv T f σ M=some (.dat (.bl (isT t T)),M):=by
 unfold zFv;rw[hf];dsimp only;rw[ht]
theorem zv (h:f σ M=some (.dat (.bl k),M')):tst f σ M=some (k,M'):=by unfold tst;rw[h]
theorem isV (hf:f σ M=some (x,M)) (ht:zMG M x=some t) (h:isT t T=k):zFv T f σ M=some (.dat (.bl k),M):=by
 rw[zMT hf ht,h]
theorem isF (hf:f σ M=some (x,M)) (ht:zMG M x=some t) (h:isT t T=false):tst (zFv T f) σ M=some (false,M):=by
 rw[zv (zMT hf ht),h]
theorem zXA (hf:f σ M=some (x,M)) (ht:zMG M x=some t) (h:isT t T=true):tst (zFv T f) σ M=some (true,M):=by
 rw[zv (zMT hf ht),h]
theorem zSa (hc:c σ M=some (true,M)) (h:OkS (a σ M) (nxP (λσ1 M1=>OkS (g σ1 M1) P) P)):OkS (zW (sIf c a b) g σ M) P:=by
 rw[zH,zAu];refine zE hc ?_;rw[zX2 rfl];exact h
theorem zAK (hf:f σ M=some (.dat d,M)) (h:P (.ret d) σ M):OkS (zAO f σ M) P:=by
 rw[zAk];exact zE hf h
theorem zRX (h:(zGJ d).isSome=true):kEq (.dat d) (.dat d) M=some (.dat (.bl true),M):=by
 cases d with
 |tup _=>cases h
 |ref _=>cases h
 |non=>rfl
 |bl k=>cases k <;> rfl
 |int i=>show some (EV.dat (.bl (decide (V.int i=V.int i))),M)=_;simp
 |str x=>show some (EV.dat (.bl (decide (V.str x=V.str x))),M)=_;simp
theorem zIx (hf:f σ M=some (.dat (.bl true),M)) (hg:g σ M=some (.dat (.bl true),M)):zMJ f g σ M=some (.dat (.bl true),M):=by
 unfold zMJ;rw[hf];exact hg
theorem zNJ (hf:f σ M=some (.dat (.bl false),M)):zQc f σ M=some (.dat (.bl true),M):=by
 unfold zQc;rw[hf];rfl
theorem zAa {α:Type} (as:List α) (enc out:α->D) (hi:fi σ M=some (as.map enc,gd,M)) (hgd:zAr gd (as.map enc) M) (hz:as.length<=100000)
  (he:∀ a∈as,∃ σ1,g (enc a) (zBD own σ)=some σ1/\te σ1 M=some (.dat (out a),M)):zo own fi g zq te σ M=some (.fl (as.map out),M):=by
 refine zT (zC3.mpr ⟨_,_,_,hi,by rw[zXw];exact zX hz,?_⟩);refine Ok.mono (zBu (I:=λr acc M'=>M'=M /\ ∃ ra rb:List α,as=rb++ra/\r=ra.map enc/\acc=rb.map out) (Q:=λacc M'=>M'=M/\acc=as.map out) ?_ ?_ _ [] _ ⟨rfl,as,[],rfl,rfl,rfl⟩) ?_
 .rintro x r acc M' ⟨rfl,ra,rb,hab,hr,rfl⟩;cases ra with
  |nil=>cases hr
  |cons a ra=>
   rw[zX6]at hr;obtain ⟨rfl,rfl⟩:=zYr hr;obtain ⟨σ1,e1,e2⟩:=he a (by rw[hab];simp);refine ⟨hgd,σ1,e1,zFL.mpr ?_⟩;rw[zX2 rfl];refine zE e2 ?_;rw[zJ];exact ⟨rfl,ra,rb++[a],by rw[hab];simp,rfl,by simp⟩
 .rintro acc M' ⟨rfl,ra,rb,hab,hr,rfl⟩;cases ra with
  |nil=>rw[zYX]at hab;subst hab;exact ⟨hgd,rfl,rfl⟩
  |cons a ra=>cases hr
 .rintro ys M' ⟨rfl,h⟩;rw[List.nil_append]at h;subst h;exact ⟨rfl,rfl⟩
theorem zAw (hf:f σ M=some (x,M)) (h:zAJ M x=some xs):fB zAR (zU f zk) σ M=some (.dat (.tup xs),M):=by
 unfold fB zU zk;rw[hf];exact zT ((zKf h).mpr ⟨rfl,rfl⟩)
theorem zCz (hf:f σ M=some (.dat (.tup xs),M)):zt f σ M=some (xs,none,M):=zBm hf zu
theorem zMu (n:Nat):zCN 0 n=(List.range n).map λ(k:Nat)=>D.int k:=(zHT n).symm
theorem zEl (e:f σ M=some (.dat (.int j),M)) (h1:0<=j) (h2:j<2 ^ 62):zAc (zD (toD f) zI) σ M=some ((List.range j.toNat).map (λ(k:Nat)=>D.int k),none,M):=by
 rw[zCk e h1 h2,zMu]
theorem zA4 (hf:f σ M=some (.dat d,M)) (h:OkS (g (σ.set i (some d)) M) P):OkS (zW (zj i f) g σ M) P:=by
 rw[zH,zS];exact zE hf h
theorem zUB (h:f σ M=some (.dat d,M')):zD (toD f) zI σ M=some ([d],M'):=by
 unfold zD toD zI;rw[h]
open ST
noncomputable def ris (xs:Ye):List Int:=zD5 (zK xs)
theorem zBs (xs:Ye) (x:Int):x∈ris xs ↔ x∈xs:=by
 unfold ris;rw[(zBb _).mem_iff,zBa]
theorem zFt (xs:Ye):(ris xs).Pairwise (· < ·):=by
 have h1:=zHk (zK xs);have h2:(ris xs).Nodup:=(zBb _).nodup_iff.mpr (zFF xs);unfold ris at h2 ⊢;exact (h1.and h2).imp λ{a b} h=>by have:=h.1;have:=h.2;omega
theorem zFk:∀ {xs ys:Ye},xs.Pairwise (· < ·)->ys.Pairwise (· < ·)->(∀ x,x∈xs ↔ x∈ys)->xs=ys
 |[],[],_,_,_=>rfl
 |[],y::ys,_,_,h=>by have:=(h y).mpr zX1;cases this
 |x::xs,[],_,_,h=>by have:=(h x).mp zX1;cases this
 |x::xs,y::ys,h1,h2,h=>by
  have hx:=zZx.mp h1;have hy:=zZx.mp h2;have e:x=y:=by
   have a:=(h x).mp zX1;have b:=(h y).mpr zX1;rcases zXz.mp a with z|z
   .exact z
   .rcases zXz.mp b with q|q
    .exact q.symm
    .have:=hx.1 y q;have:=hy.1 x z;omega
  subst e;rw[zFk hx.2 hy.2 λz=>?_];constructor
  .intro hz;rcases zXz.mp ((h z).mp (zX0 _ hz))with q|q
   .subst q;have:=hx.1 _ hz;omega
   .exact q
  .intro hz;rcases zXz.mp ((h z).mpr (zX0 _ hz))with q|q
   .subst q;have:=hy.1 _ hz;omega
   .exact q
theorem zFa (h:∀ x,x∈xs ↔ x∈ys):ris xs=ris ys:=zFk (zFt xs) (zFt ys) λx=>by rw[zBs,zBs];exact h x
theorem zJq (h:xs.Pairwise (· < ·)):ris xs=xs:=zFk (zFt xs) h λx=>zBs xs x
theorem zEg (xs:Ye):(ris xs).length<=xs.length:=by
 unfold ris;rw[(zBb _).length_eq];exact zA8 xs
theorem zVX (h:0<xs.length):0<(ris xs).length:=by
 cases xs with
 |nil=>cases h
 |cons x r=>exact List.length_pos_of_mem ((zBs (x::r) x).mpr zX1)
theorem zGy (f:Int->Int) (xs:Ye):ris ((ris xs).map f)=ris (xs.map f):=zFa λx=>by simp[zBs]
theorem zTK (h:zo own fi g tc te σ M=some (.fl (ks.map D.int),M)) (hz:ks.length<=4000):zJT own fi g tc te σ M=some (zK ks,M):=by
 unfold zJT;rw[h];dsimp only;rw[zBB];dsimp only;rw[zX2 (by unfold scanBound;omega)]
theorem zPS (h:f σ M=some (x,M)) (hx:zAJ M x=some (ks.map D.int)) (hz:(zK ks).length<=4000):zEG f σ M=some (zK ks,M):=by
 unfold zEG;rw[h];dsimp only;rw[hx];dsimp only;rw[zBB];dsimp only;rw[zX2 (by unfold scanBound;omega)]
theorem zRW (h:f σ M=some (x,M)) (hx:zAJ M x=some (ks.map D.int)) (hz:ks.length<=4000):zEG f σ M=some (zK ks,M):=zPS h hx (zYE (zA8 ks) hz)
theorem zRc (h:fz σ M=some (zK ks,M)) (hz:(zK ks).length<64):zH5 fz σ M=some (.fl ((ris ks).map D.int),M):=by
 unfold zH5;rw[h];dsimp only;rw[zX2 hz];rfl
noncomputable def zFp:FS:=(zAO (fB zAR (zU (zH5 (zJT [3] (zt (zC 1)) (gN 3) zq (fOp kIx (fOp kIx (zC 0) (zC 3)) (zC 2)))) zk)))
noncomputable def zA1:FF:=zDQ (zA3 4 zFp)
noncomputable def zH1:FS:=(zW (zj 3 (zA7 (zD (toD (zC 1)) zI)))
  (zW (zDA (zt (zC 2)) (gN 4) (zBO (fM zAF (zC 3) (zD (toD (zP zA1 (zD (toD (zC 0)) (zD (toD (fOp kIx (zC 3) (zLz (fC (.int 1))))) (zD (toD (zC 4)) zI))))) zI))))
  (zAO (fB zAR (zU (zC 3) zk)))))
noncomputable def zED:FF:=zDQ (zA3 5 zH1)
noncomputable def zFr:FS:=(zAO (fOp kIx (zP zED (zD (toD (zC 0)) (zD (toD (zC 1)) (zD (toD (zC 2)) zI)))) (zLz (fC (.int 1)))))
noncomputable def zCZ:FF:=zDQ (zA3 3 zFr)
noncomputable def setR (zA:Ya) (S:Ye) (g:Int):List Int:=ris (S.map λh=>zBQ zA h g)
noncomputable def broR (zA:Ya) (S word:Ye):List Int:=word.foldl (setR zA) S
structure IsS (zA:Ya) (S:Ye):Prop where
 pw:S.Pairwise (· < ·)
 n0:0<S.length
 mem:∀ x∈S,0<=x/\x<(zA.length:Int)
theorem zNT:∀ {S:Ye} {a:Int} {n:Nat},S.Pairwise (· < ·)->(∀ x∈S,a<=x/\x<a+(n:Int))->S.length<=n
 |[],_,_,_,_=>zYZ _
 |x::S,a,n,h,hm=>by
  have hx:=zZx.mp h;obtain ⟨m0,m1⟩:=hm x zX1;have hn:0<n:=by omega
  have:=zNT (S:=S) (a:=x+1) (n:=(a+n-(x+1)).toNat) hx.2 λy hy=>by
   have:=hx.1 y hy;have:=(hm y (zX0 _ hy)).2;omega
  simp only[zYK];omega
theorem IsS.len (h:IsS zA S):S.length<=zA.length:=zNT h.pw (a:=0) λx hx=>by have:=h.mem x hx;omega
theorem IsM.setR {zA:Ya} {l:Nat} (m:IsM zA l) {S:Ye} (s:IsS zA S) {g:Int} (g0:0<=g) (g1:g<l):IsS zA (setR zA S g):=by
 refine ⟨zFt _,zVX (by rw[zXw];exact s.n0),λx hx=>?_⟩;obtain ⟨y,hy,rfl⟩:=zX4.mp ((zBs _ _).mp hx);obtain ⟨y0,y1⟩:=s.mem y hy;exact m.step y0 y1 g0 g1
theorem IsM.broR {zA:Ya} {l:Nat} (m:IsM zA l):∀ (word:Ye) {S:Ye},IsS zA S->(∀ g∈word,0<=g/\g<(l:Int))->IsS zA (broR zA S word)
 |[],S,s,_=>s
 |g::r,S,s,hw=>by
  obtain ⟨g0,g1⟩:=hw g zX1;exact IsM.broR m r (m.setR s g0 g1) λx hx=>hw x (zX0 _ hx)
theorem zGq (zA:Ya):∀ (word:Ye) (S:Ye),broR zA (ris S) word=ris (S.map λr=>zAg zA r word)
 |[],S=>by show ris S=ris (S.map λr=>r);rw[List.map_id']
 |g::w,S=>by
  show broR zA (setR zA (ris S) g) w=_;unfold setR;rw[zGy];rw[zGq zA w];rw[zYB];rfl
theorem zCC (h:S.Pairwise (· < ·)) (word:Ye):broR zA S word=ris (S.map λr=>zAg zA r word):=by
 have:=zGq zA word S;rw[zJq h]at this;exact this
theorem zJw (zA:Ya) (S a b:Ye):broR zA S (a++b)=broR zA (broR zA S a) b:=by unfold broR;rw[zZl]
noncomputable def tI (xs:Ye):D:=.tup (xs.map D.int)
theorem zGv {zA:Ya} {l:Nat} (m:IsM zA l) (hR:zA.length<64) {S:Ye} (s:IsS zA S) {g:Int} (g0:0<=g) (g1:g<l) {M:Mem}:zA1 [mD zA,tI S,.int g] M=some (tI (setR zA S g),M):=by
 refine zT ?_;unfold zA1;refine zCX (by unfold D.unds D.unds D.unds D.unds;rw[zCK];simp[tI,zAC,D.und,zm]) ?_;rw[zr];unfold zFp;have hl:=s.len;have hz:(zK (S.map λh=>zBQ zA h g)).length<64:=by have:=zA8 (S.map λh=>zBQ zA h g);rw[zXw]at this;omega
 refine zAK (d:=tI (setR zA S g)) ?_ ⟨by unfold tI;exact zAC _,rfl,rfl⟩;refine zAw (zRc (ks:=S.map λh=>zBQ zA h g) (zTK ?_ (by rw[zXw];omega)) hz) zCL;refine (zAa S D.int (λh=> .int (zBQ zA h g)) (zCz rfl) trivial (by omega) λh hh=>⟨_,rfl,?_⟩).trans ?_
 .obtain ⟨h0,h1⟩:=s.mem h hh;exact m.ix h0 h1 g0 g1 rfl rfl rfl
 .rw[zYB];rfl
noncomputable def zGR (zA:Ya) (S:Ye):List Int->List (List Int)
 |[]=>[S]
 |g::w=>S::zGR zA (setR zA S g) w
theorem zFC {α:Type} (xs:List α) (x:α):atI (xs++[x]) (-1)=some x:=by
 unfold atI ixN;rw[zX5 (by decide),zX2 (by simp;omega)];have:((-1:Int)+((xs++[x]).length:Int)).toNat=xs.length:=by simp;omega
 simp only[Option.bind_some];rw[this];simp
theorem zSp {zA:Ya} {l:Nat} (m:IsM zA l) (hR:zA.length<64) {S word:Ye} (s:IsS zA S) (hw:∀ g∈word,0<=g/\g<(l:Int)) (hz:word.length<=90000) {M:Mem}:zED [mD zA,tI S,tI word] M=some (.tup ((zGR zA S word).map tI),M):=by
 refine zT ?_;unfold zED;refine zCX (by unfold D.unds D.unds D.unds D.unds;rw[zCK];simp[tI,zAC,D.und,zm]) ?_;rw[zr];unfold zH1;rw[zH,zS];refine zDs.mpr (zAG.mpr (zAZ.mpr (zAS.mpr ⟨_,rfl,zJ.mpr (zAe.mpr ⟨zX (by simp),?_⟩)⟩)));rw[zGn,zN,zH,zBE];refine ⟨_,_,_,zBm rfl zu,?_⟩;refine zAp (I:=λr σ M'=>∃ (y:Option D) (c:Ye) (acc:Ya) (T:Ye),σ=[some (mD zA),some (tI S),some (tI word),some (.ref 0),y]/\r=c.map D.int/\(∀ g∈c,0<=g/\g<(l:Int))/\IsS zA T/\M'=[.lst ((acc++[T]).map tI)]/\acc++zGR zA T c=zGR zA S word/\acc.length+c.length=word.length) ?_ ?_ _ _ _ ⟨none,word,[],S,rfl,rfl,hw,s,rfl,rfl,by simp⟩
 .rintro x r σ M' ⟨y,c,acc,T,rfl,hc,hg,sT,rfl,e,hl⟩;obtain ⟨z,c',rfl,rfl,rfl⟩:=zAY hc;refine ⟨zAI,_,rfl,?_⟩;rw[zBV];obtain ⟨g0,g1⟩:=hg z zX1;have eA:([MO.lst ((acc++[T]).map tI)]:Mem)[0]?=some (.lst ((acc++[T]).map tI)):=rfl;refine zGe.mpr (zAS.mpr ⟨_,rfl,⟨_,zAW eA⟩,zAG.mpr (zAZ.mpr ?_)⟩);refine zE (zh (zg rfl (zg (zL (f:=zC 3) (g:=zLz (fC (.int 1))) (y:=.dat (.int (-1))) rfl rfl (zBN (zf eA) ?_)) (zY rfl))) (zGv m hR sT g0 g1)) ?_
  .rw[zYf];exact zFC _ _
  .rw[zJ,zAe,zBl eA (by rw[zXw,zX3];simp at hl ⊢;exact zYC (m:=95000) (by omega) (zX (by omega)))];refine ⟨_,c',acc++[T],setR zA T z,rfl,rfl,λg hg'=>hg g (zX0 _ hg'),m.setR sT g0 g1,?_,?_,by simp at hl ⊢;omega⟩
   .simp
   .rw[<-e];simp[zGR]
 .rintro σ M' ⟨y,c,acc,T,rfl,hc,hg,sT,rfl,e,hl⟩;have:c=[]:=by cases c with|nil=>rfl|cons _ _=>cases hc
  subst this;refine ⟨zAI,?_⟩;rw[zN];refine zAK (zAw rfl (zf (show ([MO.lst ((acc++[T]).map tI)]:Mem)[0]?=some (.lst ((acc++[T]).map tI))from rfl))) ?_;have e':acc++[T]=zGR zA S word:=by rw[<-e];rfl
  rw[e'];refine ⟨?_,rfl,rfl⟩;unfold D.und;refine zEC λx hx=>?_;obtain ⟨r,_,rfl⟩:=zX4.mp hx;exact zAC r
theorem zJG (zA:Ya):∀ (word S:Ye),∃ us,zGR zA S word=us++[broR zA S word]
 |[],S=>⟨[],rfl⟩
 |g::w,S=>by
  obtain ⟨us,e⟩:=zJG zA w (setR zA S g);exact ⟨S::us,by show S::zGR zA _ w=_;rw[e];rfl⟩
theorem zRo (m:IsM zA l) (hR:zA.length<64) (s:IsS zA S) (hw:∀ g∈word,0<=g/\g<(l:Int)) (hz:word.length<=90000):zCZ [mD zA,tI S,tI word] M=some (tI (broR zA S word),M):=by
 refine zT ?_;unfold zCZ;refine zCX (by unfold D.unds D.unds D.unds D.unds;rw[zCK];simp[tI,zAC,D.und,zm]) ?_;rw[zr];unfold zFr;obtain ⟨us,e⟩:=zJG zA word S;refine zAK (d:=tI (broR zA S word)) (zL (zh (zg rfl (zg rfl (zY rfl))) (zSp m hR s hw hz)) (g:=zLz (fC (.int 1))) (y:=.dat (.int (-1))) rfl (zBN zu ?_)) ⟨by unfold tI;exact zAC _,rfl,rfl⟩;rw[e,zYf];exact zFC _ _
end Law
namespace Law
open PySem PySem.Spec PyProof.Rows L2 L3 ST
theorem zQk {l:Ye} (h:x∈l):l.idxOf x<l.length:=List.idxOf_lt_length_iff.mpr h
theorem zMS:∀ {l:Ye} (_:l.Nodup) {k:Nat},k<l.length->l.idxOf (l.getD k 0)=k
 |y::l,h,0,_=>by simp
 |y::l,h,k+1,hk=>by
  have hn:=zY7.mp h;have hk':k<l.length:=by simpa using hk
  have hm:l.getD k 0∈l:=by rw[zXs,zXr hk'];exact zYL _
  have hne:y≠l.getD k 0:=λe=>hn.1 (e▸hm);show (y::l).idxOf (l.getD k 0)=k+1;rw[List.idxOf_cons,show (y==l.getD k 0)=false by simpa using hne];simp only[cond_false];rw[zMS hn.2 hk']
theorem zMY (hgd:zAr gd all M) (hg:g x σ=some σ1) (hk:tk σ1 M=some (.dat k,M)) (hv:tv σ1 M=some (.dat v,M)) (hp:zEJ M n k v=some M'):zCq g zq tk tv σ n all gd (x::r) M=zCq g zq tk tv σ n all gd r M':=by
 rw[zCq];rw[zX2 hgd,hg];have et:zq σ1 M=some (true,M):=rfl;have e1:toD tk σ1 M=some (k,M):=by unfold toD;rw[hk]
 have e2:toD tv σ1 M=some (v,M):=by unfold toD;rw[hv]
 dsimp only;rw[et];dsimp only;rw[e1];dsimp only;rw[e2];dsimp only;rw[hp]
theorem zIo (hgd:zAr gd all M):zCq g tc tk tv σ n all gd [] M=some M:=by
 rw[zCq,zX2 hgd]
theorem zVi {M:Mem} {n:Nat} {xs:List D} {k:Nat} {d:D} {Q:D->Mem->Prop} (h:M[n]?=some (.lst xs)) (hk:xs[k]?=some d) (hz:k<90000) (q:Q d (M.set n (.lst (xs.eraseIdx k)))):Ok (zIb (.dat (.ref n)) [.int (k:Int)] M) Q:=by
 refine ⟨d,M.set n (.lst (xs.eraseIdx k)),?_,q⟩;have hl:k<xs.length:=(zXq.mp hk).1;unfold zIb;dsimp only;rw[h];dsimp only;have e:ixN xs.length (k:Int)=some k:=by unfold ixN;rw[zX2 (by omega),zX2 (by omega)];simp
 rw[e];dsimp only;rw[hk];dsimp only;rw[zX2 ⟨by omega,by omega⟩]
theorem zCI (e:f σ M=some (.dat (mD zA),M)):fB zAv (zU f zk) σ M=some (.dat (.int zA.length),M):=by
 have:=zCi e zu;rw[zXw]at this;exact this
theorem zN1 (m:IsM zA l) (e:f σ M=some (.dat (mD zA),M)):fB zAv (zU (fOp kIx f (fC (.int 0))) zk) σ M=some (.dat (.int l),M):=by
 have r0:=m.r0;have:=zCi (zL (g:=fC (.int 0)) e rfl (zBN zu (zNU (h:=0) (by omega) (by omega)))) zu;rw[zXw,(m.get (h:=0) (by omega) (by omega)).1]at this;exact this
theorem zL9 (e:f σ M=some (.dat (tI xs),M)):fB zAv (zU f zk) σ M=some (.dat (.int xs.length),M):=by
 have:=zCi e zu;rw[zXw]at this;exact this
end Law
namespace Law
open PySem PySem.Spec PyProof.Rows L2 L3 ST
theorem oS (h:f σ M=some (.dat (.int i),M)):zBZ f σ M=some (some i,M):=by unfold zBZ;rw[h]
theorem zPJ (h0:0<p) (hx:0<xs.length):L3.zDi xs (some p) none=xs.drop p.toNat:=by
 have e:p=((p.toNat:Nat):Int):=by omega
 have s:HT.sIx xs.length 0 (some p)=min p.toNat xs.length:=by
  have q:=HT.zGw xs.length 0 p.toNat;rw[<-e]at q;exact q
 have z:HT.sIx xs.length xs.length none=xs.length:=rfl;unfold L3.zDi;rw[s,z];rcases Nat.le_total p.toNat xs.length with q|q
 .rw[Nat.min_eq_left q,List.take_of_length_le (by simp)]
 .rw[Nat.min_eq_right q,List.drop_of_length_le (zXt _),List.drop_of_length_le q];simp
end Law
namespace Lac
open PySem PySem.Spec PyProof.Rows L2 L3 ST Law
theorem zd (h:P (.ref M.length) (M++[.lst xs])):zGa P (.fl xs) M:=h
theorem zc (A:Mem) (u:MO):(A++[u])[A.length]?=some u:=by simp
noncomputable def zET:FS:=(zAO (zGQ (fB zAv (zU (zC 0) zk))))
noncomputable def zAD:FF:=zA3 1 zET
noncomputable def zE3:FS:=(zAO (zFo [1,2] [2] (zt (zC 0)) (gN 1) zq (zt (zC 0)) (gN 2) (tst (fOp kLt (zC 1) (zC 2))) (zAq (zD (toD (zC 1)) (zD (toD (zC 2)) zI)))))
noncomputable def zAE:FF:=zA3 3 zE3
theorem zK4 {α:Type} (enc out:α->D) (keep:α->Bool):∀ (as:List α),(∀ a∈as,∃ σ1,g (enc a) σ=some σ1/\tc σ1 M=some (keep a,M)/\(keep a=true->te σ1 M=some (.dat (out a),M)))->zAx g tc te σ all none (as.map enc) M=some ((as.filter keep).map out,M)
 |[],_=>by
  rw[List.map_nil];unfold zAx;rw[zX2 (show zAr none all M from trivial)];rfl
 |a::r,h=>by
  obtain ⟨σ1,e1,e2,e3⟩:=h a zX1;have ih:=zK4 (all:=all) (σ:=σ) enc out keep r λb hb=>h b (zX0 _ hb);rw[zX6];unfold zAx;rw[zX2 (show zAr none all M from trivial),e1];dsimp only;rw[e2];cases hk:keep a with
  |false=>
   dsimp only;rw[ih,List.filter_cons_of_neg (by simp[hk])]
  |true=>
   dsimp only;rw[show toD te σ1 M=some (out a,M) by unfold toD;rw[e3 hk]];dsimp only;rw[ih,List.filter_cons_of_pos hk];rfl
theorem zRM {α β:Type} (as:List α) (enc:α->D) (bs:α->List β) (enc2:β->D) (keep:α->β->Bool) (out:α->β->D) (B:Nat)
  (hi:fi σ M=some (as.map enc,none,M)) (hB:∀ a∈as,(bs a).length<=B) (hz:as.length*B<=90000)
  (he:∀ a∈as,∃ σ1,fg (enc a) (zBD own σ)=some σ1/\fi2 σ1 M=some ((bs a).map enc2,none,M) /\ ∀ b∈bs a,∃ σ2,fg2 (enc2 b) (zBD own2 σ1)=some σ2/\tc2 σ2 M=some (keep a b,M)/\(keep a b=true->te σ2 M=some (.dat (out a b),M))) :
  zFo own own2 fi fg zq fi2 fg2 tc2 te σ M=some (.fl (as.flatMap λa=>((bs a).filter (keep a)).map (out a)),M):=by
 have key:∀ (r:List α) (acc:List D),(∀ a∈r,a∈as)->acc.length+r.length*B<=90000->zJe fg zq fi2 own2 fg2 tc2 te (zBD own σ) (as.map enc) none (r.map enc) acc M=some (acc++r.flatMap λa=>((bs a).filter (keep a)).map (out a),M):=by
  intro r;induction r with
  |nil=>
   intro acc _ _;rw[List.map_nil];unfold zJe;rw[zX2 (show zAr none (as.map enc) M from trivial)];simp
  |cons a r ih=>
   intro acc hs hl;have ha:=hs a zX1;obtain ⟨σ1,e1,e2,e3⟩:=he a ha;have hb:=hB a ha;have hlen:(((bs a).filter (keep a)).map (out a)).length<=(bs a).length:=by rw[zXw];exact zZ7 _ _
   rw[zYK,Nat.add_mul]at hl;rw[zX6];unfold zJe;rw[zX2 (show zAr none (as.map enc) M from trivial),e1];dsimp only;rw[show zq σ1 M=some (true,M)from rfl];dsimp only;rw[e2];dsimp only;rw[zX2 (zX (by rw[zXw];omega)),zK4 enc2 (out a) (keep a) (bs a) e3];dsimp only;rw[ih _ (λb hb=>hs b (zX0 _ hb)) (by rw[zX3];omega)];rw[List.flatMap_cons,zYt]
 unfold zFo;rw[hi];dsimp only;rw[key as [] (λ_ h=>h) (by simpa using hz)];simp
noncomputable def zV (xs:Ye):List (List Int):=xs.flatMap λa=>(xs.filter λb=>decide (a<b)).map λb=>[a,b]
theorem zEA (hz:xs.length<=200):zAE [tI xs] M=some (.ref M.length,M++[.lst ((zV xs).map tI)]):=by
 suffices h:Ok (zAE [tI xs] M) λd M'=>d=.ref M.length/\M'=M++[.lst ((zV xs).map tI)] by
  obtain ⟨d,M',e,rfl,rfl⟩:=h;exact e
 unfold zAE;rw[zr];unfold zE3;rw[zAk];have hq:xs.length*xs.length<=90000:=zYE (zZP hz hz) (by decide);refine zE (zRM xs D.int (λ_=>xs) D.int (λa b=>decide (a<b)) (λa b=>tI [a,b]) xs.length (zCz rfl) (λ_ _=>zXt _) hq λa ha=>⟨_,rfl,zCz rfl,λb hb=>⟨_,rfl,?_,λ_=>?_⟩⟩) (zd ⟨rfl,?_⟩)
 .exact zv (zL (x:=.dat (.int a)) (y:=.dat (.int b)) rfl rfl (zT (zUh.mpr ⟨rfl,rfl⟩)))
 .unfold zAq;rw[zg (d:=.int a) rfl (zY (d:=.int b) rfl)];dsimp only;rw[zX2 (zX (by simp))];rfl
 .congr 3;unfold zV;rw[List.map_flatMap];congr 1;funext a;rw[zYB];rfl
theorem zAB:p∈zV xs ↔ ∃ a b,p=[a,b]/\a∈xs/\b∈xs/\a<b:=by
 unfold zV;rw[List.mem_flatMap];constructor
 .rintro ⟨a,ha,h⟩;obtain ⟨b,hb,rfl⟩:=zX4.mp h;obtain ⟨h1,h2⟩:=zYy.mp hb;exact ⟨a,b,rfl,ha,h1,zYj h2⟩
 .rintro ⟨a,b,rfl,ha,hb,hlt⟩;exact ⟨a,ha,zX4.mpr ⟨b,zYy.mpr ⟨hb,zYv hlt⟩,rfl⟩⟩
theorem zDM (hz:zA.length<=1000):zAD [mD zA] M=some (tI ((List.range zA.length).map λ(k:Nat)=>(k:Int)),M):=by
 refine zT ?_;unfold zAD;rw[zr];unfold zET;refine zAK (d:=tI ((List.range zA.length).map λ(k:Nat)=>(k:Int))) ?_ ⟨rfl,rfl⟩;unfold zGQ;rw[show fB zAv (zU (zC 0) zk) ([mD zA].map some++List.replicate (1 - [mD zA].length) none) M=some (.dat (.int zA.length),M)from zCI rfl];dsimp only;rw[zX2 ⟨by omega,by omega⟩];unfold upD tI;rw[zYB,show (zA.length:Int).toNat=zA.length by omega];rfl
noncomputable def zKS (g:Ye):List Key:=g.map Sum.inl
theorem zL2:∀ {a b:Ye},zKS a=zKS b->a=b
 |[],[],_=>rfl
 |[],_::_,h=>by cases h
 |_::_,[],h=>by cases h
 |x::a,y::b,h=>by
  have h1:=(zYr h).1;have h2:=zL2 (zYr h).2;cases h1;rw[h2]
theorem zG9:∀ g:List Int,zHp (g.map D.int)=some (zKS g)
 |[]=>rfl
 |x::r=>by
  rw[zX6];unfold zHp;rw[zG9 r];rfl
theorem zG6 (g:Ye):tkD (tI g)=some (zKS g):=zG9 g
noncomputable abbrev zJk (T:List (List Int × D)):List (D × D):=T.map λq=>(tI q.1,q.2)
noncomputable abbrev dT (T:List (List Int × D)):MO:=.dicT (zJk T)
noncomputable def zG:List (List Int × D)->List Int->Option D
 |[],_=>none
 |q::r,g=>if q.1=g then some q.2 else zG r g
noncomputable def zDX (T:List (List Int × D)) (g:Ye) (v:D):List (List Int × D):=match zG T g with
 |some _=>T.map λq=>if q.1=g then (q.1,v) else q
 |none=>T++[(g,v)]
theorem zKI (a g:Ye):decide (tkD (tI a)=some (zKS g))=decide (a=g):=by
 rw[zG6];by_cases h:a=g
 .subst h;simp
 .rw[zYM h,zYM];intro e;exact h (zL2 (zYn e))
theorem zQC (g:Ye):∀ T:List (List Int × D),zCJ tkD (zJk T) (zKS g)=zG T g
 |[]=>rfl
 |q::r=>by
  have ih:=zQC g r;unfold zCJ at ih ⊢;unfold zJk at ih ⊢;rw[zX6,zZZ];rw[zKI];unfold zG;by_cases h:q.1=g
  .rw[zYv h,zX2 h];rfl
  .rw[zYM h,zX5 h];exact ih
theorem zT7 (g:Ye):∀ T:List (List Int × D),((zJk T).any λp=>decide (tkD p.1=some (zKS g)))=(zG T g).isSome
 |[]=>rfl
 |q::r=>by
  have ih:=zT7 g r;unfold zJk at ih ⊢;rw[zX6,List.any_cons,zKI];unfold zG;by_cases h:q.1=g
  .rw[zYv h,zX2 h];rfl
  .rw[zYM h,zX5 h,Bool.false_or];exact ih
theorem zV9 (T:List (List Int × D)) (g:Ye) (v:D):zIa tkD (zJk T) (zKS g) (tI g) v=zJk (zDX T g v):=by
 unfold zIa zDX;rw[zT7];cases h:zG T g with
 |none=>
  rw[zX5 (by simp)];unfold zJk;rw[zYf];rfl
 |some d=>
  rw[zX2 (by simp)];unfold zJk;rw[zYB,zYB];apply List.map_congr_left;intro q _;show (if tkD (tI q.1)=some (zKS g) then (tI q.1,v) else (tI q.1,q.2))=(tI (if q.1=g then (q.1,v) else q).1,(if q.1=g then (q.1,v) else q).2);have hd:=zKI q.1 g;by_cases hq:q.1=g
  .rw[zYv hq]at hd;rw[zX2 (zYj hd),zX2 hq]
  .rw[zYM hq]at hd;rw[zX5 (of_decide_eq_false hd),zX5 hq]
theorem zEf (T:List (List Int × D)) (g h:Ye) (v:D):zG (zDX T g v) h=if g=h then some v else zG T h:=by
 have app:∀ (T:List (List Int × D)),zG T g=none->zG (T++[(g,v)]) h=if g=h then some v else zG T h:=by
  intro T;induction T with
  |nil=>intro _;rfl
  |cons q r ih=>
   intro e;unfold zG at e;by_cases hq:q.1=g
   .rw[zX2 hq]at e;cases e
   .rw[zX5 hq]at e;show (if q.1=h then some q.2 else zG (r++[(g,v)]) h)=if g=h then some v else if q.1=h then some q.2 else zG r h
    rw[ih e];by_cases h1:q.1=h
    .rw[zX2 h1,zX2 h1,zX5 (λz=>hq (h1.trans z.symm))]
    .rw[zX5 h1,zX5 h1]
 have mp:∀ (T:List (List Int × D)),(zG T g).isSome=true->zG (T.map λq=>if q.1=g then (q.1,v) else q) h=if g=h then some v else zG T h:=by
  intro T;by_cases hgh:g=h
  .subst hgh;induction T with
   |nil=>intro e;cases e
   |cons q r ih=>
    intro e;rw[zX6];unfold zG;by_cases hq:q.1=g
    .rw[zX2 hq];simp[hq]
    .rw[zX5 hq,zX5 hq];unfold zG at e;rw[zX5 hq]at e;rw[ih e,zX2 rfl,zX2 rfl]
  .intro hx;clear hx;rw[zX5 hgh];induction T with
   |nil=>rfl
   |cons q r ih=>
    rw[zX6];unfold zG;by_cases hq:q.1=g
    .have:¬ q.1=h:=λz=>hgh (hq.symm.trans z);rw[zX2 hq];rw[zX5 this,zX5 this];exact ih
    .rw[zX5 hq];by_cases h1:q.1=h
     .rw[zX2 h1,zX2 h1]
     .rw[zX5 h1,zX5 h1];exact ih
 unfold zDX;cases e:zG T g with
 |none=>exact app T e
 |some d=>exact mp T (by rw[e];rfl)
theorem zLP (T:List (List Int × D)) (g:Ye) (v:D):(zDX T g v).length<=T.length+1:=by
 unfold zDX;cases zG T g with
 |none=>simp
 |some d=>simp
section
variable {M:Mem} {n:Nat} {T:List (List Int × D)} {g:Ye}
theorem dgT (h:M[n]?=some (dT T)):zDJ M (.dat (.ref n)) (tI g)=some (zG T g):=by
 unfold zDJ;dsimp only;rw[h];dsimp only;rw[zG6];dsimp only;rw[zQC]
theorem zMA (h:M[n]?=some (dT T)):zBC neg (.dat (tI g)) (.dat (.ref n)) M=some (.dat (.bl (if neg then !(zG T g).isSome else (zG T g).isSome)),M):=by
 unfold zBC;dsimp only;rw[dgT h]
theorem zHZ (h:M[n]?=some (dT T)) (hd:zG T g=some d):zx (.dat (.ref n)) (.dat (tI g)) M=some (.dat d,M):=by
 unfold zx;dsimp only;rw[dgT h,hd]
theorem zNZ (h:M[n]?=some (dT T)) (hz:T.length<90000):zEJ M n (tI g) v=some (M.set n (dT (zDX T g v))):=by
 unfold zEJ;rw[h];dsimp only;rw[zG6];dsimp only;rw[zX2 (by rw[zXw];exact zYC hz (zX (by omega))),zV9]
end
end Lac
namespace Lac
open PySem PySem.Spec PyProof.Rows L2 L3 ST Law
noncomputable def zEU:FS:=(zW (zj 1 zNX)
  (zW (zDA (zt (zP zAE (zD (toD (zP zAD (zD (toD (zC 0)) zI))) zI))) (gN 2) (zDA (zAc (zD (toD (fB zAv (zU (fOp kIx (zC 0) (fC (.int 0))) zk))) zI)) (gN 3) (zW (zj 4 (zP zA1 (zD (toD (zC 0)) (zD (toD (zC 2)) (zD (toD (zC 3)) zI)))))
  (zW (sIf (tst (fOp (zBC true) (zC 4) (zC 1))) (zCO (zA7 zI) (zC 1) (zC 4)) zBX)
  (zBO (fM zAF (fOp zx (zC 1) (zC 4)) (zD (toD (zC 2)) zI)))))))
  (zAO (zC 1))))
noncomputable def zCB:FF:=zA3 5 zEU
noncomputable def zDI (zA:Ya) (ps:List (List Int × Int)) (g:Ye):List (List Int):=(ps.filter λq=>decide (setR zA q.1 q.2=g)).map (·.1)
theorem zG2 (zA:Ya) (ps:List (List Int × Int)) (p:Ye) (x:Int) (g:Ye):zDI zA (ps++[(p,x)]) g=zDI zA ps g++(if setR zA p x=g then [p] else []):=by
 unfold zDI;rw[List.filter_append,zYf];congr 1;by_cases h:setR zA p x=g
 .rw[zX2 h,List.filter_cons_of_pos (by simpa using h)];rfl
 .rw[zX5 h,List.filter_cons_of_neg (by simpa using h)];rfl
structure Sr (zA:Ya) (M:Mem) (jd lo:Nat) (ps:List (List Int × Int)):Prop where
 ex:∃ T:List (List Int × D),M[jd]?=some (dT T)/\T.length<=ps.length/\(∀ g d,zG T g=some d -> ∃ j,d=.ref j/\lo<j/\M[j]?=some (.lst ((zDI zA ps g).map tI)))/\(∀ g,zG T g=none->zDI zA ps g=[]) /\ ∀ g g' j,zG T g=some (.ref j)->zG T g'=some (.ref j)->g=g'
theorem zOo {zA:Ya} {l:Nat} (m:IsM zA l) (hR:zA.length<64) {M:Mem} {jd lo:Nat} {ps:List (List Int × Int)} (hps:ps.length<50000) (hlo:jd<lo) (hlo2:lo<M.length) (sr:Sr zA M jd lo ps) {p:Ye} (hp:IsS zA p) {x:Int} (x0:0<=x) (x1:x<l) {y4:Option D} :
  OkS (zW (zj 4 (zP zA1 (zD (toD (zC 0)) (zD (toD (zC 2)) (zD (toD (zC 3)) zI))))) (zW (sIf (tst (fOp (zBC true) (zC 4) (zC 1))) (zCO (zA7 zI) (zC 1) (zC 4)) zBX) (zBO (fM zAF (fOp zx (zC 1) (zC 4)) (zD (toD (zC 2)) zI)))) [some (mD zA),some (.ref jd),some (tI p),some (.int x),y4] M)
   λo σ' M'=>o=.nx/\(∃ y,σ'=[some (mD zA),some (.ref jd),some (tI p),some (.int x),y])/\Sr zA M' jd lo (ps++[(p,x)])/\M.length<=M'.length /\ ∀ j,j<=lo->j≠jd->M'[j]?=M[j]?:=by
 obtain ⟨T,ed,hT,h1,h2,h3⟩:=sr.ex;refine zA4 (zh (zg rfl (zg rfl (zY rfl))) (zGv m hR hp x0 x1)) ?_;generalize hg:setR zA p x=goal;show OkS (zW _ _ [some (mD zA),some (.ref jd),some (tI p),some (.int x),some (tI goal)] M) _;rw[zH,zAu];refine zE (M:=M) (a:=!(zG T goal).isSome) (zv (zL (x:=.dat (tI goal)) (y:=.dat (.ref jd)) rfl rfl (zMA ed))) ?_
 have last:∀ (A:Mem) (T':List (List Int × D)) (j:Nat),A[jd]?=some (dT T')->zG T' goal=some (.ref j)->lo<j->A[j]?=some (.lst ((zDI zA ps goal).map tI))->T'.length<=ps.length+1->M.length<=A.length->(∀ j,j<=lo->j≠jd->A[j]?=M[j]?) ->
   (∀ g d,zG T' g=some d -> ∃ j,d=.ref j/\lo<j/\A[j]?=some (.lst ((zDI zA ps g).map tI)))->(∀ g,zG T' g=none->zDI zA ps g=[])->(∀ g g' j,zG T' g=some (.ref j)->zG T' g'=some (.ref j)->g=g') ->
   OkS (zBO (fM zAF (fOp zx (zC 1) (zC 4)) (zD (toD (zC 2)) zI)) [some (mD zA),some (.ref jd),some (tI p),some (.int x),some (tI goal)] A)
    λo σ' M'=>o=.nx/\(∃ y,σ'=[some (mD zA),some (.ref jd),some (tI p),some (.int x),y])/\Sr zA M' jd lo (ps++[(p,x)])/\M.length<=M'.length /\ ∀ j,j<=lo->j≠jd->M'[j]?=M[j]?:=by
  intro A T' j ea el hj ej hz hle hfr k1 k2 k3;rw[zBV];have hfl:(zDI zA ps goal).length<=ps.length:=by unfold zDI;rw[zXw];exact zZ7 _ _
  have jl:j<A.length:=(zXq.mp ej).1;refine zGe.mpr (zE (zL (x:=.dat (.ref jd)) (y:=.dat (tI goal)) rfl rfl (zHZ ea el)) ⟨⟨_,zAW ej⟩,zE (zY (d:=tI p) rfl) ?_⟩);rw[zBl ej (by rw[zXw];exact zYC (m:=95000) (by omega) (zX (by omega)))];refine ⟨rfl,⟨_,rfl⟩,⟨T',by rw[zYH (by omega)];exact ea,by simpa using hz,λg d hd=>?_,λg hd=>?_,k3⟩,by simpa using hle,λi hi hn=>by rw[zYH (by omega)];exact hfr i hi hn⟩
  .obtain ⟨j',rfl,hj',ej'⟩:=k1 g d hd;refine ⟨j',rfl,hj',?_⟩;rw[zG2,hg];by_cases hgg:goal=g
   .subst hgg;rw[el]at hd;cases hd;rw[zYh jl,zX2 rfl,zYf];rfl
   .rw[zX5 hgg,zYX];have:j≠j':=λz=>hgg (k3 goal g j el (by rw[z];exact hd));rw[zYH this];exact ej'
  .rw[zG2,hg,zX5 (λz=>by rw[<-z,el]at hd;cases hd),zYX];exact k2 g hd
 cases hl:zG T goal with
 |some d=>
  obtain ⟨j,rfl,hj,ej⟩:=h1 goal d hl;rw[zX5 (by simp),zAf,zN];exact last M T j ed hl hj ej (by omega) (zXt _) (λ_ _ _=>rfl) h1 h2 h3
 |none=>
  rw[zX2 (by simp)];have e0:=h2 goal hl;have jdl:jd<M.length:=(zXq.mp ed).1;have ed':(M++[MO.lst ([]:List D)])[jd]?=some (dT T):=by rw[zXu jdl];exact ed
  refine ⟨.nx,[some (mD zA),some (.ref jd),some (tI p),some (.int x),some (tI goal)],(M++[MO.lst ([]:List D)]).set jd (dT (zDX T goal (.ref M.length))),?_,?_⟩
  .unfold zCO;rw[show toD (zA7 zI) [some (mD zA),some (.ref jd),some (tI p),some (.int x),some (tI goal)] M=some (.ref M.length,M++[.lst []]) by
    unfold toD zA7 zI;dsimp only;rw[zX2 (zX (by simp))]]
   dsimp only;rw[show toD (zC 1) [some (mD zA),some (.ref jd),some (tI p),some (.int x),some (tI goal)] (M++[.lst []])=some (.ref jd,M++[.lst []])from rfl];dsimp only;rw[show toD (zC 4) [some (mD zA),some (.ref jd),some (tI p),some (.int x),some (tI goal)] (M++[.lst []])=some (tI goal,M++[.lst []])from rfl];dsimp only;rw[zNZ ed' (by omega)]
  rw[zN];have hput:=λg=>zEf T goal g (.ref M.length);refine last _ (zDX T goal (.ref M.length)) M.length (zYh (by simp;omega)) (by rw[hput,zX2 rfl]) hlo2 ?_ (by have:=zLP T goal (.ref M.length);omega) (by simp) (λi hi hn=>?_) (λg d hd=>?_) (λg hd=>?_) (λg g' j hd hd'=>?_)
  .rw[zYH (by omega),e0];simp
  .rw[zYH (Ne.symm hn),zXu (by omega)]
  .rw[hput]at hd;by_cases hgg:goal=g
   .subst hgg;rw[zX2 rfl]at hd;cases hd;exact ⟨M.length,rfl,hlo2,by rw[zYH (by omega),e0];simp⟩
   .rw[zX5 hgg]at hd;obtain ⟨j,rfl,hj,ej⟩:=h1 g d hd;exact ⟨j,rfl,hj,by rw[zYH (by omega),zXu (zXq.mp ej).1];exact ej⟩
  .rw[hput]at hd;by_cases hgg:goal=g
   .rw[zX2 hgg]at hd;cases hd
   .rw[zX5 hgg]at hd;exact h2 g hd
  .rw[hput]at hd hd';by_cases a:goal=g
   .by_cases b:goal=g'
    .rw[<-a,<-b]
    .rw[zX2 a]at hd;rw[zX5 b]at hd';cases hd;obtain ⟨j,e,_,ej⟩:=h1 g' _ hd';cases e;exact absurd (zXq.mp ej).1 (zYV _)
   .rw[zX5 a]at hd;by_cases b:goal=g'
    .rw[zX2 b]at hd';cases hd';obtain ⟨j,e,_,ej⟩:=h1 g _ hd;cases e;exact absurd (zXq.mp ej).1 (zYV _)
    .rw[zX5 b]at hd';exact h3 g g' j hd hd'
noncomputable def zF (zA:Ya):List Int:=(List.range zA.length).map λ(k:Nat)=>(k:Int)
noncomputable def zCw (l:Nat) (ps:Ya):List (List Int × Int):=ps.flatMap λp=>(List.range l).map λ(x:Nat)=>(p,(x:Int))
theorem zHH (l:Nat) (ps:Ya):(zCw l ps).length=ps.length*l:=by
 unfold zCw;induction ps with
 |nil=>simp
 |cons p r ih=>rw[List.flatMap_cons,zX3,ih,zXw,zZk,zYK,Nat.add_mul];omega
theorem zB3 (xs:Ye):(zV xs).length<=xs.length*xs.length:=by
 unfold zV;have:∀ (r:Ye),(r.flatMap λa=>(xs.filter λb=>decide (a<b)).map λb=>[a,b]).length<=r.length*xs.length:=by
  intro r;induction r with
  |nil=>simp
  |cons a r ih=>
   rw[List.flatMap_cons,zX3,zXw,zYK,Nat.add_mul];have:=zZ7 (λb=>decide (a<b)) xs;omega
 exact this xs
theorem zN5 (h:p∈zV (zF zA)):IsS zA p:=by
 obtain ⟨a,b,rfl,ha,hb,hlt⟩:=zAB.mp h;obtain ⟨i,hi,rfl⟩:=zX4.mp ha;obtain ⟨j,hj,rfl⟩:=zX4.mp hb;have:=zYR.mp hi;have:=zYR.mp hj;refine ⟨by simp;omega,by simp,λx hx=>?_⟩;simp only[zXz,zYI,zY8]at hx;omega
theorem zEe {M M1:Mem} (ha:a σ M=some (ds,M)) (hg:g ds M=some (.ref j,M1)) (hj:M1[j]?=some (.lst xs)):zt (zP g a) σ M=some (xs,zDr (.dat (.ref j)) xs,M1):=by
 have:zP g a σ M=some (.dat (.ref j),M1):=by unfold zP;rw[ha];dsimp only;rw[hg]
 unfold zt;rw[this];dsimp only;rw[zf hj]
theorem zTX {zA:Ya} {l:Nat} (m:IsM zA l) (hR:zA.length<64) (hl:l<=12) {M:Mem}:Ok (zCB [mD zA] M) λd M'=>d=.ref M.length/\Sr zA M' M.length (M.length+1) (zCw l (zV (zF zA)))/\M.length+1<M'.length /\ ∀ j,j<M.length->M'[j]?=M[j]?:=by
 unfold zCB;rw[zr];unfold zEU;rw[zH,zS];refine zE (M:=M++[.dicT []]) (a:=.dat (.ref M.length)) rfl ?_;rw[zJ,zN,zH,zBE];have hrl:(zF zA).length=zA.length:=by unfold zF;simp
 have epr:=zEA (xs:=zF zA) (by omega) (M:=M++[.dicT []]);refine ⟨_,_,_,zEe (zY (d:=tI (zF zA)) (zh (zY (d:=mD zA) rfl) (zDM (by omega)))) epr (zc _ _),?_⟩;rw[show (M++[MO.dicT []]).length=M.length+1 by simp];generalize hP:zV (zF zA)=P;have hPl:P.length<=3969:=by
  rw[<-hP];have h1:=zB3 (zF zA);rw[hrl]at h1;exact zYE h1 (zZP (show zA.length<=63 by omega) (show zA.length<=63 by omega))
 have e1:(M++[MO.dicT []]++[MO.lst (P.map tI)])[M.length+1]?=some (.lst (P.map tI)):=by
  rw[zYt,zYx (by omega)];simp
 have e0:(M++[MO.dicT []]++[MO.lst (P.map tI)])[M.length]?=some (dT []):=by
  rw[zYt,zYx (by omega)];simp
 have ef:∀ j,j<M.length->(M++[MO.dicT []]++[MO.lst (P.map tI)])[j]?=M[j]?:=λj hj=>by rw[zYt,zXu hj]
 have el:(M++[MO.dicT []]++[MO.lst (P.map tI)]).length=M.length+2:=by simp
 generalize M++[MO.dicT []]++[MO.lst (P.map tI)]=M1 at e1 e0 ef el;refine zAp (I:=λr σ M'=>(∃ y2 y3 y4,σ=[some (mD zA),some (.ref M.length),y2,y3,y4]) /\ ∃ us vs:List (List Int),P=us++vs/\r=vs.map tI/\Sr zA M' M.length (M.length+1) (zCw l us)/\M'[M.length+1]?=some (.lst (P.map tI))/\M.length+1<M'.length /\ ∀ j,j<M.length->M'[j]?=M[j]?) ?_ ?_ _ _ _ ⟨⟨_,_,_,rfl⟩,[],P,rfl,rfl,⟨[],e0,by simp,(λg d h=>by cases h),(λ_ _=>rfl),(λg g' j h=>by cases h)⟩,e1,by omega,ef⟩
 .rintro x r σ M' ⟨⟨y2,y3,y4,rfl⟩,us,vs,hab,hr,sr,ep,hlen,hfr⟩;cases vs with
  |nil=>cases hr
  |cons p vs=>
   rw[zX6]at hr;obtain ⟨rfl,rfl⟩:=zYr hr;have hpm:p∈zV (zF zA):=by rw[hP,hab];simp
   have hul:us.length<3969:=by have:=zZa List.length hab;simp at this;omega
   refine ⟨.inl ep,_,rfl,?_⟩;rw[zBE];refine ⟨_,_,_,zCk (zN1 m rfl) (by omega) (by omega),?_⟩;rw[show (l:Int).toNat=l by omega];refine zMD (n:=l) (I:=λi σ M''=>(∃ y3 y4,σ=[some (mD zA),some (.ref M.length),some (tI p),y3,y4])/\Sr zA M'' M.length (M.length+1) (zCw l us++(List.range i).map λ(x:Nat)=>(p,(x:Int)))/\M''[M.length+1]?=some (.lst (P.map tI))/\M.length+1<M''.length /\ ∀ j,j<M.length->M''[j]?=M[j]?) ?_ ?_ _ _ ⟨⟨_,_,rfl⟩,by simpa using sr,ep,hlen,hfr⟩
   .rintro i σ M2 hi ⟨⟨y3,y4,rfl⟩,sr2,ep2,hlen2,hfr2⟩;refine ⟨_,rfl,?_⟩;have hcount:(zCw l us++(List.range i).map λ(x:Nat)=>(p,(x:Int))).length<50000:=by
     rw[zX3,zHH,zXw,zZk];have:=zZP (show us.length<=3968 by omega) hl;omega
    refine OkS.mono (zOo m hR hcount (zYk _) hlen2 sr2 (zN5 hpm) (x:=(i:Int)) (by omega) (by omega)) ?_;rintro o σ' M3 ⟨rfl,⟨y,rfl⟩,sr3,hl3,hf3⟩;refine ⟨⟨_,_,rfl⟩,?_,by rw[hf3 _ (zXt _) (by omega)];exact ep2,by omega,λj hj=>by rw[hf3 j (by omega) (by omega)];exact hfr2 j hj⟩;rw[List.range_succ,zYf,<-zYt];exact sr3
   .rintro σ M2 ⟨⟨y3,y4,rfl⟩,sr2,ep2,hlen2,hfr2⟩;refine ⟨⟨_,_,_,rfl⟩,us++[p],vs,by rw[hab];simp,rfl,?_,ep2,hlen2,hfr2⟩;have:zCw l (us++[p])=zCw l us++(List.range l).map λ(x:Nat)=>(p,(x:Int)):=by
     unfold zCw;rw[List.flatMap_append];simp
    rw[this];exact sr2
 .rintro σ M' ⟨⟨y2,y3,y4,rfl⟩,us,vs,hab,hr,sr,ep,hlen,hfr⟩;have:vs=[]:=by cases vs with|nil=>rfl|cons _ _=>cases hr
  subst this;rw[zYX]at hab;subst hab;refine ⟨.inl ep,?_⟩;rw[zN];exact zAK rfl ⟨rfl,sr,hlen,hfr⟩
noncomputable def zDe:FS:=(zW (zj 2 (zP zCB (zD (toD (zC 0)) zI)))
  (zW (zj 3 (zC 1))
  (zW (zj 4 (zDG true [5] (zt (zC 1)) (gN 5) zq (zC 5) (fC (.int 0))))
  (zW (zBq (zNH (zC 3)) (zW (zj 6 (zA7 zI))
  (zW (zDA (zt (zC 3)) (gN 5) (zDA (zt (zB5 (zC 2) (zC 5) (zA7 zI))) (gN 7) (sIf (tst (fOp (zBC true) (zC 7) (zC 4))) (zW (zCO (fOp zAX (fOp zx (zC 4) (zC 5)) (fC (.int 1))) (zC 4) (zC 7))
  (zBO (fM zAF (zC 6) (zD (toD (zC 7)) zI)))) zBX)))
  (zj 3 (zC 6)))) 1000)
  (zAO (zC 4))))))
noncomputable def zBL:FF:=zA3 8 zDe
noncomputable abbrev Fd:=List (List Int × D) × List (List Int)
noncomputable def zA9 (k:Int) (st:Fd) (p:Ye):Fd:=if (zG st.1 p).isSome then st else (zDX st.1 p (.int k),st.2++[p])
structure Lv (M0 M:Mem) (jf jb:Nat) (st:Fd):Prop where
 f:M[jf]?=some (dT st.1)
 b:M[jb]?=some (.lst (st.2.map tI))
 len:M0.length<=M.length
 fr:∀ j,j<M0.length->j≠jf->j≠jb->M[j]?=M0[j]?
theorem zRw (k:Int) (st:Fd) (p:Ye):(zA9 k st p).1.length<=st.1.length+1/\(zA9 k st p).2.length<=st.2.length+1:=by
 unfold zA9;split
 .exact ⟨by omega,by omega⟩
 .exact ⟨zLP _ _ _,by simp⟩
theorem zSo {M0:Mem} {jf jb js jd jl:Nat} {zA:Ya} {x1 x3 y7:Option D} {goal:Ye} {k:Int} {ps:Ya} (hne:jf≠jb) (h1:jf<M0.length) (h2:jb<M0.length) :
  ∀ (M:Mem) (st:Fd),Lv M0 M jf jb st->M[js]?=some (.lst (ps.map tI))->js≠jf->js≠jb->zG st.1 goal=some (.int k)->st.1.length+ps.length<=80000->st.2.length+ps.length<=80000 ->
  OkS (zC6 (gN 7) (sIf (tst (fOp (zBC true) (zC 7) (zC 4))) (zW (zCO (fOp zAX (fOp zx (zC 4) (zC 5)) (fC (.int 1))) (zC 4) (zC 7)) (zBO (fM zAF (zC 6) (zD (toD (zC 7)) zI)))) zBX) (ps.map tI) (zDr (.dat (.ref js)) (ps.map tI)) (ps.map tI) [some (mD zA),x1,some (.ref jd),x3,some (.ref jf),some (tI goal),some (.ref jb),y7] M)
   λo σ' M'=>o=.nx/\(∃ y,σ'=[some (mD zA),x1,some (.ref jd),x3,some (.ref jf),some (tI goal),some (.ref jb),y])/\Lv M0 M' jf jb (ps.foldl (zA9 (k+1)) st)/\M'.length=M.length /\ ∀ j,j≠jf->j≠jb->M'[j]?=M[j]?:=by
 intro M st lv ejs n1 n2 hgl z1 z2;refine zAp (I:=λr σ M'=>(∃ y,σ=[some (mD zA),x1,some (.ref jd),x3,some (.ref jf),some (tI goal),some (.ref jb),y]) /\ ∃ us vs:List (List Int),ps=us++vs/\r=vs.map tI/\Lv M0 M' jf jb (us.foldl (zA9 (k+1)) st)/\zG (us.foldl (zA9 (k+1)) st).1 goal=some (.int k)/\(us.foldl (zA9 (k+1)) st).1.length<=st.1.length+us.length/\(us.foldl (zA9 (k+1)) st).2.length<=st.2.length+us.length/\M'.length=M.length /\ ∀ j,j≠jf->j≠jb->M'[j]?=M[j]?) ?_ ?_ _ _ _ ⟨⟨_,rfl⟩,[],ps,rfl,rfl,lv,hgl,by simp,by simp,rfl,λ_ _ _=>rfl⟩
 .rintro x r σ M' ⟨⟨y,rfl⟩,us,vs,hab,hr,lv',hg',l1,l2,hl,hfr⟩;cases vs with
  |nil=>cases hr
  |cons p vs=>
   rw[zX6]at hr;obtain ⟨rfl,rfl⟩:=zYr hr;have hul:us.length<ps.length:=by rw[hab];simp
   refine ⟨.inl (by rw[hfr js n1 n2];exact ejs),_,rfl,?_⟩;have hfold:(us++[p]).foldl (zA9 (k+1)) st=zA9 (k+1) (us.foldl (zA9 (k+1)) st) p:=by rw[zZl];rfl
   generalize us.foldl (zA9 (k+1)) st=st' at lv' hg' l1 l2 hfold;have al:=zRw (k+1) st' p;rw[zAu];refine zE (M:=M') (a:=!(zG st'.1 p).isSome) (zv (zL (x:=.dat (tI p)) (y:=.dat (.ref jf)) rfl rfl (zMA lv'.f))) ?_;cases hlk:zG st'.1 p with
   |some d=>
    have ea:zA9 (k+1) st' p=st':=by unfold zA9;rw[hlk];rfl
    rw[zX5 (by simp),zAf];refine ⟨⟨_,rfl⟩,us++[p],vs,by rw[hab];simp,rfl,?_⟩;rw[hfold,ea];exact ⟨lv',hg',by simp;omega,by simp;omega,hl,hfr⟩
   |none=>
    have ea:zA9 (k+1) st' p=(zDX st'.1 p (.int (k+1)),st'.2++[p]):=by unfold zA9;rw[hlk];rfl
    have hgp:p≠goal:=λz=>by rw[z,hg']at hlk;cases hlk
    rw[zX2 (by simp),zH];have ev:fOp zAX (fOp zx (zC 4) (zC 5)) (fC (.int 1)) [some (mD zA),x1,some (.ref jd),x3,some (.ref jf),some (tI goal),some (.ref jb),some (tI p)] M'=some (.dat (.int (k+1)),M'):=zL (x:=.dat (.int k)) (zL (x:=.dat (.ref jf)) (y:=.dat (tI goal)) rfl rfl (zHZ lv'.f hg')) rfl rfl;have hd:OkS (zCO (fOp zAX (fOp zx (zC 4) (zC 5)) (fC (.int 1))) (zC 4) (zC 7) [some (mD zA),x1,some (.ref jd),x3,some (.ref jf),some (tI goal),some (.ref jb),some (tI p)] M') λo σ' M2=>o=.nx/\σ'=[some (mD zA),x1,some (.ref jd),x3,some (.ref jf),some (tI goal),some (.ref jb),some (tI p)]/\M2=M'.set jf (dT (zDX st'.1 p (.int (k+1)))):=by
     refine ⟨.nx,_,_,?_,rfl,rfl,rfl⟩;unfold zCO;rw[show toD (fOp zAX (fOp zx (zC 4) (zC 5)) (fC (.int 1))) [some (mD zA),x1,some (.ref jd),x3,some (.ref jf),some (tI goal),some (.ref jb),some (tI p)] M'=some (.int (k+1),M') by unfold toD;rw[ev]];dsimp only;rw[show toD (zC 4) [some (mD zA),x1,some (.ref jd),x3,some (.ref jf),some (tI goal),some (.ref jb),some (tI p)] M'=some (.ref jf,M')from rfl];dsimp only;rw[show toD (zC 7) [some (mD zA),x1,some (.ref jd),x3,some (.ref jf),some (tI goal),some (.ref jb),some (tI p)] M'=some (tI p,M')from rfl];dsimp only;rw[zNZ lv'.f (by omega)]
    refine OkS.mono hd ?_;rintro o σ' M2 ⟨rfl,rfl,rfl⟩;rw[zN,zBV];have eb:(M'.set jf (dT (zDX st'.1 p (.int (k+1)))))[jb]?=some (.lst (st'.2.map tI)):=by rw[zYH hne];exact lv'.b
    refine zGe.mpr (zAS.mpr ⟨_,rfl,⟨_,zAW eb⟩,zE (zY (d:=tI p) rfl) ?_⟩);rw[zBl eb (by rw[zXw];exact zYC (m:=95000) (by omega) (zX (by omega)))];have jfl:jf<M'.length:=zYC h1 lv'.len;have jbl:jb<M'.length:=zYC h2 lv'.len;refine ⟨⟨_,rfl⟩,us++[p],vs,by rw[hab];simp,rfl,?_⟩;rw[hfold];refine ⟨?_,?_,by simp;omega,by simp;omega,by simp[hl],λj q1 q2=>by rw[zYH (Ne.symm q2),zYH (Ne.symm q1)];exact hfr j q1 q2⟩
    .rw[ea];refine ⟨by rw[zYH (Ne.symm hne),zYh jfl],by rw[zYh (by simpa using jbl),zYf];rfl,by simpa using lv'.len,λj q0 q1 q2=>by rw[zYH (Ne.symm q2),zYH (Ne.symm q1)];exact lv'.fr j q0 q1 q2⟩
    .rw[ea];rw[zEf,zX5 hgp];exact hg'
 .rintro σ M' ⟨⟨y,rfl⟩,us,vs,hab,hr,lv',hg',l1,l2,hl,hfr⟩;have:vs=[]:=by cases vs with|nil=>rfl|cons _ _=>cases hr
  subst this;rw[zYX]at hab;subst hab;exact ⟨.inl (by rw[hfr js n1 n2];exact ejs),rfl,⟨_,rfl⟩,lv',hl,hfr⟩
theorem zWU {f g:FE} {σ:Sd} {M:Mem} {n:Nat} {T:List (List Int × D)} {k:Ye} (hf:f σ M=some (.dat (.ref n),M)) (hn:M[n]?=some (dT T)) (hg:g σ M=some (.dat (tI k),M)):zB5 f g (zA7 zI) σ M=some (.dat ((zG T k).getD (.ref M.length)),M++[.lst []]):=by
 have nl:n<M.length:=(zXq.mp hn).1;unfold zB5;rw[show toD f σ M=some (.ref n,M) by unfold toD;rw[hf]];dsimp only;rw[hn];rw[show toD g σ M=some (tI k,M) by unfold toD;rw[hg]];dsimp only;rw[show toD (zA7 zI) σ M=some (.ref M.length,M++[.lst []]) by
  unfold toD zA7 zI;dsimp only;rw[zX2 (zX (by simp))]]
 dsimp only;rw[dgT (g:=k) (show (M++[MO.lst ([]:List D)])[n]?=some (dT T) by rw[zXu nl];exact hn)]
noncomputable def zB4 (src:Y1) (k:Int) (gs:Ya) (st:Fd):Fd:=gs.foldl (λst g=>(src g).foldl (zA9 (k+1)) st) st
theorem zO2 {k:Int} {st:Fd} {p g:Ye} {d:D} (h:zG st.1 g=some d):zG (zA9 k st p).1 g=some d:=by
 unfold zA9;split
 .exact h
 .rename_i q;rw[zEf,zX5 (λz=>q (by rw[z,h];rfl))];exact h
theorem zH6 {k:Int} {g:Ye} {d:D}:∀ (ps:Ya) {st:Fd},zG st.1 g=some d->zG (ps.foldl (zA9 k) st).1 g=some d
 |[],_,h=>h
 |p::r,_,h=>zH6 r (zO2 h)
def zXD (M:Mem) (Ts:List (List Int × D)) (jf jb:Nat) (src:Y1):Prop:=∀ g,(∃ j,zG Ts g=some (.ref j)/\j≠jf/\j≠jb/\M[j]?=some (.lst ((src g).map tI)))\/(zG Ts g=none/\src g=[])
theorem zSX {M0:Mem} {jf jb jd jl:Nat} {zA:Ya} {x1 y5 y7:Option D} {k:Int} {gs:Ya} {src:Y1} {Ts:List (List Int × D)} (hne:jf≠jb) (h1:jf<M0.length) (h2:jb<M0.length) (hd:M0[jd]?=some (dT Ts)) (d1:jd≠jf) (d2:jd≠jb) (hl:M0[jl]?=some (.lst (gs.map tI))) (l1:jl≠jf) (l2:jl≠jb) (hs:zXD M0 Ts jf jb src) (B:Nat) (hB:∀ g∈gs,(src g).length<=B)
  {st:Fd} (hg:∀ g∈gs,zG st.1 g=some (.int k)) (Z:Nat) (hZB:Z+B<=80000) (hZ:∀ us vs,gs=us++vs->(zB4 src k us st).1.length<=Z/\(zB4 src k us st).2.length<=Z) (lv:Lv M0 M0 jf jb st) :
  OkS (zC6 (gN 5) (zDA (zt (zB5 (zC 2) (zC 5) (zA7 zI))) (gN 7) (sIf (tst (fOp (zBC true) (zC 7) (zC 4))) (zW (zCO (fOp zAX (fOp zx (zC 4) (zC 5)) (fC (.int 1))) (zC 4) (zC 7)) (zBO (fM zAF (zC 6) (zD (toD (zC 7)) zI)))) zBX)) (gs.map tI) (zDr (.dat (.ref jl)) (gs.map tI)) (gs.map tI) [some (mD zA),x1,some (.ref jd),some (.ref jl),some (.ref jf),y5,some (.ref jb),y7] M0)
   λo σ' M'=>o=.nx/\(∃ y5 y7,σ'=[some (mD zA),x1,some (.ref jd),some (.ref jl),some (.ref jf),y5,some (.ref jb),y7])/\Lv M0 M' jf jb (zB4 src k gs st):=by
 refine zAp (I:=λr σ M'=>(∃ y5 y7,σ=[some (mD zA),x1,some (.ref jd),some (.ref jl),some (.ref jf),y5,some (.ref jb),y7]) /\ ∃ us vs:List (List Int),gs=us++vs/\r=vs.map tI/\Lv M0 M' jf jb (zB4 src k us st)/\(∀ g∈gs,zG (zB4 src k us st).1 g=some (.int k))) ?_ ?_ _ _ _ ⟨⟨_,_,rfl⟩,[],gs,rfl,rfl,lv,hg⟩
 .rintro x r σ M' ⟨⟨y5,y7,rfl⟩,us,vs,hab,hr,lv',hg'⟩;cases vs with
  |nil=>cases hr
  |cons g vs=>
   rw[zX6]at hr;obtain ⟨rfl,rfl⟩:=zYr hr;have hgm:g∈gs:=by rw[hab];simp
   have hsb:=hB g hgm;obtain ⟨b1,b2⟩:=hZ us (g::vs) hab;have keep:∀ {j:Nat} {u:MO},M0[j]?=some u->j≠jf->j≠jb->M'[j]?=some u:=λ{j u} e q1 q2=>(lv'.fr j (zXq.mp e).1 q1 q2).trans e;refine ⟨.inl (keep hl l1 l2),_,rfl,?_⟩;have hfold:zB4 src k (us++[g]) st=(src g).foldl (zA9 (k+1)) (zB4 src k us st):=by unfold zB4;rw[zZl];rfl
   generalize zB4 src k us st=st' at lv' hg' b1 b2 hfold;have e2:=zWU (f:=zC 2) (g:=zC 5) (σ:=[some (mD zA),x1,some (.ref jd),some (.ref jl),some (.ref jf),some (tI g),some (.ref jb),y7]) (M:=M') (k:=g) rfl (keep hd d1 d2) rfl;have lvA:Lv M0 (M'++[.lst []]) jf jb st':=by
    have f1:=(zXq.mp lv'.f).1;have f2:=(zXq.mp lv'.b).1;have f3:=lv'.len;exact ⟨by rw[zXu f1];exact lv'.f,by rw[zXu f2];exact lv'.b,by simp;omega,λj q0 q1 q2=>by rw[zXu (by omega)];exact lv'.fr j q0 q1 q2⟩
   obtain ⟨js,ejs,n1,n2,el⟩:∃ js,(zG Ts g).getD (.ref M'.length)=.ref js/\js≠jf/\js≠jb/\(M'++[MO.lst ([]:List D)])[js]?=some (.lst ((src g).map tI)):=by
    rcases hs g with ⟨j,e,q1,q2,q3⟩|⟨e,q⟩
    .have:=keep q3 q1 q2;exact ⟨j,by rw[e];rfl,q1,q2,by rw[zXu (zXq.mp this).1];exact this⟩
    .have:=lv'.len;exact ⟨M'.length,by rw[e];rfl,by omega,by omega,by rw[q];simp⟩
   rw[ejs]at e2;rw[zBE];refine ⟨_,_,_,(show zt (zB5 (zC 2) (zC 5) (zA7 zI)) [some (mD zA),x1,some (.ref jd),some (.ref jl),some (.ref jf),some (tI g),some (.ref jb),y7] M'=some ((src g).map tI,zDr (.dat (.ref js)) ((src g).map tI),M'++[.lst []]) by unfold zt;rw[e2];dsimp only;rw[zf el]),?_⟩;refine OkS.mono (zSo (jl:=jl) (k:=k) hne h1 h2 _ st' lvA el n1 n2 (hg' g hgm) (by omega) (by omega)) ?_;rintro o σ' M2 ⟨rfl,⟨y,rfl⟩,lv2,_,_⟩;refine ⟨⟨_,_,rfl⟩,us++[g],vs,by rw[hab];simp,rfl,?_⟩;rw[hfold];exact ⟨lv2,λg' hg''=>zH6 _ (hg' g' hg'')⟩
 .rintro σ M' ⟨⟨y5,y7,rfl⟩,us,vs,hab,hr,lv',hg'⟩;have:vs=[]:=by cases vs with|nil=>rfl|cons _ _=>cases hr
  subst this;rw[zYX]at hab;subst hab;have keep:∀ {j:Nat} {u:MO},M0[j]?=some u->j≠jf->j≠jb->M'[j]?=some u:=λ{j u} e q1 q2=>(lv'.fr j (zXq.mp e).1 q1 q2).trans e;exact ⟨.inl (keep hl l1 l2),rfl,⟨_,_,rfl⟩,lv'⟩
theorem zPI (k:Int) (st:Fd) (p t:Ye):zG (zA9 k st p).1 t=(if (zG st.1 t).isSome then zG st.1 t else if t=p then some (.int k) else none)/\(t∈(zA9 k st p).2 ↔ t∈st.2\/(zG st.1 t=none/\t=p)):=by
 unfold zA9;by_cases h:(zG st.1 p).isSome=true
 .rw[zX2 h];constructor
  .by_cases ht:(zG st.1 t).isSome=true
   .rw[zX2 ht]
   .rw[zX5 ht,zX5 (λz=>ht (by rw[z];exact h))];cases e:zG st.1 t with
    |none=>rfl
    |some d=>rw[e]at ht;simp at ht
  .constructor
   .exact .inl
   .rintro (q|⟨q,rfl⟩)
    .exact q
    .rw[q]at h;cases h
 .rw[zX5 h];have hn:zG st.1 p=none:=by
   cases e:zG st.1 p with
   |none=>rfl
   |some d=>rw[e]at h;simp at h
  constructor
  .rw[zEf];by_cases ht:p=t
   .subst ht;rw[zX2 rfl,zX5 h,zX2 rfl]
   .rw[zX5 ht];by_cases hs:(zG st.1 t).isSome=true
    .rw[zX2 hs]
    .rw[zX5 hs,zX5 (λz=>ht z.symm)];cases e:zG st.1 t with
     |none=>rfl
     |some d=>rw[e]at hs;simp at hs
  .rw[zYD,zYF];constructor
   .rintro (q|rfl)
    .exact .inl q
    .exact .inr ⟨hn,rfl⟩
   .rintro (q|⟨_,q⟩)
    .exact .inl q
    .exact .inr q
theorem zHM (k:Int):∀ (ps:Ya) (st:Fd) (t:Ye),zG (ps.foldl (zA9 k) st).1 t=(if (zG st.1 t).isSome then zG st.1 t else if t∈ps then some (.int k) else none)/\(t∈(ps.foldl (zA9 k) st).2 ↔ t∈st.2\/(zG st.1 t=none/\t∈ps))
 |[],st,t=>by
  constructor
  .by_cases h:(zG st.1 t).isSome=true
   .rw[zX2 h];rfl
   .rw[zX5 h,zX5 (by simp)];cases e:zG st.1 t with
    |none=>exact e
    |some d=>rw[e]at h;simp at h
  .simp
 |p::r,st,t=>by
  obtain ⟨a1,a2⟩:=zPI k st p t;obtain ⟨b1,b2⟩:=zHM k r (zA9 k st p) t;rw[List.foldl_cons,b1,b2,a2,a1];by_cases h:(zG st.1 t).isSome=true
  .rw[zX2 h,zX2 h,zX2 h];refine ⟨rfl,?_⟩;have hn:¬ zG st.1 t=none:=λz=>by rw[z]at h;cases h
   simp[hn]
  .have hn:zG st.1 t=none:=by
    cases e:zG st.1 t with
    |none=>rfl
    |some d=>rw[e]at h;simp at h
   rw[zX5 h,zX5 h];by_cases hp:t=p
   .rw[zX2 hp];refine ⟨?_,?_⟩
    .rw[zX2 (show (some (D.int k)).isSome=true from rfl),zX2 (by rw[hp];exact zX1)]
    .simp[hn,hp]
   .rw[zX5 hp];refine ⟨?_,?_⟩
    .rw[zX5 (by simp)];by_cases hr:t∈r
     .rw[zX2 hr,zX2 (zX0 _ hr)]
     .rw[zX5 hr,zX5 (by simp[hp,hr])]
    .simp[hn,hp]
theorem zJV (src:Y1) (k:Int) (gs:Ya) (st:Fd) (t:Ye):zG (zB4 src k gs st).1 t=(if (zG st.1 t).isSome then zG st.1 t else if t∈gs.flatMap src then some (.int (k+1)) else none)/\(t∈(zB4 src k gs st).2 ↔ t∈st.2\/(zG st.1 t=none/\t∈gs.flatMap src)):=by
 have:∀ (gs:Ya) (st:Fd),zB4 src k gs st=(gs.flatMap src).foldl (zA9 (k+1)) st:=by
  intro gs;induction gs with
  |nil=>intro st;rfl
  |cons g r ih=>
   intro st;show zB4 src k r ((src g).foldl (zA9 (k+1)) st)=_;rw[ih,List.flatMap_cons,zZl]
 rw[this gs st];exact zHM (k+1) (gs.flatMap src) st t
def Rch (zA:Ya) (l:Nat) (G:Yq) (t:Ye) (n:Nat):Prop:=∃ w:List Int,w.length=n/\(∀ x∈w,0<=x/\x<(l:Int))/\G (broR zA t w)
def Dst (zA:Ya) (l:Nat) (G:Yq) (t:Ye) (n:Nat):Prop:=Rch zA l G t n /\ ∀ m,m<n -> ¬ Rch zA l G t m
theorem zHL:Rch zA l G t (n+1) ↔ ∃ x:Int,(0<=x/\x<(l:Int))/\Rch zA l G (setR zA t x) n:=by
 constructor
 .rintro ⟨w,hw,hb,hl⟩;cases w with
  |nil=>cases hw
  |cons x w=>exact ⟨x,hb x zX1,w,by simpa using hw,λy hy=>hb y (zX0 _ hy),hl⟩
 .rintro ⟨x,hx,w,hw,hb,hl⟩;exact ⟨x::w,by simp[hw],λy hy=>by rcases zXz.mp hy with rfl|q;exact hx;exact hb y q,hl⟩
theorem zK7:Rch zA l G t 0 ↔ G t:=by
 constructor
 .rintro ⟨w,hw,_,hl⟩;have:w=[]:=List.length_eq_zero_iff.mp hw;subst this;exact hl
 .intro h;exact ⟨[],rfl,(λ_ h=>by cases h),h⟩
theorem zBR:Dst zA l G t 0 ↔ G t:=by
 unfold Dst;rw[zK7];exact ⟨λh=>h.1,λh=>⟨h,λm hm=>by omega⟩⟩
theorem zDK:Dst zA l G t (n+1) ↔ (∀ m,m<=n -> ¬ Rch zA l G t m) /\ ∃ x:Int,(0<=x/\x<(l:Int))/\Dst zA l G (setR zA t x) n:=by
 constructor
 .rintro ⟨h1,h2⟩;obtain ⟨x,hx,hr⟩:=zHL.mp h1;exact ⟨λm hm=>h2 m (by omega),x,hx,hr,λm hm hq=>h2 (m+1) (by omega) (zHL.mpr ⟨x,hx,hq⟩)⟩
 .rintro ⟨h1,x,hx,hr,_⟩;exact ⟨zHL.mpr ⟨x,hx,hr⟩,λm hm=>h1 m (by omega)⟩
theorem zDY:∀ n,Rch zA l G t n -> ∃ m,m<=n/\Dst zA l G t m:=by
 intro n;induction n using Nat.strongRecOn with
 |ind n ih=>
  intro h;by_cases q:∃ m,m<n/\Rch zA l G t m
  .obtain ⟨m,hm,hr⟩:=q;obtain ⟨m',h1,h2⟩:=ih m hm hr;exact ⟨m',by omega,h2⟩
  .exact ⟨n,zXt _,h,λm hm hr=>q ⟨m,hm,hr⟩⟩
theorem zAt (h1:Dst zA l G t a) (h2:Dst zA l G t b):a=b:=by
 rcases Nat.lt_trichotomy a b with q|q|q
 .exact absurd h1.1 (h2.2 a q)
 .exact q
 .exact absurd h2.1 (h1.2 b q)
def zHz (zA:Ya) (l:Nat) (G:Yq) (U:Yq) (k:Nat) (fd:List (List Int × D)) (lev:Ya):Prop:=(∀ t d,zG fd t=some d ↔ U t /\ ∃ n:Nat,n<=k/\Dst zA l G t n/\d=.int (n:Int)) /\ ∀ t,t∈lev ↔ U t/\Dst zA l G t k
theorem zFm (h:zHz zA l G U k fd lev) (u:U t):zG fd t=none ↔ ∀ m,m<=k -> ¬ Rch zA l G t m:=by
 constructor
 .intro e m hm hr;obtain ⟨n,hn,hd⟩:=zDY m hr;rw[(h.1 t (.int (n:Int))).mpr ⟨u,n,by omega,hd,rfl⟩]at e;cases e
 .intro q;cases e:zG fd t with
  |none=>rfl
  |some d=>
   obtain ⟨_,n,hn,hd,_⟩:=(h.1 t d).mp e;exact absurd hd.1 (q n hn)
theorem zOQ {zA:Ya} {l:Nat} {U P:Yq} {src:Y1} (hs:∀ g t,t∈src g ↔ P t /\ ∃ x:Int,(0<=x/\x<(l:Int))/\setR zA t x=g) (hP:∀ t,P t->U t) (hU:∀ t n,U t -> ¬ G t->Rch zA l G t n->P t) (hc:∀ t (x:Int),U t->0<=x/\x<(l:Int)->U (setR zA t x))
  {k:Nat} {fd:List (List Int × D)} {lev:Ya} (h:zHz zA l G U k fd lev):zHz zA l G U (k+1) (zB4 src (k:Int) lev (fd,[])).1 (zB4 src (k:Int) lev (fd,[])).2:=by
 have key:∀ t,(zG fd t=none/\t∈lev.flatMap src) ↔ U t/\Dst zA l G t (k+1):=by
  intro t;constructor
  .rintro ⟨e,hm⟩;obtain ⟨g,hg,ht⟩:=List.mem_flatMap.mp hm;obtain ⟨p,x,hx,hq⟩:=(hs g t).mp ht;have u:=hP t p;refine ⟨u,zDK.mpr ⟨(zFm h u).mp e,x,hx,?_⟩⟩;rw[hq];exact ((h.2 g).mp hg).2
  .rintro ⟨u,hd⟩;obtain ⟨q,x,hx,hr⟩:=zDK.mp hd;refine ⟨(zFm h u).mpr q,List.mem_flatMap.mpr ⟨setR zA t x,(h.2 _).mpr ⟨hc t x u hx,hr⟩,(hs _ t).mpr ⟨hU t _ u ?_ hd.1,x,hx,rfl⟩⟩⟩;intro h1;exact q 0 (zYZ _) (zK7.mpr h1)
 constructor
 .intro t d;rw[(zJV src (k:Int) lev (fd,[]) t).1];cases e:zG fd t with
  |some d'=>
   rw[zX2 (show (some d').isSome=true from rfl)];obtain ⟨u,n,hn,hd,rfl⟩:=(h.1 t d').mp e;constructor
   .intro z;cases z;exact ⟨u,n,by omega,hd,rfl⟩
   .rintro ⟨_,m,_,hm,rfl⟩;rw[zAt hm hd]
  |none=>
   rw[zX5 (by simp)];by_cases hm:t∈lev.flatMap src
   .rw[zX2 hm];obtain ⟨u,hd⟩:=(key t).mp ⟨e,hm⟩;constructor
    .intro z;cases z;exact ⟨u,k+1,zXt _,hd,by simp⟩
    .rintro ⟨_,m,_,hm',rfl⟩;rw[zAt hm' hd];simp
   .rw[zX5 hm];constructor
    .intro z;cases z
    .rintro ⟨u,m,hk,hd,rfl⟩;exfalso;by_cases hmk:m<=k
     .exact (zFm h u).mp e m hmk hd.1
     .have:m=k+1:=by omega
      subst this;exact hm ((key t).mpr ⟨u,hd⟩).2
 .intro t;rw[(zJV src (k:Int) lev (fd,[]) t).2];rw[key t];simp
theorem zRg {zA:Ya} {l:Nat} {G:Yq} {U:Yq} (hc:∀ t (x:Int),U t->0<=x/\x<(l:Int)->U (setR zA t x)) {k:Nat} {fd:List (List Int × D)} (h:zHz zA l G U k fd []) (t:Ye) (d:D):zG fd t=some d ↔ U t /\ ∃ n:Nat,Dst zA l G t n/\d=.int (n:Int):=by
 have far:∀ n t,U t -> ¬ Dst zA l G t (k+n):=by
  intro n;induction n with
  |zero=>intro t u hd;exact absurd ((h.2 t).mpr ⟨u,hd⟩) (by simp)
  |succ n ih=>
   intro t u hd;obtain ⟨_,x,hx,hr⟩:=zDK.mp (show Dst zA l G t ((k+n)+1)from hd);exact ih _ (hc t x u hx) hr
 rw[h.1 t d];constructor
 .rintro ⟨u,n,_,a,b⟩;exact ⟨u,n,a,b⟩
 .rintro ⟨u,n,a,b⟩;refine ⟨u,n,?_,a,b⟩;by_cases q:n<=k
  .exact q
  .exfalso;have e:n=k+(n-k):=by omega
   rw[e]at a;exact far _ t u a
def Th (zA:Ya) (t:Ye):Prop:=IsS zA t/\t.length<=2
noncomputable def zD8 (zA:Ya) (l:Nat) (g:Ye):List (List Int):=zDI zA (zCw l (zV (zF zA))) g
theorem zS6 (g t:Ye):t∈zD8 zA l g ↔ t∈zV (zF zA) /\ ∃ x:Int,(0<=x/\x<(l:Int))/\setR zA t x=g:=by
 unfold zD8 zDI zCw;simp only[zX4,zYy,List.mem_flatMap,zYR,zY0];constructor
 .rintro ⟨q,⟨⟨p,hp,k,hk,rfl⟩,hq⟩,rfl⟩;exact ⟨hp,(k:Int),⟨by omega,by omega⟩,hq⟩
 .rintro ⟨hp,x,⟨x0,x1⟩,hq⟩;refine ⟨(t,x),⟨⟨t,hp,x.toNat,by omega,?_⟩,hq⟩,rfl⟩;rw[show ((x.toNat:Nat):Int)=x by omega]
theorem zBJ:x∈zF zA ↔ 0<=x/\x<(zA.length:Int):=by
 unfold zF;simp only[zX4,zYR];constructor
 .rintro ⟨k,hk,rfl⟩;omega
 .rintro ⟨h0,h1⟩;exact ⟨x.toNat,by omega,by omega⟩
theorem zBp (t:Ye) (h:t∈zV (zF zA)):Th zA t:=by
 refine ⟨zN5 h,?_⟩;obtain ⟨a,b,rfl,_⟩:=zAB.mp h;exact zXt _
theorem zNd (t:Ye) (h:Th zA t) (h1:t.length≠1):t∈zV (zF zA):=by
 obtain ⟨⟨pw,n0,hm⟩,h2⟩:=h;match t,pw,n0,hm,h1,h2 with
 |[a,b],pw,_,hm,_,_=>
  exact zAB.mpr ⟨a,b,rfl,zBJ.mpr (hm a (by simp)),zBJ.mpr (hm b (by simp)),by simpa using pw⟩
 |[a],_,_,_,h1,_=>exact absurd rfl h1
 |[],_,n0,_,_,_=>cases n0
 |_::_::_::_,_,_,_,_,h2=>simp at h2
theorem zDh (m:IsM zA l) (t:Ye) (x:Int) (h:Th zA t) (hx:0<=x/\x<(l:Int)):Th zA (setR zA t x):=by
 refine ⟨m.setR h.1 hx.1 hx.2,?_⟩;have:=zEg (t.map λh=>zBQ zA h x);rw[zXw]at this;exact zYE this h.2
def zDB (zA:Ya) (G:Yq):Prop:=(∀ t,Th zA t->t.length=1->G t) \/ ∀ t,t.length=1 -> ¬ G t
theorem zIn (m:IsM zA l):∀ (w t:Ye),Th zA t->t.length=1->(∀ x∈w,0<=x/\x<(l:Int))->(broR zA t w).length=1
 |[],_,_,h,_=>h
 |x::w,t,u,h,hw=>by
  have hx:=hw x zX1;have u':=zDh m t x u hx;refine zIn m w (setR zA t x) u' ?_ λy hy=>hw y (zX0 _ hy);have h1:=zEg (t.map λh=>zBQ zA h x);rw[zXw,h]at h1;have h2:=u'.1.n0;have h3:(setR zA t x).length<=1:=h1;omega
theorem zF8 (m:IsM zA l) (o:zDB zA G) (t:Ye) (n:Nat) (u:Th zA t) (g:¬ G t) (r:Rch zA l G t n):t∈zV (zF zA):=by
 refine zNd t u λh1=>?_;rcases o with o|o
 .exact g (o t u h1)
 .obtain ⟨w,_,hw,hg⟩:=r;exact o _ (zIn m w t u h1 hw) hg
theorem zLb (m:IsM zA l) (o:zDB zA G) (h:zHz zA l G (Th zA) k fd lev):zHz zA l G (Th zA) (k+1) (zB4 (zD8 zA l) (k:Int) lev (fd,[])).1 (zB4 (zD8 zA l) (k:Int) lev (fd,[])).2 :=
 zOQ (P:=λt=>t∈zV (zF zA)) zS6 zBp (zF8 m o) (zDh m) h
theorem zOm (hts:∀ t,t∈ts ↔ Th zA t/\G t) (h:∀ t d,zG fd t=some d ↔ t∈ts/\d=.int 0):zHz zA l G (Th zA) 0 fd ts:=by
 have key:∀ t,t∈ts ↔ Th zA t/\Dst zA l G t 0:=λt=>by rw[zBR,hts]
 refine ⟨λt d=>?_,key⟩;rw[h t d,key t];constructor
 .rintro ⟨⟨a,b⟩,rfl⟩;exact ⟨a,0,zXt _,b,by simp⟩
 .rintro ⟨a,n,hn,b,rfl⟩;have:n=0:=by omega
  subst this;exact ⟨⟨a,b⟩,by simp⟩
abbrev One (t:Ye):Prop:=t.length=1
theorem zRK (t:Ye):t∈(zF zA).map (λr=>[r]) ↔ Th zA t/\One t:=by
 rw[zX4];constructor
 .rintro ⟨r,hr,rfl⟩;have:=zBJ.mp hr;refine ⟨⟨⟨by simp,by simp,λx hx=>?_⟩,by simp⟩,rfl⟩;rw[zYF]at hx;subst hx;exact this
 .rintro ⟨⟨s,_⟩,h1⟩;obtain ⟨r,rfl⟩:=List.length_eq_one_iff.mp h1;exact ⟨r,zBJ.mpr (s.mem r (by simp)),rfl⟩
theorem zG0:zDB zA One:=.inl λ_ _ h=>h
theorem whole (m:IsM zA l) (h:zHz zA l G (Th zA) k fd []) (t:Ye) (d:D):zG fd t=some d ↔ Th zA t /\ ∃ n:Nat,Dst zA l G t n/\d=.int (n:Int):=zRg (zDh m) h t d
theorem zCf {α:Type} [DecidableEq α]:∀ (xs ys:List α),xs.Nodup->(∀ x∈xs,x∈ys)->xs.length<=ys.length
 |[],_,_,_=>zYZ _
 |x::r,ys,h,hm=>by
  obtain ⟨h1,h2⟩:=zY7.mp h;have hx:x∈ys:=hm x zX1;have:=zCf r (ys.erase x) h2 λy hy=>(List.mem_erase_of_ne (λz=>h1 (by rw[<-z];exact hy))).mpr (hm y (zX0 _ hy));rw[List.length_erase_of_mem hx]at this;have:=List.length_pos_of_mem hx;simp only[zYK];omega
theorem zEB:∀ {T:List (List Int × D)} {g:Ye},(zG T g).isSome=true ↔ g∈T.map (·.1)
 |[],g=>by simp[zG]
 |q::r,g=>by
  unfold zG;by_cases h:q.1=g
  .simp[h]
  .rw[zX5 h,zEB (T:=r)];simp only[zX6,zXz];constructor
   .exact .inr
   .rintro (z|z)
    .exact absurd z.symm h
    .exact z
structure Sz (n:Nat) (st:Fd):Prop where
 ks:(st.1.map (·.1)).Nodup
 nd:st.2.Nodup
 sub:∀ t∈st.2,t∈st.1.map (·.1)
 len:st.1.length=n+st.2.length
theorem zSw {n:Nat} {st:Fd} (k:Int) (p:Ye) (h:Sz n st):Sz n (zA9 k st p):=by
 unfold zA9;by_cases q:(zG st.1 p).isSome=true
 .rw[zX2 q];exact h
 .rw[zX5 q];have hn:zG st.1 p=none:=by
   cases e:zG st.1 p with
   |none=>rfl
   |some d=>rw[e]at q;simp at q
  have hk:p∉st.1.map (·.1):=λz=>q (zEB.mpr z);have e:zDX st.1 p (.int k)=st.1++[(p,.int k)]:=by unfold zDX;rw[hn]
  rw[e];refine ⟨?_,?_,?_,?_⟩
  .rw[zYf,zY1];refine ⟨h.ks,by simp,λa ha b hb=>?_⟩;simp at hb;subst hb;intro z;subst z;exact hk ha
  .rw[zY1];refine ⟨h.nd,by simp,λa ha b hb=>?_⟩;simp at hb;subst hb;intro z;subst z;exact hk (h.sub _ ha)
  .intro t ht;rw[zYf,zYD];rcases zYD.mp (show t∈st.2++[p]from ht)with z|z
   .exact .inl (h.sub t z)
   .right;simpa using z
  .rw[zX3,zX3,h.len];simp;omega
theorem zG1 (src:Y1) (k:Int):∀ (gs:Ya) {st:Fd},Sz n st->Sz n (zB4 src k gs st)
 |[],st,h=>h
 |g::r,st,h=>by
  refine zG1 src k r ?_;have:∀ (ps:Ya) {st:Fd},Sz n st->Sz n (ps.foldl (zA9 (k+1)) st):=by
   intro ps;induction ps with
   |nil=>intro st h;exact h
   |cons p ps ih=>intro st h;exact ih (zSw (k+1) p h)
  exact this _ h
theorem zO1 (k:Int) (st:Fd) (p:Ye):st.1.length<=(zA9 k st p).1.length:=by
 unfold zA9;split
 .exact zXt _
 .unfold zDX;cases zG st.1 p <;> simp
theorem zJJ (src:Y1) (k:Int):∀ (gs:Ya) (st:Fd),st.1.length<=(zB4 src k gs st).1.length
 |[],st=>zXt _
 |g::r,st=>by
  have h1:∀ (ps:Ya) (st:Fd),st.1.length<=(ps.foldl (zA9 (k+1)) st).1.length:=by
   intro ps;induction ps with
   |nil=>intro st;exact zXt _
   |cons p ps ih=>intro st;exact zYE (zO1 (k+1) st p) (ih _)
  exact zYE (h1 (src g) st) (zJJ src k r _)
theorem zFy (h:zHz zA l G (Th zA) k fd lev) (hk:(fd.map (·.1)).Nodup):fd.length<=zA.length+zA.length*zA.length:=by
 have hr:(zF zA).length=zA.length:=by unfold zF;simp
 have h1:=zCf (fd.map (·.1)) ((zF zA).map (λr=>[r])++zV (zF zA)) hk λt ht=>by
  have hs:=zEB.mpr ht;cases e:zG fd t with
  |none=>rw[e]at hs;cases hs
  |some d=>
   obtain ⟨u,_⟩:=(h.1 t d).mp e;rw[zYD];by_cases h1:t.length=1
   .obtain ⟨r,rfl⟩:=List.length_eq_one_iff.mp h1;exact .inl (zX4.mpr ⟨r,zBJ.mpr (u.1.mem r (by simp)),rfl⟩)
   .exact .inr (zNd t u h1)
 have h2:=zB3 (zF zA);rw[zXw,zX3,zXw,hr]at h1;rw[hr]at h2;omega
theorem zPn (h:f σ M=some (.dat (.ref j),M)) (hj:M[j]?=some (.lst xs)):zNH f σ M=some (!xs.isEmpty,M):=by
 unfold zNH;rw[h];dsimp only;rw[zf hj]
theorem zSB (zA:Ya) (l:Nat) (g:Ye):(zD8 zA l g).length<=zA.length*zA.length*l:=by
 unfold zD8 zDI;rw[zXw];refine zYE (zZ7 _ _) ?_;rw[zHH];have:=zB3 (zF zA);have hr:(zF zA).length=zA.length:=by unfold zF;simp
 rw[hr]at this;exact Nat.mul_le_mul_right l this
theorem zRj (m:IsM zA l) (oa:zDB zA G) (hR:zA.length<=26) (hl:l<=12) (h1:jf<M0.length) (hd:M0[jd]?=some (dT Ts)) (d1:jd≠jf) (hs:∀ g,(∃ j,zG Ts g=some (.ref j)/\j≠jf/\M0[j]?=some (.lst ((zD8 zA l g).map tI)))\/(zG Ts g=none/\zD8 zA l g=[])) (hf:M0[jf]?=some (dT fd)) (hv:M0[jl]?=some (.lst (lev.map tI))) (l1:jl≠jf) (inv:zHz zA l G (Th zA) 0 fd lev) (nk:(fd.map (·.1)).Nodup) (nl:lev.length<=fd.length) :
  OkS (zBq (zNH (zC 3)) (zW (zj 6 (zA7 zI)) (zW (zDA (zt (zC 3)) (gN 5) (zDA (zt (zB5 (zC 2) (zC 5) (zA7 zI))) (gN 7) (sIf (tst (fOp (zBC true) (zC 7) (zC 4))) (zW (zCO (fOp zAX (fOp zx (zC 4) (zC 5)) (fC (.int 1))) (zC 4) (zC 7)) (zBO (fM zAF (zC 6) (zD (toD (zC 7)) zI)))) zBX))) (zj 3 (zC 6)))) 1000 [some (mD zA),x1,some (.ref jd),some (.ref jl),some (.ref jf),y5,y6,y7] M0)
   λo σ' M'=>o=.nx/\(∃ y3 y5 y6 y7,σ'=[some (mD zA),x1,some (.ref jd),y3,some (.ref jf),y5,y6,y7])/\(∃ fd',M'[jf]?=some (dT fd')/\fd'.length<=702 /\ ∀ t d,zG fd' t=some d ↔ Th zA t /\ ∃ n:Nat,Dst zA l G t n/\d=.int (n:Int))/\M0.length<=M'.length /\ ∀ j,j<M0.length->j≠jf->M'[j]?=M0[j]?:=by
 have hN:zA.length+zA.length*zA.length<=702:=by
  have:=zZP hR hR;omega
 have hB:zA.length*zA.length*l<=8112:=zZP (zZP hR hR) hl;refine zCc (I:=λz σ M=>∃ (jl:Nat) (y5 y6 y7:Option D) (k:Nat) (fd:List (List Int × D)) (lev:Ya),σ=[some (mD zA),x1,some (.ref jd),some (.ref jl),some (.ref jf),y5,y6,y7]/\M[jf]?=some (dT fd)/\M[jl]?=some (.lst (lev.map tI))/\jl≠jf/\zHz zA l G (Th zA) k fd lev/\(fd.map (·.1)).Nodup/\lev.length<=fd.length/\M0.length<=M.length/\(∀ j,j<M0.length->j≠jf->M[j]?=M0[j]?)/\z=(702-fd.length)+(if lev.isEmpty then 0 else 1)) ?_ 1000 ((702-fd.length)+(if lev.isEmpty then 0 else 1)) _ _ (by split <;> omega) ⟨jl,y5,y6,y7,0,fd,lev,rfl,hf,hv,l1,inv,nk,nl,zXt _,λ_ _ _=>rfl,rfl⟩;rintro z σ M ⟨jl,y5,y6,y7,k,fd,lev,rfl,hf,hv,l1,inv,nk,nl,hlen,fr,rfl⟩;have hfl:=zYE (zFy inv nk) hN;refine zE (M:=M) (a:=!(lev.map tI).isEmpty) (zPn rfl hv) ?_;cases lev with
 |nil=>
  exact ⟨rfl,⟨_,_,_,_,rfl⟩,⟨fd,hf,hfl,whole m inv⟩,hlen,fr⟩
 |cons g0 lev0=>
  show OkS (zW _ _ [some (mD zA),x1,some (.ref jd),some (.ref jl),some (.ref jf),y5,y6,y7] M) _;generalize hlv:g0::lev0=lev at *;have hne0:lev.isEmpty=false:=by rw[<-hlv];rfl
  rw[zH,zS];refine zE (M:=M) (a:=.fl []) (by unfold zA7 zI;dsimp only;rw[zX2 (zX (by simp))]) ?_;rw[zGn,zN,zH,zBE];have fl:=(zXq.mp hf).1;have vl:=(zXq.mp hv).1;have up:∀ {j:Nat},j<M.length->(M++[MO.lst ([]:List D)])[j]?=M[j]?:=λh=>zXu h;have dl:=(zXq.mp hd).1;refine ⟨_,_,_,(show zt (zC 3) [some (mD zA),x1,some (.ref jd),some (.ref jl),some (.ref jf),y5,some (.ref M.length),y7] (M++[.lst []])=some (lev.map tI,zDr (.dat (.ref jl)) (lev.map tI),M++[.lst []]) by
   unfold zt;rw[show zC 3 [some (mD zA),x1,some (.ref jd),some (.ref jl),some (.ref jf),y5,some (.ref M.length),y7] (M++[.lst []])=some (.dat (.ref jl),M++[.lst []])from rfl];dsimp only;rw[zf ((up vl).trans hv)]),?_⟩
  have sz0:Sz fd.length (fd,([]:List (List Int))):=⟨nk,by simp,(λt h=>by cases h),by simp⟩;have szw:Sz fd.length (zB4 (zD8 zA l) (k:Int) lev (fd,[])):=zG1 _ _ lev sz0;have hflw:=zYE (zFy (zLb m oa inv) szw.ks) hN;refine OkS.mono (zSX (k:=(k:Int)) (src:=zD8 zA l) (st:=(fd,[])) (Ts:=Ts) (by omega) (by simp;omega) (by simp) ((up (by omega)).trans ((fr _ dl d1).trans hd)) d1 (by omega) ((up vl).trans hv) l1 (by omega) ?_ 8112 (λg _=>zYE (zSB zA l g) hB) ?_ 702 (by omega) (λus vs e=>?_) ⟨(up fl).trans hf,by simp,zXt _,λ_ _ _ _=>rfl⟩) ?_
  .intro g;rcases hs g with ⟨j,e,q1,q2⟩|q
   .have jl':=(zXq.mp q2).1;exact .inl ⟨j,e,q1,by omega,(up (by omega)).trans ((fr _ jl' q1).trans q2)⟩
   .exact .inr q
  .intro g hg;obtain ⟨u,hd'⟩:=(inv.2 g).mp hg;exact (inv.1 g _).mpr ⟨u,k,zXt _,hd',rfl⟩
  .have h3:=zJJ (zD8 zA l) (k:Int) vs (zB4 (zD8 zA l) (k:Int) us (fd,[]));have h4:zB4 (zD8 zA l) (k:Int) vs (zB4 (zD8 zA l) (k:Int) us (fd,[]))=zB4 (zD8 zA l) (k:Int) lev (fd,[]):=by rw[e];unfold zB4;rw[zZl]
   rw[h4]at h3;have h5:=(zG1 (zD8 zA l) (k:Int) us sz0).len;omega
  .rintro o σ' M' ⟨rfl,⟨y5,y7,rfl⟩,lv⟩;rw[zN,zS];refine zE (M:=M') (a:=.dat (.ref M.length)) rfl ?_;rw[zJ];have sz:Sz fd.length (zB4 (zD8 zA l) (k:Int) lev (fd,[])):=zG1 _ _ lev ⟨nk,by simp,(λt h=>by cases h),by simp⟩;have inv':=zLb m oa inv;generalize zB4 (zD8 zA l) (k:Int) lev (fd,[])=st at lv sz inv';have hfl':=zYE (zFy inv' sz.ks) hN;have hsl:=sz.len;refine ⟨(702-st.1.length)+(if st.2.isEmpty then 0 else 1),?_,M.length,y5,_,y7,k+1,st.1,st.2,rfl,lv.f,lv.b,by omega,inv',sz.ks,by omega,?_,?_,rfl⟩
   .rw[hne0];cases e:st.2 with
    |nil=>simp;omega
    |cons a r=>rw[e]at hsl;simp at hsl ⊢;omega
   .have:=lv.len;simp at this;omega
   .intro j hj hjf;rw[lv.fr j (by simp;omega) hjf (by omega),up (by omega)];exact fr j hj hjf
theorem zOd {M:Mem} {ts:Ya} (hf:f σ M=some (.dat (.ref jl),M)) (hj:M[jl]?=some (.lst (ts.map tI))) (nd:ts.Nodup) (hz:ts.length<=80000) (hg:∀ a,gN i a (zBD own σ)=some ((zBD own σ).set i (some a))) (hs:∀ (a:D) M',zC i ((zBD own σ).set i (some a)) M'=some (.dat a,M')) :
  zDG true own (zt f) (gN i) zq (zC i) (fC (.int 0)) σ M=some (.dat (.ref M.length),M++[dT (ts.map λt=>(t,.int 0))]):=by
 have hjl:=(zXq.mp hj).1;unfold zDG zt;rw[hf];dsimp only;rw[zf hj];dsimp only;have loop:∀ (r q:Ya),q++r=ts->zCq (gN i) zq (zC i) (fC (.int 0)) (zBD own σ) M.length (ts.map tI) (zDr (.dat (.ref jl)) (ts.map tI)) (r.map tI) (M++[dT (q.map λt=>(t,.int 0))])=some (M++[dT (ts.map λt=>(t,.int 0))]):=by
  intro r;induction r with
  |nil=>intro q e;rw[zYX]at e;subst e;exact zIo (.inl (by rw[zXu hjl];exact hj))
  |cons x r ih=>
   intro q e;have hx:x∉q:=λz=>by
    rw[<-e,zY1]at nd;exact nd.2.2 x z x zX1 rfl
   have hl:q.length<90000:=by have:=zZa List.length e;simp at this;omega
   have hk:zG (q.map λt=>(t,D.int 0)) x=none:=by
    cases e2:zG (q.map λt=>(t,D.int 0)) x with
    |none=>rfl
    |some d=>
     have:=zEB.mp (show (zG (q.map λt=>(t,D.int 0)) x).isSome=true by rw[e2];rfl);rw[zYB]at this;obtain ⟨y,hy,rfl⟩:=zX4.mp this;exact absurd hy hx
   have hgd:zAr (zDr (.dat (.ref jl)) (ts.map tI)) (ts.map tI) (M++[dT (q.map λt=>(t,.int 0))]):=.inl (by rw[zXu hjl];exact hj);rw[zX6,zMY (σ1:=(zBD own σ).set i (some (tI x))) (k:=tI x) (v:=.int 0) (M':=M++[dT ((q++[x]).map λt=>(t,.int 0))]) hgd (hg _) (hs _ _) rfl]
   .exact ih (q++[x]) (by rw[<-e];simp)
   .rw[zNZ (T:=q.map λt=>(t,.int 0)) (by simp) (by rw[zXw];exact hl)];unfold zDX;rw[hk];simp
 have:=loop ts [] rfl;rw[show zJt true=dT []from rfl];rw[show (([]:List (List Int)).map λt=>(t,D.int 0))=[]from rfl]at this;rw[this]
theorem zEr {zA:Ya} (m:IsM zA l) (oa:zDB zA G) (hR:zA.length<=26) (hl:l<=12) {M:Mem} {ts:Ya} (hj:M[jg]?=some (.lst (ts.map tI))) (nd:ts.Nodup) (hts:∀ t,t∈ts ↔ Th zA t/\G t) (hz:ts.length<=80000):Ok (zBL [mD zA,.ref jg] M) λd M'=>∃ jf,d=.ref jf/\M.length<=jf/\(∃ fd,M'[jf]?=some (dT fd)/\fd.length<=702 /\ ∀ t d,zG fd t=some d ↔ Th zA t /\ ∃ n:Nat,Dst zA l G t n/\d=.int (n:Int))/\M.length<=M'.length /\ ∀ j,j<M.length->M'[j]?=M[j]?:=by
 have hjl:=(zXq.mp hj).1;unfold zBL;rw[zr];unfold zDe;rw[zH,zS];refine zAl.mpr (zE (zY rfl) (Ok.mono (zTX m (by omega) hl) ?_));rintro d M1 ⟨rfl,sr,h1,fr⟩;rw[zJ,zN];refine zA4 (d:=.ref jg) rfl ?_;have hj1:=(fr _ hjl).trans hj;rw[zH,zS];refine zE (zOd (jl:=jg) (ts:=ts) rfl hj1 nd hz (λ_=>rfl) (λ_ _=>rfl)) ?_;rw[zJ,zN];obtain ⟨T,ed,hT,a1,a2,a3⟩:=sr.ex;have up:∀ {j:Nat} {u:MO},M1[j]?=some u->(M1++[dT (ts.map λt=>(t,D.int 0))])[j]?=some u:=λ{j u} h=>by rw[zXu (zXq.mp h).1];exact h
 have ed':=(zXq.mp ed).1;rw[zH];refine OkS.mono (zRj (jf:=M1.length) (jd:=M.length) (jl:=jg) (Ts:=T) (lev:=ts) (fd:=ts.map λt=>(t,D.int 0)) m oa hR hl (by simp) (up ed) (by omega) ?_ (by simp) (up hj1) (by omega) (zOm hts ?_) ?_ (by simp)) ?_
 .intro g;cases e:zG T g with
  |none=>exact .inr ⟨rfl,a2 g e⟩
  |some d=>
   obtain ⟨j,rfl,q1,q2⟩:=a1 g d e;have:=(zXq.mp q2).1;exact .inl ⟨j,rfl,by omega,up q2⟩
 .intro t d;have gen:∀ (ts:Ya),zG (ts.map λt=>(t,D.int 0)) t=some d ↔ t∈ts/\d=.int 0:=by
   intro ts;induction ts with
   |nil=>simp[zG]
   |cons x r ih=>
    rw[zX6,zG];by_cases q:x=t
    .subst q;simp[eq_comm]
    .rw[zX5 q,ih,zXz];constructor
     .rintro ⟨z1,z2⟩;exact ⟨.inr z1,z2⟩
     .rintro ⟨z1|z1,z2⟩
      .exact absurd z1.symm q
      .exact ⟨z1,z2⟩
  exact gen _
 .rw[zYB];rw[show ((λ(x:List Int × D)=>x.1)∘λ(t:Ye)=>(t,D.int 0))=id from rfl,List.map_id];exact nd
 .rintro o σ' M' ⟨rfl,⟨y3,y5,y6,y7,rfl⟩,⟨fd,e1,e2,e3⟩,hlen,fr'⟩;rw[zN];rw[zX3]at hlen fr';refine zAK (d:=.ref M1.length) rfl ⟨M1.length,rfl,by omega,⟨fd,e1,e2,e3⟩,by omega,λj hj=>?_⟩;rw[fr' j (by omega) (by omega),zXu (by omega)];exact fr j hj
noncomputable def zFw:FS:=(zAO (zP zBL (zD (toD (zC 0)) (zD (toD (zo [1] (zAc (zD (toD (fB zAv (zU (zC 0) zk))) zI)) (gN 1) zq (zAq (zD (toD (zC 1)) zI)))) zI))))
noncomputable def zB0:FF:=zA3 2 zFw
theorem zHi (m:IsM zA l) (hR:zA.length<=26) (hl:l<=12):Ok (zB0 [mD zA] M) λd M'=>∃ jf,d=.ref jf/\M.length<=jf/\(∃ fd,M'[jf]?=some (dT fd)/\fd.length<=702 /\ ∀ t d,zG fd t=some d ↔ Th zA t /\ ∃ n:Nat,Dst zA l One t n/\d=.int (n:Int))/\M.length<=M'.length /\ ∀ j,j<M.length->M'[j]?=M[j]?:=by
 unfold zB0;rw[zr];unfold zFw;have er:zAc (zD (toD (fB zAv (zU (zC 0) zk))) zI) [some (mD zA),none] M=some ((List.range zA.length).map (λ(k:Nat)=>D.int k),none,M):=by
  rw[zCk (j:=(zA.length:Int)) (zCI rfl) (by omega) (by omega),zHT];rw[show (zA.length:Int).toNat=zA.length by omega]
 have ec:zo [1] (zAc (zD (toD (fB zAv (zU (zC 0) zk))) zI)) (gN 1) zq (zAq (zD (toD (zC 1)) zI)) [some (mD zA),none] M=some (.fl ((List.range zA.length).map λ(k:Nat)=>tI [(k:Int)]),M) :=
  zAa (List.range zA.length) (λ(k:Nat)=>D.int k) (λ(k:Nat)=>tI [(k:Int)]) er trivial (by rw[zZk];omega) λk _=>⟨_,rfl,rfl⟩
 have el:((List.range zA.length).map λ(k:Nat)=>tI [(k:Int)])=((zF zA).map λr=>[r]).map tI:=by
  unfold zF;rw[zYB,zYB];rfl
 rw[el]at ec;rw[zAk];refine zAl.mpr (zAG.mpr (zAZ.mpr (zAS.mpr ⟨_,rfl,?_⟩)));rw[zJ];refine zAG.mpr (zAZ.mpr (zE ec ?_));rw[zGn,zAe];refine Ok.mono (zEr m zG0 hR hl (jg:=M.length) (ts:=(zF zA).map λr=>[r]) (by simp) ?_ zRK ?_) ?_
 .unfold zF;rw[zYB];exact List.pairwise_map.mpr (zaA (λ{a b} h z=>h (by simp at z;omega)) List.nodup_range)
 .unfold zF;simp;omega
 rintro d M' ⟨jf,rfl,h1,h2,h3,h4⟩;rw[zJ];rw[zX3]at h1 h3 h4;refine ⟨jf,rfl,by omega,h2,by omega,λj hj=>?_⟩;rw[h4 j (by omega),zXu hj]
set_option genInjectivity true in
inductive Climb (zA:Ya) (l:Nat) (G:Yq):List Int->List Int->Prop
 |nil {t:Ye}:G t->Climb zA l G t []
 |cons {t:Ye} {x:Int} {w:Ye} {n:Nat}:Dst zA l G t (n+1)->0<=x->x<(l:Int)->Dst zA l G (setR zA t x) n->(∀ y,0<=y->y<x -> ¬ Dst zA l G (setR zA t y) n)->Climb zA l G (setR zA t x) w->Climb zA l G t (x::w)
theorem zIk:∀ {w t:Ye} {n:Nat},Climb zA l G t w->Dst zA l G t n->w.length=n
 |[],_,_,.nil h,d=>by have:=zAt (zBR.mpr h) d;simpa using this
 |x::w,_,n,.cons (n:=a) d1 _ _ e1 _ c1,d=>by
  have h1:=zIk c1 e1;have h2:=zAt d1 d;rw[zYK];omega
theorem zBM:∀ {w t:Ye},Climb zA l G t w->(∀ x∈w,0<=x/\x<(l:Int))/\G (broR zA t w)
 |[],_,.nil h=>⟨λ_ h=>(by cases h),h⟩
 |x::w,_,.cons _ x0 x1 _ _ c1=>by
  obtain ⟨h1,h2⟩:=zBM c1;refine ⟨λy hy=>?_,h2⟩;rcases zXz.mp hy with rfl|q
  .exact ⟨x0,x1⟩
  .exact h1 y q
theorem zJv {P:Int->Prop}:∀ (k:Nat),P (k:Int) -> ∃ x:Nat,x<=k/\P (x:Int) /\ ∀ y:Int,0<=y->y<(x:Int) -> ¬ P y:=by
 intro k;induction k using Nat.strongRecOn with
 |ind k ih=>
  intro h;by_cases q:∃ j:Nat,j<k/\P (j:Int)
  .obtain ⟨j,hj,hp⟩:=q;obtain ⟨x,h1,h2,h3⟩:=ih j hj hp;exact ⟨x,by omega,h2,h3⟩
  .refine ⟨k,zXt _,h,λy y0 y1 hp=>q ⟨y.toNat,by omega,?_⟩⟩;rw[show ((y.toNat:Nat):Int)=y by omega];exact hp
theorem zDf:∀ (n:Nat) {t:Ye},Dst zA l G t n -> ∃ w,Climb zA l G t w
 |0,t,d=>⟨[],.nil (zBR.mp d)⟩
 |n+1,t,d=>by
  obtain ⟨_,x,hx,hd⟩:=zDK.mp d;obtain ⟨y,h1,h2,h3⟩:=zJv (P:=λx=>Dst zA l G (setR zA t x) n) x.toNat (by rw[show ((x.toNat:Nat):Int)=x by omega];exact hd);obtain ⟨w,hw⟩:=zDf n h2;exact ⟨(y:Int)::w,.cons d (by omega) (by omega) h2 h3 hw⟩
end Lac
namespace Lac
open PySem PySem.Spec PyProof.Rows L2 L3 ST Law
theorem aC' {f:FE} {g:FA} {σ:Sd} {M M1 M2:Mem} {d:D} {ds:List D} (h:toD f σ M=some (d,M1)) (hg:g σ M1=some (ds,M2)):zD (toD f) g σ M=some (d::ds,M2):=by
 unfold zD;rw[h];dsimp only;rw[hg]
theorem zNy (h:f σ M=some (.dat d,M)):toD f σ M=some (d,M):=by unfold toD;rw[h]
theorem zTC {g:FA} {σ:Sd} {M M1:Mem} {ds:List D} (h:g σ M=some (ds,M1)) (hz:ds.length<=100000):zA7 g σ M=some (.fl ds,M1):=by
 unfold zA7;rw[h];dsimp only;rw[zX2 (zX hz)]
theorem zIB {g:FA} {σ:Sd} {M M1:Mem} {ds:List D} (h:g σ M=some (ds,M1)) (hz:ds.length<=100000):zAq g σ M=some (.dat (.tup ds),M1):=by
 unfold zAq;rw[h];dsimp only;rw[zX2 (zX hz)]
theorem zS8 {m:FF} {a:FA} {σ:Sd} {M M1 M':Mem} {ds:List D} {d:D} (h:a σ M=some (ds,M1)) (hm:m ds M1=some (d,M')):zP m a σ M=some (.dat d,M'):=by
 unfold zP;rw[h];dsimp only;rw[hm]
end Lac
namespace Lac
open PySem PySem.Spec PyProof.Rows L2 L3 ST Law
noncomputable def zCg:FS:=(zW (zj 3 (zo [4] (zAc (zD (toD (fB zAv (zU (fOp kIx (zC 0) (fC (.int 0))) zk))) zI)) (gN 4) zq (zP zA1 (zD (toD (zC 0)) (zD (toD (zC 1)) (zD (toD (zC 4)) zI))))))
  (zAO (fB (zC7 false) (zU (zo [4,5] (zGP (zC 3)) (zC0 4 5) (zD3 (tst (fOp (zBC false) (zC 5) (zC 2))) (tst (fOp kEq (fOp zx (zC 2) (zC 5)) (fOp zIE (fOp zx (zC 2) (zC 1)) (fC (.int 1)))))) (zC 4)) zk))))
noncomputable def zAP:FF:=zA3 6 zCg
noncomputable def zE9:FS:=(zW (zj 2 (zo [3] (zt (zP zAE (zD (toD (zP zAD (zD (toD (zC 0)) zI))) zI))) (gN 3) (tst (fOp kGt (zB5 (zC 1) (zC 3) (fC (.int 0))) (fC (.int 0)))) (zC 3)))
  (zAO (zDG true [3] (zt (zC 2)) (gN 3) zq (zC 3) (zAq (zD (toD (fOp zx (zC 1) (zC 3))) (zD (toD (zP zAP (zD (toD (zC 0)) (zD (toD (zC 3)) (zD (toD (zC 1)) zI))))) zI))))))
noncomputable def zBf:FF:=zA3 4 zE9
noncomputable def zKY:FS:=(zAO (zP zBf (zD (toD (zC 0)) (zD (toD (zP zB0 (zD (toD (zC 0)) zI))) zI))))
noncomputable def zFT:FF:=zA3 1 zKY
noncomputable def zEb:FS:=(zW (zj 3 (zA7 zI))
  (zW (zj 4 (zC 2))
  (zW (zBq (tst (fOp (zBC false) (zC 4) (zC 1))) (zW (zj 5 (fOp kIx (fOp zx (zC 1) (zC 4)) (fC (.int 1))))
  (zW (zBO (fM zAF (zC 3) (zD (toD (zC 5)) zI)))
  (zj 4 (zP zA1 (zD (toD (zC 0)) (zD (toD (zC 4)) (zD (toD (zC 5)) zI))))))) 1000)
  (zAO (fB zAR (zU (zC 3) zk))))))
noncomputable def zBG:FF:=zA3 6 zEb
theorem zJY {α:Type} (hgd:zAr gd all M) (enc out:α->D) (keep:α->Bool):∀ (as:List α),(∀ a∈as,∃ σ1,g (enc a) σ=some σ1/\tc σ1 M=some (keep a,M)/\(keep a=true->te σ1 M=some (.dat (out a),M)))->zAx g tc te σ all gd (as.map enc) M=some ((as.filter keep).map out,M)
 |[],_=>by
  rw[List.map_nil];unfold zAx;rw[zX2 hgd];rfl
 |a::r,h=>by
  obtain ⟨σ1,e1,e2,e3⟩:=h a zX1;have ih:=zJY (σ:=σ) hgd enc out keep r λb hb=>h b (zX0 _ hb);rw[zX6];unfold zAx;rw[zX2 hgd,e1];dsimp only;rw[e2];cases hk:keep a with
  |false=>
   dsimp only;rw[ih,List.filter_cons_of_neg (by simp[hk])]
  |true=>
   dsimp only;rw[show toD te σ1 M=some (out a,M) by unfold toD;rw[e3 hk]];dsimp only;rw[ih,List.filter_cons_of_pos hk];rfl
theorem zBg {α:Type} {own:Yj} {fi:FI} {g:FG} {tc:FT} {te:FE} {σ:Sd} {M M1:Mem} {gd:Option (Mem->Prop)} (as:List α) (enc out:α->D) (keep:α->Bool) (hi:fi σ M=some (as.map enc,gd,M1)) (hgd:zAr gd (as.map enc) M1) (hz:as.length<=100000)
  (he:∀ a∈as,∃ σ1,g (enc a) (zBD own σ)=some σ1/\tc σ1 M1=some (keep a,M1)/\(keep a=true->te σ1 M1=some (.dat (out a),M1))):zo own fi g tc te σ M=some (.fl ((as.filter keep).map out),M1) :=
 zT (zC3.mpr ⟨_,_,_,hi,by rw[zXw];exact zX hz,zE (zJY hgd enc out keep as he) ⟨rfl,rfl⟩⟩)
theorem zN3 {f:FE} {σ:Sd} {M M1:Mem} {xs:Ye} (hf:f σ M=some (.fl (xs.map D.int),M1)) (hx:xs≠[]):∃ b,fB (zC7 false) (zU f zk) σ M=some (.dat (.int b),M1)/\b∈xs /\ ∀ y∈xs,b<=y:=by
 cases xs with
 |nil=>exact absurd rfl hx
 |cons x r=>
  obtain ⟨h1,h2⟩:=zCj false r x;refine ⟨zCn false x r,?_,h1,λy hy=>by simpa using h2 y hy⟩;unfold fB zU zk;rw[hf];unfold zC7;dsimp only;rw[zBB]
def zQX (zA:Ya) (l:Nat) (G:Yq) (fd:List (List Int × D)):Prop:=∀ t d,zG fd t=some d ↔ Th zA t /\ ∃ n:Nat,Dst zA l G t n/\d=.int (n:Int)
structure Fst (zA:Ya) (l:Nat) (G:Yq) (p:Ye) (n:Nat) (x:Int):Prop where
 x0:0<=x
 x1:x<(l:Int)
 d:Dst zA l G (setR zA p x) n
 f:∀ y,0<=y->y<x -> ¬ Dst zA l G (setR zA p y) n
noncomputable def isN (n:Nat):Option D->Bool
 |some (.int v)=>decide (v=(n:Int))
 |_=>false
theorem zJ4 (sp:zQX zA l G fd) (u:Th zA t):isN n (zG fd t)=true ↔ Dst zA l G t n:=by
 constructor
 .intro h;cases e:zG fd t with
  |none=>rw[e]at h;cases h
  |some d=>
   obtain ⟨_,k,hk,rfl⟩:=(sp t d).mp e;rw[e]at h;have:(k:Int)=(n:Int):=zYj h;rw[show n=k by omega];exact hk
 .intro h;rw[(sp t _).mpr ⟨u,n,h,rfl⟩];exact zYv rfl
theorem eqE:kEq (.dat (.int a)) (.dat (.int b)) M=some (.dat (.bl (decide (a=b))),M):=zT (zLR.mpr ⟨rfl,rfl⟩)
theorem zXi:zIE (.dat (.int a)) (.dat (.int b)) M=some (.dat (.int (a-b)),M):=rfl
theorem gtE:kGt (.dat (.int a)) (.dat (.int b)) M=some (.dat (.bl (decide (b<a))),M):=rfl
theorem zN7 (ha:a σ M=some (true,M)) (hb:b σ M=some (k,M)):zD3 a b σ M=some (k,M):=by unfold zD3;rw[ha];exact hb
theorem zNk (ha:a σ M=some (false,M)):zD3 a b σ M=some (false,M):=by unfold zD3;rw[ha]
theorem zQ7 {zA:Ya} {l:Nat} {G:Yq} (m:IsM zA l) (hR:zA.length<=26) (hl:l<=12) {M:Mem} {jf:Nat} {fd:List (List Int × D)} (hf:M[jf]?=some (dT fd)) (sp:zQX zA l G fd) {p:Ye} (u:Th zA p) {n:Nat} (hd:Dst zA l G p (n+1)) :
  Ok (zAP [mD zA,tI p,.ref jf] M) λd M'=>∃ x:Int,d=.int x/\Fst zA l G p n x /\ ∃ us,M'=M++us:=by
 unfold zAP;rw[zr];unfold zCg;have hfl:=(zXq.mp hf).1;have er:=zEl (σ:=[some (mD zA),some (tI p),some (.ref jf),none,none,none]) (M:=M) (zN1 m (f:=zC 0) rfl) (by omega) (by omega);rw[show (l:Int).toNat=l by omega]at er;have ec:=zAa (own:=[4]) (g:=gN 4) (te:=zP zA1 (zD (toD (zC 0)) (zD (toD (zC 1)) (zD (toD (zC 4)) zI)))) (List.range l) (λ(k:Nat)=>D.int k) (λ(k:Nat)=>tI (setR zA p (k:Int))) er trivial (by rw[zZk];omega) λk hk=>⟨_,rfl,zh (zg (d:=mD zA) rfl (zg (d:=tI p) rfl (zY (d:=.int (k:Int)) rfl))) (zGv m (by omega) u.1 (by omega) (by have:=zYR.mp hk;omega))⟩;rw[zH,zS];refine zE ec (zd ?_);rw[zN];generalize hA:M++[MO.lst ((List.range l).map λ(k:Nat)=>tI (setR zA p (k:Int)))]=A;have a1:A[M.length]?=some (.lst ((List.range l).map λ(k:Nat)=>tI (setR zA p (k:Int)))):=by rw[<-hA];simp
 have a2:A[jf]?=some (dT fd):=by rw[<-hA,zXu hfl];exact hf
 have hen:zGP (zC 3) [some (mD zA),some (tI p),some (.ref jf),some (.ref M.length),none,none] A=some ((List.range l).map (λ(k:Nat)=>D.tup [.int (k:Nat),tI (setR zA p (k:Int))]),zDr (.dat (.ref M.length)) ((List.range l).map λ(k:Nat)=>tI (setR zA p (k:Int))),A):=by
  unfold zGP;rw[show zC 3 [some (mD zA),some (tI p),some (.ref jf),some (.ref M.length),none,none] A=some (.dat (.ref M.length),A)from rfl];dsimp only;rw[zf a1];dsimp only;congr 2;unfold zJo;rw[zXw,zZk];apply List.ext_getElem?;intro i;by_cases hi:i<l
  .rw[zYA,zYA,List.zip_eq_zipWith,List.getElem?_zipWith,zYA,zZr hi];rfl
  .rw[zYw (by simp;omega),zYw (by simp;omega)]
 have lp:zG fd p=some (.int ((n+1:Nat):Int)):=(sp p _).mpr ⟨u,n+1,hd,rfl⟩;have ef:=zBg (own:=[4,5]) (g:=zC0 4 5) (tc:=zD3 (tst (fOp (zBC false) (zC 5) (zC 2))) (tst (fOp kEq (fOp zx (zC 2) (zC 5)) (fOp zIE (fOp zx (zC 2) (zC 1)) (fC (.int 1)))))) (te:=zC 4) (List.range l) _ (λ(k:Nat)=>D.int (k:Int)) (λ(k:Nat)=>isN n (zG fd (setR zA p (k:Int)))) hen (.inl a1) (by rw[zZk];omega) (λk hk=>by
  have u':=zDh m p (k:Int) u ⟨by omega,by have:=zYR.mp hk;omega⟩;refine ⟨[some (mD zA),some (tI p),some (.ref jf),some (.ref M.length),some (.int (k:Int)),some (tI (setR zA p (k:Int)))],rfl,?_,λ_=>rfl⟩;have e1:fOp (zBC false) (zC 5) (zC 2) [some (mD zA),some (tI p),some (.ref jf),some (.ref M.length),some (.int (k:Int)),some (tI (setR zA p (k:Int)))] A=_:=zL (x:=.dat (tI (setR zA p (k:Int)))) (y:=.dat (.ref jf)) rfl rfl (zMA a2);rw[zX5 (by decide)]at e1;cases e:zG fd (setR zA p (k:Int)) with
  |none=>
   rw[e]at e1;exact zNk (zv e1)
  |some d=>
   obtain ⟨_,v,_,rfl⟩:=(sp _ d).mp e;rw[e]at e1;refine zN7 (zv e1) (zv ?_);refine zL (x:=.dat (.int (v:Int))) (y:=.dat (.int (((n+1:Nat):Int)-1))) (zL (x:=.dat (.ref jf)) (y:=.dat (tI (setR zA p (k:Int)))) rfl rfl (zHZ a2 e)) (zL (x:=.dat (.int ((n+1:Nat):Int))) (y:=.dat (.int 1)) (zL (x:=.dat (.ref jf)) (y:=.dat (tI p)) rfl rfl (zHZ a2 lp)) rfl zXi) ?_;rw[eqE];unfold isN;congr 5;exact propext ⟨λh=>by omega,λh=>by omega⟩)
 rw[show ((List.range l).filter λ(k:Nat)=>isN n (zG fd (setR zA p (k:Int)))).map (λ(k:Nat)=>D.int (k:Int))=(((List.range l).filter λ(k:Nat)=>isN n (zG fd (setR zA p (k:Int)))).map λ(k:Nat)=>(k:Int)).map D.int by rw[zYB];rfl]at ef;obtain ⟨b,eb,hb1,hb2⟩:=zN3 ef (by
  obtain ⟨_,x,hx,hr⟩:=zDK.mp hd;have:((x.toNat:Nat):Int)∈((List.range l).filter λ(k:Nat)=>isN n (zG fd (setR zA p (k:Int)))).map λ(k:Nat)=>(k:Int):=zX4.mpr ⟨x.toNat,zYy.mpr ⟨zYR.mpr (by omega),by rw[show ((x.toNat:Nat):Int)=x by omega];exact (zJ4 sp (zDh m p x u hx)).mpr hr⟩,rfl⟩;exact List.ne_nil_of_mem this)
 obtain ⟨k,hk,rfl⟩:=zX4.mp hb1;obtain ⟨k1,k2⟩:=zYy.mp hk;have k3:=zYR.mp k1;refine zAK eb ⟨(k:Int),rfl,⟨by omega,by omega,(zJ4 sp (zDh m p _ u ⟨by omega,by omega⟩)).mp k2,λy y0 y1 hy=>?_⟩,_,hA.symm⟩;have:=hb2 y (zX4.mpr ⟨y.toNat,zYy.mpr ⟨zYR.mpr (by omega),by rw[show ((y.toNat:Nat):Int)=y by omega];exact (zJ4 sp (zDh m p y u ⟨y0,by omega⟩)).mpr hy⟩,by omega⟩);omega
theorem zMQ (a:Fst zA l G p n x) (b:Fst zA l G p n y):x=y:=by
 rcases Int.lt_trichotomy x y with q|q|q
 .exact absurd a.d (b.f x a.x0 q)
 .exact q
 .exact absurd b.d (a.f y b.x0 q)
open Classical in
noncomputable def zEn (zA:Ya) (l:Nat) (G:Yq) (t:Ye):Nat:=if h:∃ n,Dst zA l G t n then Classical.choose h else 0
open Classical in
noncomputable def zVc (zA:Ya) (l:Nat) (G:Yq) (t:Ye):Int:=if h:∃ x,Fst zA l G t (zEn zA l G t-1) x then Classical.choose h else 0
theorem zEh (h:Dst zA l G t n):zEn zA l G t=n:=by
 unfold zEn;have hx:∃ n,Dst zA l G t n:=⟨n,h⟩;rw[dif_pos hx];exact zAt (Classical.choose_spec hx) h
theorem zLS (h:0<zEn zA l G t):Dst zA l G t (zEn zA l G t):=by
 by_cases hx:∃ n,Dst zA l G t n
 .obtain ⟨n,hn⟩:=hx;rw[zEh hn];exact hn
 .unfold zEn at h;rw[dif_neg hx]at h;omega
theorem zNr (hd:Dst zA l G t (n+1)) (h:Fst zA l G t n x):zVc zA l G t=x:=by
 unfold zVc;rw[zEh hd];have hx:∃ x,Fst zA l G t (n+1-1) x:=⟨x,h⟩;rw[dif_pos hx];exact zMQ (Classical.choose_spec hx) h
noncomputable def zNo (zA:Ya) (l:Nat) (G:Yq) (t:Ye):Bool:=decide (0<zEn zA l G t)
noncomputable def zGM (zA:Ya) (l:Nat) (G:Yq) (t:Ye):D:=.tup [.int (zEn zA l G t:Nat),.int (zVc zA l G t)]
noncomputable def zBU (zA:Ya) (l:Nat) (G:Yq):List (List Int):=(zV (zF zA)).filter (zNo zA l G)
noncomputable def zBo (zA:Ya) (l:Nat) (G:Yq):List (List Int × D):=(zBU zA l G).map λp=>(p,zGM zA l G p)
theorem zLh {f:List Int->D} {t:Ye}:∀ {ps:Ya},zG (ps.map λp=>(p,f p)) t=if t∈ps then some (f t) else none
 |[]=>rfl
 |p::r=>by
  rw[zX6,zG];by_cases h:p=t
  .subst h;rw[zX2 rfl,zX2 zX1]
  .rw[zX5 h,zLh (ps:=r)];by_cases hr:t∈r
   .rw[zX2 hr,zX2 (zX0 _ hr)]
   .rw[zX5 hr,zX5 (by simp[hr,Ne.symm h])]
theorem zTI (h:g∉T.map (·.1)):zDX T g v=T++[(g,v)]:=by
 unfold zDX;cases e:zG T g with
 |none=>rfl
 |some d=>exact absurd (zEB.mp (show (zG T g).isSome=true by rw[e];rfl)) h
theorem zFN (h:xs.Nodup):(zV xs).Nodup:=by
 have gen:∀ r:List Int,r.Nodup->(r.flatMap λa=>(xs.filter λb=>decide (a<b)).map λb=>[a,b]).Nodup:=by
  intro r;induction r with
  |nil=>intro _;simp
  |cons a r ih=>
   intro hr;obtain ⟨h1,h2⟩:=zY7.mp hr;rw[List.flatMap_cons,zY1];refine ⟨?_,ih h2,λu hu v hv=>?_⟩
   .refine List.pairwise_map.mpr (zaA (λ{x y} q z=>q (by simpa using z)) (List.Pairwise.filter _ h))
   .obtain ⟨b,_,rfl⟩:=zX4.mp hu;obtain ⟨c,hc,hv⟩:=List.mem_flatMap.mp hv;obtain ⟨d,_,rfl⟩:=zX4.mp hv;intro z;have:a=c:=by simpa using (zYr z).1
    exact h1 (by rw[this];exact hc)
 exact gen xs h
theorem zGH (zA:Ya):(zF zA).Nodup:=by
 unfold zF;exact List.pairwise_map.mpr (zaA (λ{a b} h z=>h (by omega)) List.nodup_range)
theorem zBH:t∈zBU zA l G ↔ t∈zV (zF zA) /\ ∃ n,Dst zA l G t (n+1):=by
 unfold zBU zNo;rw[zYy];constructor
 .rintro ⟨a,b⟩;have:=zLS (zYj b);exact ⟨a,zEn zA l G t-1,by rw[show zEn zA l G t-1+1=zEn zA l G t by have:=zYj b;omega];exact this⟩
 .rintro ⟨a,n,h⟩;exact ⟨a,zYv (by rw[zEh h];omega)⟩
theorem zUV (hf:f σ M=some (.dat (.ref n),M)) (hn:M[n]?=some (dT T)) (hg:g σ M=some (.dat (tI k),M)):zB5 f g (fC c) σ M=some (.dat ((zG T k).getD c),M):=by
 unfold zB5;rw[show toD f σ M=some (.ref n,M) by unfold toD;rw[hf]];dsimp only;rw[hn];rw[show toD g σ M=some (tI k,M) by unfold toD;rw[hg]];dsimp only;rw[show toD (fC c) σ M=some (c,M)from rfl];dsimp only;rw[dgT hn]
theorem zPG {own:Yj} {i:Nat} {tv:FE} {σ:Sd} {M:Mem} {jl jk:Nat} {K:MO} {ts:Ya} {val:List Int->D} (hj:M[jl]?=some (.lst (ts.map tI))) (hk:M[jk]?=some K) (nd:ts.Nodup) (hz:ts.length<=80000)
  (hg:∀ a,gN i a (zBD own σ)=some ((zBD own σ).set i (some a))) (hs:∀ (a:D) M',zC i ((zBD own σ).set i (some a)) M'=some (.dat a,M'))
  (hv:∀ t∈ts,∀ M':Mem,M'[jk]?=some K -> ∃ us,tv ((zBD own σ).set i (some (tI t))) M'=some (.dat (val t),M'++us)) {n:Nat} (hn:n=M.length) :
  ∃ us,zCq (gN i) zq (zC i) tv (zBD own σ) n (ts.map tI) (zDr (.dat (.ref jl)) (ts.map tI)) (ts.map tI) (M++[dT []])=some (M++dT (ts.map λt=>(t,val t))::us):=by
 subst hn;have hjl:=(zXq.mp hj).1;have hkl:=(zXq.mp hk).1;have loop:∀ (r q:Ya) (ws:Mem),q++r=ts -> ∃ us,zCq (gN i) zq (zC i) tv (zBD own σ) M.length (ts.map tI) (zDr (.dat (.ref jl)) (ts.map tI)) (r.map tI) (M++dT (q.map λt=>(t,val t))::ws)=some (M++dT (ts.map λt=>(t,val t))::us):=by
  intro r;induction r with
  |nil=>
   intro q ws e;rw[zYX]at e;subst e;exact ⟨ws,zIo (.inl (by rw[zXu hjl];exact hj))⟩
  |cons x r ih=>
   intro q ws e;have hx:x∉q:=λz=>by
    rw[<-e,zY1]at nd;exact nd.2.2 x z x zX1 rfl
   have hl:q.length<90000:=by have:=zZa List.length e;simp at this;omega
   obtain ⟨us,hu⟩:=hv x (by rw[<-e];simp) (M++dT (q.map λt=>(t,val t))::ws) (by rw[zXu hkl];exact hk);obtain ⟨vs,hvs⟩:=ih (q++[x]) (ws++us) (by rw[<-e];simp);refine ⟨vs,?_⟩;rw[<-hvs,zX6];have hgd:zAr (zDr (.dat (.ref jl)) (ts.map tI)) (ts.map tI) (M++dT (q.map λt=>(t,val t))::ws):=.inl (by rw[zXu hjl];exact hj);rw[zCq,zX2 hgd,hg];dsimp only;rw[show zq ((zBD own σ).set i (some (tI x))) (M++dT (q.map λt=>(t,val t))::ws)=some (true,M++dT (q.map λt=>(t,val t))::ws)from rfl];dsimp only;rw[show toD (zC i) ((zBD own σ).set i (some (tI x))) (M++dT (q.map λt=>(t,val t))::ws)=some (tI x,M++dT (q.map λt=>(t,val t))::ws) by unfold toD;rw[hs]];dsimp only;rw[show toD tv ((zBD own σ).set i (some (tI x))) (M++dT (q.map λt=>(t,val t))::ws)=some (val x,M++dT (q.map λt=>(t,val t))::ws++us) by unfold toD;rw[hu]];dsimp only;rw[zNZ (T:=q.map λt=>(t,val t)) (by simp) (by rw[zXw];exact hl),zTI (by rw[zYB];simpa using hx)];congr 1;rw[zYt,List.set_append_right _ _ (zXt _)];simp
 exact loop ts [] [] rfl
theorem zGU {zA:Ya} {l:Nat} {G:Yq} (m:IsM zA l) (hR:zA.length<=26) (hl:l<=12) {M:Mem} {jf:Nat} {fd:List (List Int × D)} (hf:M[jf]?=some (dT fd)) (sp:zQX zA l G fd) :
  Ok (zBf [mD zA,.ref jf] M) λd M'=>∃ jr us,d=.ref jr/\M'=M++us/\M.length<=jr/\M'[jr]?=some (dT (zBo zA l G)):=by
 unfold zBf;rw[zr];unfold zE9;have hfl:=(zXq.mp hf).1;have hrl:(zF zA).length=zA.length:=by unfold zF;simp
 have epr:=zEA (xs:=zF zA) (by omega) (M:=M);have ei:zt (zP zAE (zD (toD (zP zAD (zD (toD (zC 0)) zI))) zI)) [some (mD zA),some (.ref jf),none,none] M=_:=zEe (zY (d:=tI (zF zA)) (zh (zY (d:=mD zA) rfl) (zDM (by omega)))) epr (zc _ _);have hPl:(zV (zF zA)).length<=676:=by
  have h1:=zB3 (zF zA);rw[hrl]at h1;exact zYE h1 (zZP hR hR)
 generalize hA:M++[MO.lst ((zV (zF zA)).map tI)]=A at ei;have a1:A[M.length]?=some (.lst ((zV (zF zA)).map tI)):=by rw[<-hA];simp
 have a2:A[jf]?=some (dT fd):=by rw[<-hA,zXu hfl];exact hf
 have ef:=zBg (own:=[3]) (g:=gN 3) (tc:=tst (fOp kGt (zB5 (zC 1) (zC 3) (fC (.int 0))) (fC (.int 0)))) (te:=zC 3) (zV (zF zA)) tI tI (zNo zA l G) ei (.inl a1) (by omega) (λp hp=>by
  refine ⟨[some (mD zA),some (.ref jf),none,some (tI p)],rfl,zv ?_,λ_=>rfl⟩;have e1:zB5 (zC 1) (zC 3) (fC (.int 0)) [some (mD zA),some (.ref jf),none,some (tI p)] A=_:=zUV (k:=p) rfl a2 rfl;unfold zNo;cases e:zG fd p with
  |none=>
   rw[e]at e1;rw[zL (x:=.dat (.int 0)) (y:=.dat (.int 0)) e1 rfl gtE];have:¬ 0<zEn zA l G p:=λh=>by
    rw[(sp p _).mpr ⟨zBp p hp,_,zLS h,rfl⟩]at e;cases e
   rw[zYM this];rfl
  |some d=>
   obtain ⟨_,v,hv,rfl⟩:=(sp _ d).mp e;rw[e]at e1;rw[zL (x:=.dat (.int (v:Int))) (y:=.dat (.int 0)) e1 rfl gtE,zEh hv];congr 5;exact propext ⟨λh=>by omega,λh=>by omega⟩)
 rw[zH,zS];refine zE ef (zd ?_);rw[zN];show OkS (zAO _ [some (mD zA),some (.ref jf),some (.ref A.length),none] (A++[.lst ((zBU zA l G).map tI)])) _;have nd:(zBU zA l G).Nodup:=List.Pairwise.filter _ (zFN (zGH zA));have hrl2:(zBU zA l G).length<=676:=zYE (zZ7 _ _) hPl;generalize hB:A++[MO.lst ((zBU zA l G).map tI)]=B;have b1:B[A.length]?=some (.lst ((zBU zA l G).map tI)):=by rw[<-hB];simp
 have b2:B[jf]?=some (dT fd):=by rw[<-hB,zXu (zXq.mp a2).1];exact a2
 obtain ⟨us,hu⟩:=zPG (own:=[3]) (i:=3) (σ:=[some (mD zA),some (.ref jf),some (.ref A.length),none]) (tv:=zAq (zD (toD (fOp zx (zC 1) (zC 3))) (zD (toD (zP zAP (zD (toD (zC 0)) (zD (toD (zC 3)) (zD (toD (zC 1)) zI))))) zI))) (val:=zGM zA l G) b1 b2 nd (by omega) (λ_=>rfl) (λ_ _=>rfl) (λt ht M' hM=>by
  obtain ⟨ht1,n,hn⟩:=zBH.mp ht;obtain ⟨d,M2,e,x,rfl,fx,us,rfl⟩:=zQ7 m hR hl hM sp (zBp t ht1) hn;refine ⟨us,?_⟩;show zAq _ [some (mD zA),some (.ref jf),some (.ref A.length),some (tI t)] M'=_;have e1:fOp zx (zC 1) (zC 3) [some (mD zA),some (.ref jf),some (.ref A.length),some (tI t)] M'=some (.dat (.int ((n+1:Nat):Int)),M'):=zL (x:=.dat (.ref jf)) (y:=.dat (tI t)) rfl rfl (zHZ hM ((sp t _).mpr ⟨zBp t ht1,n+1,hn,rfl⟩));have e2:zP zAP (zD (toD (zC 0)) (zD (toD (zC 3)) (zD (toD (zC 1)) zI))) [some (mD zA),some (.ref jf),some (.ref A.length),some (tI t)] M'=some (.dat (.int x),M'++us):=zh (zg (d:=mD zA) rfl (zg (d:=tI t) rfl (zY (d:=.ref jf) rfl))) e;rw[zIB (aC' (zNy e1) (zUB e2)) (by simp)];unfold zGM;rw[zEh hn,zNr hn fx]) rfl
 have ed:zDG true [3] (zt (zC 2)) (gN 3) zq (zC 3) (zAq (zD (toD (fOp zx (zC 1) (zC 3))) (zD (toD (zP zAP (zD (toD (zC 0)) (zD (toD (zC 3)) (zD (toD (zC 1)) zI))))) zI))) [some (mD zA),some (.ref jf),some (.ref A.length),none] B=some (.dat (.ref B.length),B++dT (zBo zA l G)::us):=by
  unfold zDG zt;rw[show zC 2 [some (mD zA),some (.ref jf),some (.ref A.length),none] B=some (.dat (.ref A.length),B)from rfl];dsimp only;rw[zf b1];dsimp only;rw[show zJt true=dT []from rfl,hu];rfl
 rw[zAk];refine zE ed ⟨B.length,[MO.lst ((zV (zF zA)).map tI)]++([MO.lst ((zBU zA l G).map tI)]++dT (zBo zA l G)::us),rfl,by rw[<-hB,<-hA];simp only[zYt],?_,by simp⟩;rw[<-hB,<-hA];simp only[zX3];omega
theorem zRS (m:IsM zA l) (hR:zA.length<=26) (hl:l<=12) :
  Ok (zFT [mD zA] M) λd M'=>∃ jr,d=.ref jr/\M.length<=jr/\M'[jr]?=some (dT (zBo zA l One))/\M.length<=M'.length /\ ∀ j,j<M.length->M'[j]?=M[j]?:=by
 unfold zFT;rw[zr];unfold zKY;obtain ⟨d,M1,e,jf,rfl,h1,⟨fd,h2,_,sp⟩,h3,h4⟩:=zHi m hR hl (M:=M);obtain ⟨d2,M2,e2,jr,us,rfl,rfl,q1,q2⟩:=zGU m hR hl h2 sp;rw[zAk];have ec:zP zBf (zD (toD (zC 0)) (zD (toD (zP zB0 (zD (toD (zC 0)) zI))) zI)) [some (mD zA)] M=some (.dat (.ref jr),M1++us):=by
  exact zS8 (aC' (zNy (d:=mD zA) rfl) (zUB (zh (zY (d:=mD zA) rfl) e))) e2
 refine zE ec ⟨jr,rfl,by omega,q2,by rw[zX3];omega,λj hj=>?_⟩;rw[zXu (by omega)];exact h4 j hj
theorem zJK (m:IsM zA l) (o:zDB zA G):∀ (n:Nat) (t:Ye),Th zA t->Dst zA l G t n -> ∃ ts:List (List Int),ts.length=n/\ts.Nodup /\ ∀ s∈ts,s∈zV (zF zA) /\ ∃ k,k<=n/\Dst zA l G s k
 |0,_,_,_=>⟨[],rfl,List.nodup_nil,λ_ h=>by cases h⟩
 |n+1,t,u,d=>by
  obtain ⟨q,x,hx,hd⟩:=zDK.mp d;obtain ⟨ts,h1,h2,h3⟩:=zJK m o n (setR zA t x) (zDh m t x u hx) hd;refine ⟨t::ts,by simp[h1],zY7.mpr ⟨λz=>?_,h2⟩,λs hs=>?_⟩
  .obtain ⟨_,k,hk,hk2⟩:=h3 t z;have:=zAt hk2 d;omega
  .rcases zXz.mp hs with rfl|z
   .exact ⟨zF8 m o s (n+1) u (λg=>by have:=zAt (zBR.mpr g) d;omega) d.1,n+1,zXt _,d⟩
   .obtain ⟨a,k,hk,b⟩:=h3 s z;exact ⟨a,k,by omega,b⟩
theorem zMK (m:IsM zA l) (o:zDB zA G) (u:Th zA t) (d:Dst zA l G t n):n<=(zV (zF zA)).length:=by
 obtain ⟨ts,h1,h2,h3⟩:=zJK m o n t u d;rw[<-h1];exact zCf ts _ h2 λs hs=>(h3 s hs).1
theorem zCb (hR:zA.length<=26):(zV (zF zA)).length<=676:=by
 have h1:=zB3 (zF zA);have hrl:(zF zA).length=zA.length:=by unfold zF;simp
 rw[hrl]at h1;exact zYE h1 (zZP hR hR)
theorem zF9 (c:Climb zA l G t w):Dst zA l G t w.length:=by
 cases c with
 |nil g=>exact zBR.mpr g
 |cons d x0 x1 e f c=>rw[zYK,zIk c e];exact d
theorem zDN:zG (zBo zA l G) t=if t∈zBU zA l G then some (zGM zA l G t) else none:=zLh
theorem zHc (m:IsM zA l) (o:zDB zA G) (hR:zA.length<=26) (hr:M[jr]?=some (dT (zBo zA l G))) (u:Th zA p) (c:Climb zA l G p w) :
  Ok (zBG [mD zA,.ref jr,tI p] M) λd M'=>d=tI w /\ ∃ us,M'=M++us:=by
 have hrl:=(zXq.mp hr).1;have hw:w.length<=676:=zYE (zMK m o u (zF9 c)) (zCb hR);unfold zBG;rw[zr];unfold zEb;rw[zH,zS];refine zE (M:=M) (a:=.fl []) (zTC rfl (by simp)) (zd ?_);rw[zN];refine zA4 (d:=tI p) rfl ?_;rw[zH];refine zCc (I:=λz σ M'=>∃ (w1 w2 here:Ye) (y:Option D),w=w1++w2/\Climb zA l G here w2/\Th zA here/\z=w2.length/\σ=[some (mD zA),some (.ref jr),some (tI p),some (.ref M.length),some (tI here),y]/\M'=M++[.lst (w1.map D.int)]) ?_ 1000 w.length _ _ (by omega) ⟨[],w,p,none,rfl,c,u,rfl,rfl,rfl⟩;rintro z σ M' ⟨w1,w2,here,y,hw12,c2,u2,rfl,rfl,rfl⟩;have hM:(M++[MO.lst (w1.map D.int)])[jr]?=some (dT (zBo zA l G)):=by rw[zXu hrl];exact hr
 have hL:(M++[MO.lst (w1.map D.int)])[M.length]?=some (.lst (w1.map D.int)):=by simp
 have et:tst (fOp (zBC false) (zC 4) (zC 1)) [some (mD zA),some (.ref jr),some (tI p),some (.ref M.length),some (tI here),y] (M++[MO.lst (w1.map D.int)])=some ((zG (zBo zA l G) here).isSome,M++[MO.lst (w1.map D.int)]):=by
  have:=zL (k:=zBC false) (f:=zC 4) (g:=zC 1) (σ:=[some (mD zA),some (.ref jr),some (tI p),some (.ref M.length),some (tI here),y]) (x:=.dat (tI here)) (y:=.dat (.ref jr)) rfl rfl (zMA hM);rw[zX5 (by decide)]at this;exact zv this
 refine zE et ?_;cases c2 with
 |nil g=>
  have hlk:zG (zBo zA l G) here=none:=by rw[zDN,zX5 (λh=>by obtain ⟨_,n,hn⟩:=zBH.mp h;have:=zAt (zBR.mpr g) hn;omega)]
  rw[hlk];rw[zYX]at hw12;subst hw12;exact zAK (d:=tI w) (zAw (f:=zC 3) rfl (zf hL)) ⟨rfl,_,rfl⟩
 | @cons _ x w3 n d x0 x1 e f c3=>
  have hp:=zF8 m o here (n+1) u2 (λg=>by have:=zAt (zBR.mpr g) d;omega) d.1;have hin:here∈zBU zA l G:=zBH.mpr ⟨hp,n,d⟩;have fx:Fst zA l G here n x:=⟨x0,x1,e,f⟩;have hv:zGM zA l G here=.tup [.int ((n+1:Nat):Int),.int x]:=by unfold zGM;rw[zEh d,zNr d fx]
  have hlk:zG (zBo zA l G) here=some (.tup [.int ((n+1:Nat):Int),.int x]):=by rw[zDN,zX2 hin,hv]
  rw[hlk];have hlen:=zZa List.length hw12;rw[zX3,zYK]at hlen;refine zA4 (d:=.int x) (zL (x:=.dat (.tup [.int ((n+1:Nat):Int),.int x])) (y:=.dat (.int 1)) (zL (x:=.dat (.ref jr)) (y:=.dat (tI here)) rfl rfl (zHZ hM hlk)) rfl (zBN zu rfl)) ?_;rw[zH,zBV];refine zGe.mpr (zE (a:=.dat (.ref M.length)) (M:=M++[MO.lst (w1.map D.int)]) rfl ⟨⟨_,zAW hL⟩,zE (zY (d:=.int x) rfl) ((zBl hL (by rw[zXw];exact zYC (show w1.length<1000 by omega) (zX (by omega)))).mpr ?_)⟩);rw[zN];have hset:(M++[MO.lst (w1.map D.int)]).set M.length (.lst (w1.map D.int++[.int x]))=M++[MO.lst ((w1++[x]).map D.int)]:=by
   rw[List.set_append_right _ _ (zXt _)];simp
  rw[hset,zS];refine zE (zh (zg (d:=mD zA) rfl (zg (d:=tI here) rfl (zY (d:=.int x) rfl))) (zGv m (by omega) u2.1 x0 x1)) ?_;exact ⟨w3.length,by simp,w1++[x],w3,setR zA here x,some (.int x),by rw[hw12];simp,c3,zDh m here x u2 ⟨x0,x1⟩,rfl,rfl,rfl⟩
noncomputable def zCQ (a b:Int):List Int:=[if b<a then b else a,if b>a then b else a]
abbrev Wd (l:Nat) (w:Ye):Prop:=∀ x∈w,0<=x/\x<(l:Int)
theorem zVU (h:Wd l u) (g:Wd l v):Wd l (u++v):=λx hx=>(zYD.mp hx).elim (h x) (g x)
theorem zKe:(ris [a,b]).length=1 ↔ a=b:=by
 constructor
 .intro h;obtain ⟨r,e⟩:=List.length_eq_one_iff.mp h;have ha:a∈ris [a,b]:=(zBs _ _).mpr (by simp);have hb:b∈ris [a,b]:=(zBs _ _).mpr (by simp);rw[e,zYF]at ha hb;rw[ha,hb]
 .rintro rfl;rw[show ris [a,a]=ris [a]from zFa (by simp),zJq (by simp)];rfl
theorem zLB (h:a≠b):(zCQ a b).Pairwise (· < ·):=by
 unfold zCQ;simp only[zZx,zYF,forall_eq,zYI,false_implies,implies_true,List.Pairwise.nil,and_true];split <;> split <;> omega
theorem zQE (h:a≠b) (w:Ye):broR zA (zCQ a b) w=ris [zAg zA a w,zAg zA b w]:=by
 rw[zCC (zLB h)];apply zFa;intro x;unfold zCQ;by_cases q:b<a
 .rw[zX2 q,zX5 (by omega)];simp[or_comm]
 .rw[zX5 q,zX2 (by omega)];simp
theorem zNg (h:a≠b) (w:Ye):One (broR zA (zCQ a b) w) ↔ zAg zA a w=zAg zA b w:=by
 unfold One;rw[zQE h];exact zKe
end Lac
namespace Lac
open PySem PySem.Spec PyProof.Rows L2 L3 ST Law
noncomputable def zPv:D->Bool
 |.non|.bl _|.int _=>true
 |_=>false
theorem zLW (h:zPv d=true):(zGJ d).isSome=true:=by cases d <;> first|rfl|cases h
theorem zPp (h:zPv d=true):kEq (.dat d) (.dat d) M=some (.dat (.bl true),M):=zRX (zLW h)
theorem zTi (n:Nat) (ps:Ya):D.unds n (ps.map tI)=true:=by
 induction ps with
 |nil=>rfl
 |cons p r ih=>rw[zX6];unfold D.unds;rw[ih,show D.und n (tI p)=true from zAC p];rfl
theorem zO4 (h:p≠q):zCQ p q=ris [p,q]:=by
 refine (zJq (zLB h)).symm.trans (zFa λx=>?_);unfold zCQ;by_cases z:q<p
 .rw[zX2 z,zX5 (by omega)];simp[or_comm]
 .rw[zX5 z,zX2 (by omega)]
end Lac
namespace Lad
open PySem PySem.Spec PyProof.Rows L2 L3 ST Law
noncomputable def zD9:FS:=(zW (zj 1 (fC (.int 7)))
  (zW (zDA (zt (fSl (zC 0) zBy (zBZ (fC (.int 63))))) (gN 2) (zj 1 (fOp zDy (fOp zAX (fOp zAX (fOp zMH (zC 1) (fC (.int 6364136223846793005))) (zC 2)) (fC (.int 1442695040888963407))) (fC (.int 2305843009213693951)))))
  (zAO (zKP "great" (zo [2] (zt (fSl (zC 0) zBy (zBZ (fC (.int 63))))) (gN 2) (tst (fOp kGe (zC 2) (fOp zOE (fC (.int 10)) (fC (.int 18))))) (zC 2)) "seed" (zC 1)))))
noncomputable def zCG:FF:=zA3 3 zD9
noncomputable def zE6:FS:=(zW (sIf (tst (fOp kNe (fOp zx (zC 0) (fC (.str "great"))) (zA7 zI))) (zW (zj 2 (fOp zDy (fOp kIx (fOp zx (zC 0) (fC (.str "great"))) (fC (.int 0))) (zC 1)))
  (zW (zMa (fOp zM9 (fOp kIx (fOp zx (zC 0) (fC (.str "great"))) (fC (.int 0))) (zC 1)) (fOp zx (zC 0) (fC (.str "great"))) (fC (.int 0)))
  (zW (sIf (tst (fOp kEq (fOp kIx (fOp zx (zC 0) (fC (.str "great"))) (fC (.int 0))) (fC (.int 0)))) (zBO (fM zIb (fOp zx (zC 0) (fC (.str "great"))) (zD (toD (fC (.int 0))) zI))) zBX)
  (zAO (zC 2))))) zBX)
  (zW (zCO (fOp zDy (fOp zAX (fOp zMH (fOp zx (zC 0) (fC (.str "seed"))) (fC (.int 3935559000370003845))) (fC (.int 2691343689449507681))) (fC (.int 2305843009213693951))) (zC 0) (fC (.str "seed")))
  (zW (zj 3 (fOp zM9 (fOp zx (zC 0) (fC (.str "seed"))) (fC (.int 65537))))
  (zAO (fOp zDy (fOp zM9 (fOp zDy (fOp zMH (zC 3) (zC 3)) (fC (.int 998244353))) (fC (.int 3))) (zC 1))))))
noncomputable def ze:FF:=zA3 4 zE6
noncomputable abbrev gS (k:Nat) (s:Int):MO:=.dict [(.str "great", .ref k),(.str "seed", .int s)]
structure Gen (M:Mem) (n k:Nat):Prop where
 ex:∃ (c:Ye) (s:Int),M[n]?=some (gS k s)/\M[k]?=some (.lst (c.map D.int))/\(∀ x∈c,0<=x)/\c.length<=63/\0<=s/\s<2305843009213693951
 ne:n≠k
 wf:∀ (j:Nat) u,M[j]?=some u->MO.und M.length u=true
structure Nw (M M':Mem) (n k:Nat):Prop where
 gen:Gen M' n k
 len:M.length<=M'.length
 fr:∀ j,j<M.length->j≠n->j≠k->M'[j]?=M[j]?
theorem Nw.refl (h:Gen M n k):Nw M M n k:=⟨h,zXt _,λ_ _ _ _=>rfl⟩
theorem Nw.trans {M M1 M2:Mem} {n k:Nat} (a:Nw M M1 n k) (b:Nw M1 M2 n k):Nw M M2 n k :=
 ⟨b.gen,zYE a.len b.len,λj h h1 h2=>(b.fr j (zYC h a.len) h1 h2).trans (a.fr j h h1 h2)⟩
theorem Gen.lt (h:Gen M n k):n<M.length/\k<M.length:=by
 obtain ⟨c,s,e1,e2,_⟩:=h.ex;exact ⟨(zXq.mp e1).1,(zXq.mp e2).1⟩
theorem zRz (hk:k<N):MO.und N (gS k s)=true:=by
 unfold MO.und;simp[D.und,hk]
theorem Gen.put {M:Mem} (h:Gen M n k) {c:Ye} (hc:∀ x∈c,0<=x) (hl:c.length<=63) (h0:0<=s) (h1:s<2305843009213693951) :
  Nw M ((M.set k (.lst (c.map D.int))).set n (gS k s)) n k:=by
 obtain ⟨hn,hk⟩:=h.lt;refine ⟨⟨⟨c,s,?_,?_,hc,hl,h0,h1⟩,h.ne,λj u e=>?_⟩,by simp,λj _ h1 h2=>?_⟩
 .rw[zYh (by simpa using hn)]
 .rw[zYH h.ne,zYh hk]
 .rw[List.length_set,List.length_set];rw[zZM]at e;split at e
  .split at e
   .cases e;exact zRz hk
   .cases e
  .rw[zZM]at e;split at e
   .rename_i z;subst z;cases e;exact zm _ _
   .exact h.wf j u e
 .rw[zYH (Ne.symm h1),zYH (Ne.symm h2)]
theorem Gen.app (h:Gen A n k) (hu:∀ u∈us,MO.und (A.length+us.length) u=true):Nw A (A++us) n k:=by
 obtain ⟨c,s,e1,e2,r⟩:=h.ex;obtain ⟨hn,hk⟩:=h.lt;refine ⟨⟨⟨c,s,by rw[zXu hn];exact e1,by rw[zXu hk];exact e2,r⟩,h.ne,λj u e=>?_⟩,by simp,λj hj _ _=>zXu hj⟩;rw[zX3];by_cases hj:j<A.length
 .rw[zXu hj]at e;exact zOW (by omega) (h.wf j u e)
 .rw[zYx (by omega)]at e;exact hu u (zYe e)
theorem Gen.lst (h:Gen A n k) (xs:List D) (hx:D.unds A.length xs=true):Nw A (A++[.lst xs]) n k:=h.app λu hu=>by
 have:u=.lst xs:=by simpa using hu
 subst this;exact zCe (by simp) hx
theorem Nw.setB (h:Nw M A n k) (g:Gen M n k) (hj:M.length<=j) (hu:MO.und A.length u=true):Nw M (A.set j u) n k:=by
 obtain ⟨hn,hk⟩:=g.lt;obtain ⟨c,s,e1,e2,r⟩:=h.gen.ex;refine ⟨⟨⟨c,s,by rw[zYH (by omega)];exact e1,by rw[zYH (by omega)];exact e2,r⟩,g.ne,λi v e=>?_⟩,by rw[List.length_set];exact h.len,λi hi h1 h2=>by rw[zYH (by omega)];exact h.fr i hi h1 h2⟩;rw[List.length_set];rw[zZM]at e;split at e
 .split at e
  .cases e;exact hu
  .cases e
 .exact h.gen.wf i v e
theorem Nw.wf0 (h:Nw M M' n k) (g:Gen M n k):∀ (j:Nat) u,j<M.length->M'[j]?=some u->MO.und M.length u=true:=λj u hj e=>by
 obtain ⟨hn,hk⟩:=g.lt;obtain ⟨c,s,e1,e2,r⟩:=h.gen.ex;by_cases q1:j=n
 .subst q1;rw[e1]at e;cases e;exact zRz hk
 .by_cases q2:j=k
  .subst q2;rw[e2]at e;cases e;exact zm _ _
  .rw[h.fr j hj q1 q2]at e;exact g.wf j u e
theorem Nw.trim (h:Nw M M' n k) (g:Gen M n k):Nw M (M'.take M.length) n k:=by
 obtain ⟨hn,hk⟩:=g.lt;have tk:∀ j,j<M.length->(M'.take M.length)[j]?=M'[j]?:=λj hj=>List.getElem?_take_of_lt hj;have tl:(M'.take M.length).length=M.length:=by have:=h.len;rw[zZB];omega
 obtain ⟨c,s,e1,e2,r⟩:=h.gen.ex;refine ⟨⟨⟨c,s,(tk n hn).trans e1,(tk k hk).trans e2,r⟩,g.ne,λj u e=>?_⟩,by omega,λj hj h1 h2=>(tk j hj).trans (h.fr j hj h1 h2)⟩;have hj:j<M.length:=by have:=(zXq.mp e).1;omega
 rw[tk j hj]at e;rw[tl];exact h.wf0 g j u hj e
theorem Nw.get (h:Nw M M' n k) (e:M[j]?=some u) (h1:j≠n) (h2:j≠k):M'[j]?=some u :=
 (h.fr j (zXq.mp e).1 h1 h2).trans e
theorem zI3 (hf:f σ M=some (.dat (.ref n),M)) (hM:M[n]?=some (gS k s)):fOp zx f (fC (.str "great")) σ M=some (.dat (.ref k),M)/\fOp zx f (fC (.str "seed")) σ M=some (.dat (.int s),M):=by
 constructor
 .refine zL hf rfl ?_;unfold zx zDJ;dsimp only;rw[hM];rfl
 .refine zL hf rfl ?_;unfold zx zDJ;dsimp only;rw[hM];rfl
theorem zXM (hM:M[n]?=some (gS k s)):zEJ M n (.str "seed") (.int s')=some (M.set n (gS k s')):=by
 unfold zEJ;rw[hM];dsimp only[zCR];rw[zX2 (show [(D.str (Str.ofString "great"),D.ref k),(D.str (Str.ofString "seed"),D.int s)].length<sizeLine from zX (n:=3) (by omega))];rfl
theorem zRN (h1:fv σ M=some (.dat v,M)) (h2:fo σ M=some (.dat (.ref n),M)) (h3:fi σ M=some (.dat k,M)) (h4:zEJ M n k v=some M4) (q:P .nx σ M4):OkS (zCO fv fo fi σ M) P:=by
 refine ⟨.nx,σ,M4,?_,q⟩;unfold zCO toD;rw[h1];dsimp only;rw[h2];dsimp only;rw[h3];dsimp only;rw[h4]
theorem zER (h:0<b):zDy (.dat (.int a)) (.dat (.int b)) M=some (.dat (.int (a % b)),M):=zT (zT6.mpr ⟨h,rfl,rfl⟩)
theorem zQZ (h:0<b/\b<1073741824):zM9 (.dat (.int a)) (.dat (.int b)) M=some (.dat (.int (a / b)),M):=zT (zTz.mpr ⟨h,rfl,rfl⟩)
theorem zNs {M:Mem} (h:Gen M n k) (h0:0<m) (h1:m<1073741824) :
  Ok (ze [.ref n,.int m] M) λd M'=>(∃ i,d=.int i/\0<=i/\i<m)/\Nw M M' n k/\M'.length=M.length:=by
 unfold ze;rw[zr];unfold zE6;obtain ⟨c,s,e1,e2,e3,e4,e5,e6⟩:=h.ex;obtain ⟨hn,hk⟩:=h.lt;rw[zH,zAu];have ne:Ok (tst (fOp kNe (fOp zx (zC 0) (fC (.str "great"))) (zA7 zI)) [some (.ref n),some (.int m),none,none] M) λb M'=>b=(!c.isEmpty)/\M'=M:=by
  refine zJy.mpr (zBT.mpr (zE (zI3 rfl e1).1 (zDs.mpr (zAe.mpr ⟨zYZ _,?_⟩))));rw[zSZ (zAW e2) (by intro d e;cases e;rfl)];rw[zJs];exact ⟨by simp,rfl⟩
 refine Ok.mono ne ?_;rintro b M' ⟨rfl,rfl⟩;cases c with
 |nil=>
  simp only[List.isEmpty_nil,Bool.not_true,zYo,if_false];rw[zAf,zN,zH];have hs0:0<=(s*3935559000370003845+2691343689449507681) % 2305843009213693951:=Int.emod_nonneg _ (by decide);have hs1:(s*3935559000370003845+2691343689449507681) % 2305843009213693951<2305843009213693951:=Int.emod_lt_of_pos _ (by decide);have ev:fOp zDy (fOp zAX (fOp zMH (fOp zx (zC 0) (fC (.str "seed"))) (fC (.int 3935559000370003845))) (fC (.int 2691343689449507681))) (fC (.int 2305843009213693951)) [some (.ref n),some (.int m),none,none] M'=some (.dat (.int ((s*3935559000370003845+2691343689449507681) % 2305843009213693951)),M') :=
   zL (zL (zL (zI3 rfl e1).2 rfl (zT (zQ9.mpr ⟨by simp[zOZ] <;> omega,rfl,rfl⟩))) rfl rfl) rfl (zER (by decide))
  generalize (s*3935559000370003845+2691343689449507681) % 2305843009213693951=s' at hs0 hs1 ev;refine zRN ev rfl rfl (zXM e1) ?_;rw[zN];have P:=h.put (c:=[]) (s:=s') (λ_ h=>by cases h) (by simp) hs0 hs1;rw[zLJ (show M'[k]?=some (.lst (([]:List Int).map D.int))from e2)]at P;have e1':(M'.set n (gS k s'))[n]?=some (gS k s'):=zYh hn;refine zA4 (zL (zI3 rfl e1').2 rfl (zQZ ⟨by decide,by decide⟩)) ?_;have hm0:0<=s' / 65537:=Int.ediv_nonneg hs0 (by decide);have hm1:s' / 65537<2305843009213693951:=by omega
  refine zAK (zL (zL (zL (zL (x:=.dat (.int (s' / 65537))) (y:=.dat (.int (s' / 65537))) rfl rfl (zT (zQ9.mpr ⟨by simp[zOZ] <;> omega,rfl,rfl⟩))) rfl (zER (by decide))) rfl (zQZ ⟨by decide,by decide⟩)) rfl (zER h0)) ?_;exact ⟨⟨_,rfl,Int.emod_nonneg _ (by omega),Int.emod_lt_of_pos _ h0⟩,P,by simp⟩
 |cons x c=>
  simp only[List.isEmpty_cons,Bool.not_false,if_true];have hd:∀ {x:Int} {c:List Int} {M:Mem} {σ:Sd},zC 0 σ M=some (.dat (.ref n),M)->M[n]?=some (gS k s)->M[k]?=some (.lst ((x::c).map D.int))->fOp kIx (fOp zx (zC 0) (fC (.str "great"))) (fC (.int 0)) σ M=some (.dat (.int x),M):=λ{x c M σ} hf hM hK=>
   zL (zI3 hf hM).1 rfl (zBN (zf hK) at0)
  refine zA4 (zL (hd rfl e1 e2) rfl (zER h0)) ?_;rw[zH,zNc];refine zBT.mpr (zE (hd rfl e1 e2) (zAS.mpr ⟨_,rfl,zTz.mpr ⟨⟨h0,h1⟩,?_⟩⟩));rw[zJ];refine zE (zI3 rfl e1).1 (zFH.mpr ?_);rw[zJ];refine ⟨_,zLC (k:=0) e2 (by simp),?_⟩;rw[zN,zH];have hx:=e3 x zX1;have hq:0<=x / m:=Int.ediv_nonneg hx (by omega);have e2':(M'.set k (.lst (((x / m)::c).map D.int)))[k]?=some (.lst (((x / m)::c).map D.int)):=zYh hk;have e1':(M'.set k (.lst (((x / m)::c).map D.int)))[n]?=some (gS k s):=by rw[zYH (Ne.symm h.ne)];exact e1
  rw[zAu];refine zE (zv (zL (hd rfl e1' e2') rfl (zT (zLR.mpr ⟨rfl,rfl⟩)))) ?_;have fin:∀ (c':Ye),(∀ y∈c',0<=y)->c'.length<=63->Nw M' (M'.set k (.lst (c'.map D.int))) n k:=λc' q1 q2=>by
   have P:=h.put (c:=c') (s:=s) q1 q2 e5 e6;rw[zLJ (k:=n) (by rw[zYH (Ne.symm h.ne)];exact e1)]at P;exact P
  by_cases hz:x / m=0
  .rw[zX2 (by simpa using hz),zBV];refine zGe.mpr (zE (zI3 rfl e1').1 ⟨⟨_,zAW e2'⟩,zAG.mpr (zAZ.mpr (zFH.mpr (zJ.mpr (zAe.mpr ?_))))⟩);rw[zX6]at e2' ⊢;rw[zVm e2',zN];refine zAK rfl ⟨⟨_,rfl,Int.emod_nonneg _ (by omega),Int.emod_lt_of_pos _ h0⟩,?_,by simp⟩;rw[List.set_set];exact fin c (λy hy=>e3 y (zX0 _ hy)) (by simp at e4;omega)
  .rw[zX5 (by simpa using hz),zAf,zN];refine zAK rfl ⟨⟨_,rfl,Int.emod_nonneg _ (by omega),Int.emod_lt_of_pos _ h0⟩,fin ((x / m)::c) (λy hy=>?_) (by simpa using e4),by simp⟩;rcases zXz.mp hy with z|z
   .subst z;exact hq
   .exact e3 y (zX0 _ z)
theorem zAo (h:Gen M n k) (ha:fa σ M=some (.dat (.ref n),M)) (hb:fb σ M=some (.dat (.int m),M)) (h0:0<m) (h1:m<1073741824)
  (q:∀ i M',0<=i->i<m->Nw M M' n k->M'.length=M.length->P (.dat (.int i)) M'):Ok (zP ze (zD (toD fa) (zD (toD fb) zI)) σ M) P:=by
 rw[zAl,zAG,zAZ];refine ⟨_,_,ha,?_⟩;rw[zJ,zAG,zAZ];refine ⟨_,_,hb,?_⟩;rw[zJ,zAe];refine Ok.mono (zNs h h0 h1) ?_;rintro d M' ⟨⟨i,rfl,i0,i1⟩,nx,hl⟩;exact q i M' i0 i1 nx hl
theorem zRf {ns:Ye} (h:ns.length<=63):Ok (zCG [.ref 0] [.fro (ns.map D.int)]) λd M'=>d=.ref 1/\Gen M' 1 2/\M'[0]?=some (.fro (ns.map D.int)):=by
 unfold zCG;rw[zr];unfold zD9;have e0:([.fro (ns.map D.int)]:Mem)[0]?=some (.fro (ns.map D.int)):=rfl;obtain ⟨cut,ec,lc⟩:=zRU ns none (some 63);have sl:∀ {σ:Sd} {us:Mem},σ[0]?=some (some (.ref 0))->fSl (zC 0) zBy (zBZ (fC (.int 63))) σ (.fro (ns.map D.int)::us)=some (.fl (cut.map D.int),.fro (ns.map D.int)::us):=λ{σ us} hσ=>by
  refine zT (zWA.mpr (zAS.mpr ⟨_,hσ,zQi.mpr (zQu.mpr (zFH.mpr (zPx.mpr ?_)))⟩));rw[zUH (zN2 (xs:=ns.map D.int) rfl) rfl,ec];exact ⟨rfl,rfl⟩
 refine zA4 rfl ?_;rw[zH,zBE];refine ⟨_,_,_,zBm (sl rfl) zCL,?_⟩;refine zAp (I:=λr σ M=>M=[.fro (ns.map D.int)]/\(∃ c:List Int,r=c.map D.int) /\ ∃ s y,σ=[some (.ref 0),some (.int s),y]/\0<=s/\s<2305843009213693951) ?_ ?_ _ _ _ ⟨rfl,⟨cut,rfl⟩,_,none,rfl,by decide,by decide⟩
 .rintro x r σ M ⟨rfl,⟨c,hc⟩,s,y,rfl,h0,h1⟩;obtain ⟨z,c',rfl,rfl,rfl⟩:=zAY hc;refine ⟨zAI,_,rfl,?_⟩;rw[zS];refine zBT.mpr (zBT.mpr (zBT.mpr (zBT.mpr (zAS.mpr ⟨_,rfl,zFH.mpr (zQ9.mpr ⟨by simp[zOZ],?_⟩)⟩))));refine zAS.mpr ⟨_,rfl,zGD.mpr (zFH.mpr (zGD.mpr (zFH.mpr (zT6.mpr ⟨by decide,?_⟩))))⟩;rw[zJ];exact ⟨rfl,⟨c',rfl⟩,_,_,rfl,Int.emod_nonneg _ (by decide),Int.emod_lt_of_pos _ (by decide)⟩
 .rintro σ M ⟨rfl,_,s,y,rfl,h0,h1⟩;refine ⟨zAI,?_⟩;rw[zN,zAk];have cp:Ok (zo [2] (zt (fSl (zC 0) zBy (zBZ (fC (.int 63))))) (gN 2) (tst (fOp kGe (zC 2) (fOp zOE (fC (.int 10)) (fC (.int 18))))) (zC 2) [some (.ref 0),some (.int s),y] [.fro (ns.map D.int),.dict []]) λx M=>M=[.fro (ns.map D.int),.dict []] /\ ∃ b:List Int,x=.fl (b.map D.int)/\b.length<=63 /\ ∀ x∈b,0<=x:=by
   rw[zC3];refine ⟨_,_,_,zBm (sl rfl) zCL,by rw[zXw];exact zX (by omega),?_⟩;refine Ok.mono (zBu (I:=λr acc M=>M=[.fro (ns.map D.int),.dict []]/\(∃ c:List Int,r=c.map D.int)/\r.length+acc.length<=63 /\ ∃ b:List Int,acc=b.map D.int /\ ∀ x∈b,0<=x) (Q:=λacc M=>M=[.fro (ns.map D.int),.dict []]/\acc.length<=63 /\ ∃ b:List Int,acc=b.map D.int /\ ∀ x∈b,0<=x) ?_ ?_ _ [] _ ⟨rfl,⟨cut,rfl⟩,by simp;omega,[],rfl,λ_ h=>by cases h⟩) ?_
   .rintro x r acc M ⟨rfl,⟨c,hc⟩,hl,b,rfl,hb⟩;obtain ⟨z,c',rfl,rfl,rfl⟩:=zAY hc;refine ⟨zAI,_,rfl,?_⟩;refine zJy.mpr (zBT.mpr (zAS.mpr ⟨_,rfl,zBT.mpr (zFH.mpr (zFH.mpr (zXF.mpr ⟨by decide,zXc.mpr (zJs.mpr ?_)⟩)))⟩));by_cases hz:(10:Int) ^ (18:Int).toNat<=z
    .rw[zX2 (by simpa using hz)];have big:(0:Int)<=10 ^ (18:Int).toNat:=by decide
     refine zAS.mpr ⟨_,rfl,zJ.mpr ⟨rfl,⟨c',rfl⟩,?_,b++[z],by simp,?_⟩⟩
     .simp at hl ⊢;omega
     .intro y hy;rcases zYD.mp hy with q|q
      .exact hb y q
      .have:y=z:=by simpa using q
       rw[this];exact Int.le_trans big hz
    .rw[zX5 (by simpa using hz)];exact ⟨rfl,⟨c',rfl⟩,by simp at hl ⊢;omega,b,rfl,hb⟩
   .rintro acc M ⟨rfl,_,hl,hb⟩;exact ⟨zAI,rfl,by simpa using hl,hb⟩
   .rintro ys M ⟨rfl,hl,b,hb,hp⟩;rw[List.nil_append]at hb hl;subst hb;exact ⟨rfl,b,rfl,by simpa using hl,hp⟩
  obtain ⟨x,M1,ex,rfl,b,rfl,hl,hb⟩:=cp;refine zE (M:=[.fro (ns.map D.int),gS 2 s,.lst (b.map D.int)]) (a:=.dat (.ref 1)) ?_ ?_
  .unfold zKP;have e1:toD (zo [2] (zt (fSl (zC 0) zBy (zBZ (fC (.int 63))))) (gN 2) (tst (fOp kGe (zC 2) (fOp zOE (fC (.int 10)) (fC (.int 18))))) (zC 2)) [some (.ref 0),some (.int s),y] ([.fro (ns.map D.int)]++[.dict []])=some (.ref 2,[.fro (ns.map D.int),.dict [],.lst (b.map D.int)]):=by
    unfold toD;rw[show ([.fro (ns.map D.int)]++[.dict []]:Mem)=[.fro (ns.map D.int),.dict []]from rfl,ex];rfl
   rw[e1];rfl
  .rw[zJ];refine ⟨rfl,⟨⟨b,s,rfl,rfl,hb,hl,h0,h1⟩,by decide,?_⟩,rfl⟩;intro j u e;match j,e with
   |0,e=>cases e;exact zm _ _
   |1,e=>cases e;rfl
   |2,e=>cases e;exact zm _ _
   |j+3,e=>simp at e
noncomputable def zDa:FS:=(zW (zj 3 (zo [4] (zAc (zD (toD (zC 1)) zI)) (gN 4) zq (zP ze (zD (toD (zC 0)) (zD (toD (zC 1)) zI)))))
  (zW (zLn (zC0 5 6) (zAq (zD (toD (fOp kIx (zC 3) (fC (.int 0)))) (zD (toD (fOp kIx (zC 3) (zLz (fC (.int 1))))) zI))))
  (zW (sIf (tst (fOp kEq (zC 2) (fC (.int 0)))) (zAO (zC 3)) zBX)
  (zW (sIf (tst (fOp kEq (zC 2) (fC (.int 5)))) (zAO (fOp zKO (zA7 (zD (toD (zC 5)) zI)) (zC 1))) zBX)
  (zW (sIf (tst (fOp kEq (zC 2) (fC (.int 6)))) (zAO (zo [4,7] (zGP (zC 3)) (zC0 4 7) zq (vIf (tst (fOp kLe (zC 4) (zC 5))) (fOp zDy (zC 7) (fOp zAX (zC 5) (fC (.int 1)))) (fOp zAX (fOp zAX (zC 5) (fC (.int 1))) (fOp zDy (zC 7) (fOp zIE (fOp zIE (zC 1) (zC 5)) (fC (.int 1)))))))) zBX)
  (zW (zj 8 (zFV (zC 1)))
  (zW (sIf (tst (fOp kEq (zC 2) (fC (.int 3)))) (zAO (fOp zGK (fSl (zC 8) (zBZ (fC (.int 1))) zBy) (fSl (zC 8) zBy (zBZ (fC (.int 1)))))) zBX)
  (zW (sIf (tst (fOp kLt (zC 2) (fC (.int 3)))) (zW (zj 9 (zFV (zC 1)))
  (zj 8 (zo [7] (zt (zC 3)) (gN 7) zq (fM zIb (zC 9) (zD (toD (fOp zDy (zC 7) (fB zAv (zU (zC 9) zk)))) zI))))) zBX)
  (zW (sIf (tst (fOp (kIn false) (zC 2) (zAq (zD (toD (fC (.int 2))) (zD (toD (fC (.int 4))) zI))))) (zMa (fOp kIx (zC 8) (zC 6)) (zC 8) (zC 5)) zBX)
  (zAO (zC 8)))))))))))
noncomputable def zAh:FF:=zA3 10 zDa
noncomputable def zDC:FS:=(zW (zj 3 (fOp zAX (fC (.int 1)) (zP ze (zD (toD (zC 0)) (zD (toD (fOp kIx (zA7 (zD (toD (fC (.int 3))) (zD (toD (fC (.int 7))) (zD (toD (zC 1)) zI)))) (zP ze (zD (toD (zC 0)) (zD (toD (fC (.int 3))) zI))))) zI)))))
  (zW (zj 4 (fOp zAX (fC (.int 1)) (zP ze (zD (toD (zC 0)) (zD (toD (zC 2)) zI)))))
  (zW (zj 5 (zP ze (zD (toD (zC 0)) (zD (toD (fC (.int 10))) zI))))
  (zW (zj 6 (zA7 zI))
  (zW (zDA (zAc (zD (toD (zC 4)) zI)) (gN 7) (zW (zj 8 (fOp kIx (zA7 (zD (toD (fC (.int 3))) (zD (toD (fC (.int 4))) zI))) (fOp zDy (zC 7) (fC (.int 2)))))
  (zW (sIf (tst (fOp kLt (zC 5) (fC (.int 7)))) (zj 8 (zC 5)) zBX)
  (zW (sIf (tst (fOp kEq (zC 5) (fC (.int 9)))) (zj 8 (zP ze (zD (toD (zC 0)) (zD (toD (fC (.int 7))) zI)))) zBX)
  (zBO (fM zAF (zC 6) (zD (toD (zP zAh (zD (toD (zC 0)) (zD (toD (zC 3)) (zD (toD (zC 8)) zI))))) zI)))))))
  (zW (sIf (tst (fOp kEq (zC 5) (fC (.int 8)))) (zj 6 (fOp zKO (fSl (zC 6) zBy (zBZ (fC (.int 1)))) (zC 4))) zBX)
  (zAO (fB zAR (zU (zo [10] (zAc (zD (toD (zC 3)) zI)) (gN 10) zq (fB zAR (zU (zo [9] (zt (zC 6)) (gN 9) zq (fOp kIx (zC 9) (zC 10))) zk))) zk)))))))))
noncomputable def zAz:FF:=zHr (zA3 11 zDC)
def Col (many:Int) (c:Ye):Prop:=(c.length:Int)=many /\ ∀ x∈c,0<=x/\x<many
theorem zLU (h:Gen M n k) (h0:0<few) (h1:few<1073741824) (m0:0<=many) (m1:many<=90000)
  (hf:f σ M=some (.dat (.int many),M)) (ha:∀ (x:D) (M:Mem),fa ((zBD own σ).set i (some x)) M=some (.dat (.ref n),M)) (hb:∀ (x:D) (M:Mem),fb ((zBD own σ).set i (some x)) M=some (.dat (.int few),M)) :
  Ok (zo own (zAc (zD (toD f) zI)) (gN i) zq (zP ze (zD (toD fa) (zD (toD fb) zI))) σ M) λx M'=>(∃ c:List Int,x=.fl (c.map D.int)/\(c.length:Int)=many /\ ∀ y∈c,0<=y/\y<few)/\Nw M M' n k/\M'.length=M.length:=by
 refine zC3.mpr ⟨_,_,_,zCk hf m0 (by omega),by rw[zDF];exact zX (by omega),?_⟩;refine Ok.mono (zUW (n:=many.toNat) (I:=λj acc M2=>(∃ c:List Int,acc=c.map D.int/\c.length=j /\ ∀ y∈c,0<=y/\y<few)/\Nw M M2 n k/\M2.length=M.length) ?_ ⟨⟨[],rfl,rfl,λ_ h=>by cases h⟩,Nw.refl h,rfl⟩) ?_
 .rintro j acc M2 hj ⟨⟨c,rfl,hcl,hc⟩,nw,hl⟩;refine ⟨_,rfl,?_⟩;refine zAo nw.gen (ha _ _) (hb _ _) h0 h1 λg M3 g0 g1 nw3 hl3=>?_;rw[zJ];refine ⟨⟨c++[g],by simp,by simp[hcl],λz hz=>?_⟩,nw.trans nw3,by omega⟩;rcases zYD.mp hz with q|q
  .exact hc z q
  .have:z=g:=by simpa using q
   subst this;exact ⟨g0,g1⟩
 .rintro ys M2 ⟨⟨c,rfl,hcl,hc⟩,nw,hl⟩;exact ⟨⟨c,rfl,by omega,hc⟩,nw,hl⟩
theorem zN8 (j:Nat):upD j=((List.range j).map λ(k:Nat)=>(k:Int)).map D.int:=by
 unfold upD;rw[zYB];rfl
theorem zUL (h:0<=many):Col many ((List.range many.toNat).map λ(k:Nat)=>(k:Int)):=by
 refine ⟨by simp;omega,λx hx=>?_⟩;obtain ⟨k,hk,rfl⟩:=zX4.mp hx;have:=zYR.mp hk;omega
theorem zd (h:P (.ref M.length) (M++[.lst xs])):zGa P (.fl xs) M:=h
theorem zc (A:Mem) (u:MO):(A++[u])[A.length]?=some u:=by simp
theorem zQp (h:Col many c) (hj:j<c.length):Col many (c.set i (c.getD j 0)):=by
 refine ⟨by rw[List.length_set];exact h.1,λx hx=>?_⟩;rcases List.mem_or_eq_of_mem_set hx with q|q
 .exact h.2 x q
 .rw[q,zXs,zXr hj];exact h.2 _ (zYL hj)
theorem zJp (h:Col many c) (hj:j<c.length):0<=c.getD j 0/\c.getD j 0<many:=by
 rw[zXs,zXr hj];exact h.2 _ (zYL hj)
theorem zFW (xs:Ye) (i:Nat):(xs.eraseIdx i).map D.int=(xs.map D.int).eraseIdx i:=by
 induction xs generalizing i with
 |nil=>rfl
 |cons x r ih=>
  cases i with
  |zero=>rfl
  |succ i=>simp[ih]
theorem zJR:L3.zDi xs none (some 1)=xs.take 1:=by
 have s:HT.sIx xs.length xs.length (some 1)=min 1 xs.length:=HT.zGw xs.length xs.length 1;have z:HT.sIx xs.length 0 none=0:=rfl;unfold L3.zDi;rw[s,z];simp only[List.drop_zero,Nat.sub_zero];cases xs with
 |nil=>rfl
 |cons a r=>simp
theorem slL {f:FE} {fl fh:FO} {σ:Sd} {M:Mem} {x:EV} {xs:List D} {lo hi:Ys} (hf:f σ M=some (x,M)) (ht:zBz x=none) (hx:zBW M x=some xs) (hl:fl σ M=some (lo,M)) (hh:fh σ M=some (hi,M)):fSl f fl fh σ M=some (.fl (L3.zDi xs lo hi),M):=by
 unfold fSl;rw[hf];dsimp only;rw[hl];dsimp only;rw[hh];dsimp only;unfold kSl;rw[ht];dsimp only;rw[hx]
theorem zOK {M:Mem} {n k:Nat} (h:Gen M n k) {many way:Int} (m0:0<many) (m1:many<=1000) :
  Ok (zAh [.ref n,.int many,.int way] M) λd M'=>∃ j c,d=.ref j/\M'[j]?=some (.lst (c.map D.int))/\Col many c/\M.length<=j/\Nw M M' n k:=by
 obtain ⟨hn,hk⟩:=h.lt;unfold zAh;rw[zr];unfold zDa;rw[zH,zS];refine Ok.mono (zLU h m0 (by omega) (by omega) (by omega) rfl (λ_ _=>rfl) (λ_ _=>rfl)) ?_;rintro x M1 ⟨⟨c,rfl,hcl,hc⟩,nw1,hl1⟩;refine zd ?_;rw[zN];have nw2:=nw1.trans (nw1.gen.lst (c.map D.int) (zm _ _));have e3:(M1++[MO.lst (c.map D.int)])[M1.length]?=some (.lst (c.map D.int)):=zc _ _;generalize hM2:M1++[MO.lst (c.map D.int)]=M2 at nw2 e3;have hj3:M.length<=M1.length:=nw1.len;generalize hj:M1.length=j3 at e3 hj3;have cl:c.length=many.toNat:=by omega
 have cc:Col many c:=⟨hcl,hc⟩;have hfst:atI (c.map D.int) 0=some (.int (c.getD 0 0)):=zC9 (by decide) (by omega);have hlst:atI (c.map D.int) (-1)=some (.int (c.getD (c.length-1) 0)):=by
  have hne:c≠[]:=by intro e;rw[e]at cl;simp at cl;omega
  have e:=(List.dropLast_concat_getLast hne).symm;have eg:c.getD (c.length-1) 0=c.getLast hne:=by
   rw[zXs,zXr (by omega),List.getLast_eq_getElem];rfl
  rw[eg];generalize c.getLast hne=z at e;rw[e,zYf];exact L2.zFC _ _
 obtain ⟨o0,o1⟩:=zJp cc (j:=0) (by omega);obtain ⟨p0,p1⟩:=zJp cc (j:=c.length-1) (by omega);generalize c.getD 0 0=one at hfst o0 o1;generalize c.getD (c.length-1) 0=oth at hlst p0 p1;rw[zH,zGx];have etup:zAq (zD (toD (fOp kIx (zC 3) (fC (.int 0)))) (zD (toD (fOp kIx (zC 3) (zLz (fC (.int 1))))) zI)) [some (.ref n),some (.int many),some (.int way),some (.ref j3),none,none,none,none,none,none] M2=some (.dat (.tup [.int one,.int oth]),M2):=by
  unfold zAq;rw[zg (zL rfl rfl (zBN (zf e3) hfst)) (zY (zL (y:=.dat (.int (-1))) rfl rfl (zBN (zf e3) hlst)))];dsimp only;rw[zX2 (zX (by simp))]
 refine zE etup ?_;rw[zJ];refine ⟨_,rfl,?_⟩;rw[zN];have isw:∀ (j:Int) (σ:Sd) (M:Mem),σ[2]?=some (some (.int way))->tst (fOp kEq (zC 2) (fC (.int j))) σ M=some (decide (way=j),M):=λj σ M e=>by
  have v4:zC 2 σ M=some (.dat (.int way),M):=by unfold zC;rw[e]
  exact zv (zL v4 rfl (zT (zLR.mpr ⟨rfl,rfl⟩)))
 have new:∀ (A:Mem) (c':Ye),Nw M A n k->Col many c' -> ∃ j c,D.ref A.length=D.ref j/\(A++[MO.lst (c'.map D.int)])[j]?=some (.lst (c.map D.int))/\Col many c/\M.length<=j/\Nw M (A++[MO.lst (c'.map D.int)]) n k:=λA c' nw hc'=>
  ⟨A.length,c',rfl,zc _ _,hc',nw.len,nw.trans (nw.gen.lst _ (zm _ _))⟩
 rw[zH,zAu];refine zE (isw 0 _ _ rfl) ?_;by_cases w0:way=0
 .rw[zX2 (by simpa using w0)];exact zAK rfl ⟨j3,c,rfl,e3,cc,hj3,nw2⟩
 rw[zX5 (by simpa using w0),zAf,zN,zH,zAu];refine zE (isw 5 _ _ rfl) ?_;by_cases w5:way=5
 .rw[zX2 (by simpa using w5),zAk];refine zBT.mpr (zDs.mpr (zAG.mpr (zAZ.mpr (zAS.mpr ⟨_,rfl,zJ.mpr (zAe.mpr ⟨zX (by simp),zAS.mpr ⟨_,rfl,?_⟩⟩)⟩))));have er:zKO (.fl [.int one]) (.dat (.int many)) M2=some (.fl ((List.replicate many.toNat one).map D.int),M2):=by
   unfold zKO;dsimp only[zBz,zKc];rw[zX2 ⟨by omega,by omega,zX (by simp;omega)⟩];have:(List.replicate many.toNat [D.int one]).flatten=(List.replicate many.toNat one).map D.int:=by
    rw[List.map_replicate];generalize many.toNat=q;induction q with
    |zero=>rfl
    |succ q ih=>rw[zY6,zZm,ih,zY6];rfl
   rw[this]
  refine zE er (zd ?_);rw[zKq];refine new M2 _ nw2 ⟨by simp;omega,λx hx=>?_⟩;rw[(List.mem_replicate.mp hx).2];exact ⟨o0,o1⟩
 rw[zX5 (by simpa using w5),zAf,zN,zH,zAu];refine zE (isw 6 _ _ rfl) ?_;by_cases w6:way=6
 .rw[zX2 (by simpa using w6),zAk];have hen:zGP (zC 3) [some (.ref n),some (.int many),some (.int way),some (.ref j3),none,some (.int one),some (.int oth),none,none,none] M2=some (((List.range c.length).zip c).map λq=>D.tup [.int (q.1:Nat),.int q.2],zDr (.dat (.ref j3)) (c.map D.int),M2):=by
   unfold zGP;rw[show zC 3 [some (.ref n),some (.int many),some (.int way),some (.ref j3),none,some (.int one),some (.int oth),none,none,none] M2=some (.dat (.ref j3),M2)from rfl];dsimp only;rw[zf e3];dsimp only;unfold zJo;rw[zXw,List.zip_map_right,zYB];rfl
  have step:∀ q∈(List.range c.length).zip c,(0<=(if (q.1:Int)<=one then q.2 % (one+1) else one+1+q.2 % (many-one-1))/\(if (q.1:Int)<=one then q.2 % (one+1) else one+1+q.2 % (many-one-1))<many)/\(one<(q.1:Int)->0<many-one-1):=by
   intro q hq;have hq1:=zYR.mp (List.of_mem_zip hq).1;by_cases hle:(q.1:Int)<=one
   .rw[zX2 hle];have:=Int.emod_nonneg q.2 (show one+1≠0 by omega);have:=Int.emod_lt_of_pos q.2 (show 0<one+1 by omega);omega
   .rw[zX5 hle];have h1:0<many-one-1:=by omega
    have:=Int.emod_nonneg q.2 (show many-one-1≠0 by omega);have:=Int.emod_lt_of_pos q.2 h1;omega
  have ec:=zAa (own:=[4,7]) (g:=zC0 4 7) (te:=vIf (tst (fOp kLe (zC 4) (zC 5))) (fOp zDy (zC 7) (fOp zAX (zC 5) (fC (.int 1)))) (fOp zAX (fOp zAX (zC 5) (fC (.int 1))) (fOp zDy (zC 7) (fOp zIE (fOp zIE (zC 1) (zC 5)) (fC (.int 1)))))) ((List.range c.length).zip c) (λq=>D.tup [.int (q.1:Nat),.int q.2]) (λq=> .int (if (q.1:Int)<=one then q.2 % (one+1) else one+1+q.2 % (many-one-1))) hen ?_ ?_ ?_
  .refine zE ec (zd ?_);rw[zKq,show (λq:Nat × Int=>D.int (if (q.1:Int)<=one then q.2 % (one+1) else one+1+q.2 % (many-one-1)))=D.int∘(λq:Nat × Int=>(if (q.1:Int)<=one then q.2 % (one+1) else one+1+q.2 % (many-one-1)))from rfl,<-zYB];refine new M2 _ nw2 ⟨by simp;omega,λx hx=>?_⟩;obtain ⟨q,hq,rfl⟩:=zX4.mp hx;exact (step q hq).1
  .exact .inl e3
  .simp;omega
  .intro q hq;refine ⟨_,rfl,?_⟩;have hs:=step q hq;unfold vIf;have ht:tst (fOp kLe (zC 4) (zC 5)) [some (.ref n),some (.int many),some (.int way),some (.ref j3),some (.int (q.1:Nat)),some (.int one),some (.int oth),some (.int q.2),none,none] M2=some (decide ((q.1:Int)<=one),M2):=zv (zL rfl rfl (zT (zXd.mpr ⟨rfl,rfl⟩)));show (match tst (fOp kLe (zC 4) (zC 5)) [some (.ref n),some (.int many),some (.int way),some (.ref j3),some (.int (q.1:Nat)),some (.int one),some (.int oth),some (.int q.2),none,none] M2 with|some (true,M1)=>_|some (false,M1)=>_|none=>none)=_;rw[ht];by_cases hle:(q.1:Int)<=one
   .rw[zYv hle,zX2 hle];exact zL (x:=.dat (.int q.2)) (y:=.dat (.int (one+1))) rfl rfl (zER (by omega))
   .rw[zYM hle,zX5 hle];exact zL (x:=.dat (.int (one+1))) rfl (zL (x:=.dat (.int q.2)) (y:=.dat (.int (many-one-1))) rfl rfl (zER (hs.2 (by omega)))) rfl
 rw[zX5 (by simpa using w6),zAf,zN,zH,zS];have elr:∀ {σ:Sd} {A:Mem},σ[1]?=some (some (.int many))->zFV (zC 1) σ A=some (.fl (((List.range many.toNat).map λ(k:Nat)=>(k:Int)).map D.int),A):=λ{σ A} e=>by
  unfold zFV zC;rw[e];dsimp only;rw[zX2 ⟨by omega,by omega⟩,zN8]
 refine zE (elr rfl) (zd ?_);rw[zN];have nw4:=nw2.trans (nw2.gen.lst (((List.range many.toNat).map λ(k:Nat)=>(k:Int)).map D.int) (zm _ _));have e8:(M2++[MO.lst (((List.range many.toNat).map λ(k:Nat)=>(k:Int)).map D.int)])[M2.length]?=some (.lst (((List.range many.toNat).map λ(k:Nat)=>(k:Int)).map D.int)):=zc _ _;have e3':(M2++[MO.lst (((List.range many.toNat).map λ(k:Nat)=>(k:Int)).map D.int)])[j3]?=some (.lst (c.map D.int)):=by
  rw[zXu (zXq.mp e3).1];exact e3
 have hj8:M.length<=M2.length:=nw2.len;have hj38:j3<M2.length:=(zXq.mp e3).1;generalize hM4:M2++[MO.lst (((List.range many.toNat).map λ(k:Nat)=>(k:Int)).map D.int)]=M4 at nw4 e8 e3';generalize hj8':M2.length=j8 at e8 hj8 hj38;have cu:=zUL (many:=many) (by omega);generalize hup:((List.range many.toNat).map λ(k:Nat)=>(k:Int))=up at e8 cu elr;rw[zH,zAu];refine zE (isw 3 _ _ rfl) ?_;by_cases w3:way=3
 .rw[zX2 (by simpa using w3),zAk];have s1:=slL (f:=zC 8) (fl:=zBZ (fC (.int 1))) (fh:=zBy) (σ:=[some (.ref n),some (.int many),some (.int way),some (.ref j3),none,some (.int one),some (.int oth),none,some (.ref j8),none]) rfl rfl (zAW e8) (oS (i:=1) rfl) rfl;have s2:=slL (f:=zC 8) (fl:=zBy) (fh:=zBZ (fC (.int 1))) (σ:=[some (.ref n),some (.int many),some (.int way),some (.ref j3),none,some (.int one),some (.int oth),none,some (.ref j8),none]) rfl rfl (zAW e8) rfl (oS (i:=1) rfl);have hul:up.length=many.toNat:=by have:=cu.1;omega
  rw[zPJ (by decide) (by rw[zXw];omega)]at s1;rw[zJR]at s2;refine zBT.mpr (zE s1 (zE s2 (zMW rfl rfl (by simp;omega) (zd ?_))));rw[zKq,show (1:Int).toNat=1 from rfl,<-List.map_drop,<-List.map_take,<-zYf];refine new M4 _ nw4 ⟨by simp;omega,λx hx=>?_⟩;rcases zYD.mp hx with q|q
  .exact cu.2 x (List.mem_of_mem_drop q)
  .exact cu.2 x (List.mem_of_mem_take q)
 rw[zX5 (by simpa using w3),zAf,zN,zH]
 have tail:∀ (y7 y9:Option D) (A:Mem) (j:Nat) (c':Ye),Nw M A n k->M.length<=j->A[j]?=some (.lst (c'.map D.int))->Col many c' ->
   OkS (zW (sIf (tst (fOp (kIn false) (zC 2) (zAq (zD (toD (fC (.int 2))) (zD (toD (fC (.int 4))) zI))))) (zMa (fOp kIx (zC 8) (zC 6)) (zC 8) (zC 5)) zBX) (zAO (zC 8)) [some (.ref n),some (.int many),some (.int way),some (.ref j3),none,some (.int one),some (.int oth),y7,some (.ref j),y9] A) λo x M1=>match o with|.ret d=>∃ j c,d=.ref j/\M1[j]?=some (.lst (c.map D.int))/\Col many c/\M.length<=j/\Nw M M1 n k|.nx=>∃ j c,D.non=.ref j/\M1[j]?=some (.lst (c.map D.int))/\Col many c/\M.length<=j/\Nw M M1 n k|_=>False:=by
  intro y7 y9 A j c' nw hj ej hc';rw[zH,zAu];have hin:tst (fOp (kIn false) (zC 2) (zAq (zD (toD (fC (.int 2))) (zD (toD (fC (.int 4))) zI)))) [some (.ref n),some (.int many),some (.int way),some (.ref j3),none,some (.int one),some (.int oth),y7,some (.ref j),y9] A=some ([2,4].any λy:Int=>decide (y=way),A):=by
   refine zv (zL (x:=.dat (.int way)) (y:=.dat (.tup [.int 2,.int 4])) rfl ?_ rfl);unfold zAq;rw[zg (d:=.int 2) rfl (zY (d:=.int 4) rfl)];dsimp only;rw[zX2 (zX (by simp))]
  refine zE hin ?_;have hcl':c'.length=many.toNat:=by have:=hc'.1;omega
  by_cases hb:([2,4].any λy:Int=>decide (y=way))=true
  .rw[zX2 hb,zNc];refine zE (zL (x:=.dat (.ref j)) (y:=.dat (.int oth)) rfl rfl (zBN (zf ej) (zC9 p0 (by omega)))) ?_;rw[zJ];refine zAS.mpr ⟨_,rfl,zAS.mpr ⟨_,rfl,?_⟩⟩;rw[zJ];have eo:one=((one.toNat:Nat):Int):=by omega
   refine ⟨A.set j (.lst ((c'.map D.int).set one.toNat (.int (c'.getD oth.toNat 0)))),?_,?_⟩
   .have:=zLC (k:=one.toNat) (d:=.int (c'.getD oth.toNat 0)) ej (by rw[zXw];omega);rw[<-eo]at this;exact this
   rw[zN];have hlj:j<A.length:=(zXq.mp ej).1;refine zAK rfl ⟨j,c'.set one.toNat (c'.getD oth.toNat 0),rfl,?_,zQp hc' (by omega),hj,?_⟩
   .rw[zYh hlj,List.map_set]
   .refine nw.setB h hj ?_;rw[<-List.map_set];exact zm _ _
  .rw[zX5 hb,zAf,zN];exact zAK rfl ⟨j,c',rfl,ej,hc',hj,nw⟩
 rw[zAu];refine zE (M:=M4) (a:=decide (way<3)) (zv (zL (x:=.dat (.int way)) rfl rfl (zT (zUh.mpr ⟨rfl,rfl⟩)))) ?_;by_cases wl:way<3
 .rw[zX2 (by simpa using wl),zH,zS];refine zE (elr rfl) (zd ?_);rw[zN,zS];have nw5:=nw4.trans (nw4.gen.lst (up.map D.int) (zm _ _));have e9:(M4++[MO.lst (up.map D.int)])[M4.length]?=some (.lst (up.map D.int)):=zc _ _;have e3'':(M4++[MO.lst (up.map D.int)])[j3]?=some (.lst (c.map D.int)):=by
   rw[zXu (zXq.mp e3').1];exact e3'
  have hj9:M.length<=M4.length:=nw4.len;have hj39:j3<M4.length:=(zXq.mp e3').1;generalize hM5:M4++[MO.lst (up.map D.int)]=M5 at nw5 e9 e3'';generalize hj9':M4.length=j9 at e9 hj9 hj39;have hul:up.length=many.toNat:=by have:=cu.1;omega
  refine zC3.mpr ⟨_,_,_,zBm (x:=.dat (.ref j3)) rfl (zf e3''),by rw[zXw];exact zX (by omega),?_⟩
  refine Ok.mono (zBu (I:=λr acc M'=>∃ (r' a left:Ye),r=r'.map D.int/\acc=a.map D.int/\(a.length+r'.length:Nat)=many.toNat/\(∀ x∈a,0<=x/\x<many)/\left.length=r'.length/\(∀ x∈left,0<=x/\x<many)/\M'[j9]?=some (.lst (left.map D.int))/\M'[j3]?=some (.lst (c.map D.int))/\(∀ x∈r',0<=x)/\Nw M M' n k)
   (Q:=λacc M'=>∃ a:List Int,acc=a.map D.int/\Col many a/\Nw M M' n k) ?_ ?_ _ [] _ ⟨c,[],up,rfl,rfl,by simp;omega,(λ_ h=>by cases h),by omega,cu.2,e9,e3'',(λx hx=>(hc x hx).1),nw5⟩) ?_
  .rintro x r acc M' ⟨r',a,left,hr,rfl,hal,ha,hll,hlf,e9',e3s,hr0,nw⟩;obtain ⟨g,r'',rfl,rfl,rfl⟩:=zAY hr;refine ⟨.inl e3s,_,rfl,zFL.mpr ?_⟩;rw[zX2 rfl];have hg0:=hr0 g zX1;have hlen0:0<left.length:=by rw[hll];simp
   have hz:left.length<=1000:=by rw[hll];omega
   have ei:fOp zDy (zC 7) (fB zAv (zU (zC 9) zk)) [some (.ref n),some (.int many),some (.int way),some (.ref j3),none,some (.int one),some (.int oth),some (.int g),some (.ref j8),some (.ref j9)] M'=some (.dat (.int ((g.toNat % left.length:Nat):Int)),M'):=by
    have:=zCi (f:=zC 9) (σ:=[some (.ref n),some (.int many),some (.int way),some (.ref j3),none,some (.int one),some (.int oth),some (.int g),some (.ref j8),some (.ref j9)]) (M:=M') rfl (zf e9');rw[zXw]at this;refine zL (x:=.dat (.int g)) rfl this ?_;rw[zER (by omega)];rw[show ((g.toNat % left.length:Nat):Int)=g % left.length by rw[Int.natCast_emod,Int.toNat_of_nonneg hg0]]
   have hlt:g.toNat % left.length<left.length:=Nat.mod_lt _ hlen0;refine zGe.mpr (zAS.mpr ⟨_,rfl,⟨_,zAW e9'⟩,zE (zY ei) ?_⟩);have hget:(left.map D.int)[g.toNat % left.length]?=some (.int (left[g.toNat % left.length])):=by
    rw[zYA,zXr hlt];rfl
   refine zVi e9' hget (by omega) ?_;rw[zJ];have hl9:j9<M'.length:=(zXq.mp e9').1;refine ⟨r'',a++[left[g.toNat % left.length]],left.eraseIdx (g.toNat % left.length),rfl,by simp,by simp at hal ⊢;omega,λx hx=>?_,?_,λx hx=>hlf x (List.mem_of_mem_eraseIdx hx),?_,?_,λx hx=>hr0 x (zX0 _ hx),?_⟩
   .rcases zYD.mp hx with q|q
    .exact ha x q
    .have:x=left[g.toNat % left.length]:=by simpa using q
     rw[this];exact hlf _ (zYL hlt)
   .rw[List.length_eraseIdx_of_lt hlt,hll];simp
   .rw[zYh hl9,zFW]
   .rw[zYH (by omega)];exact e3s
   .refine nw.setB h hj9 ?_;rw[<-zFW];exact zm _ _
  .rintro acc M' ⟨r',a,left,hr,rfl,hal,ha,hll,hlf,e9',e3s,hr0,nw⟩;have:r'=[]:=by cases r' with|nil=>rfl|cons _ _=>cases hr
   subst this;exact ⟨.inl e3s,a,rfl,⟨by simp at hal;omega,ha⟩,nw⟩
  .rintro ys M' ⟨a,ea,hca,nw⟩;rw[List.nil_append]at ea;subst ea;refine zd ?_;rw[zN];exact tail _ _ _ M'.length a (nw.trans (nw.gen.lst _ (zm _ _))) nw.len (zc _ _) hca
 .rw[zX5 (by simpa using wl),zAf,zN];exact tail _ _ M4 j8 up nw4 hj8 e8 cu
noncomputable def zDW (many:Int) (cs:Ya):List (List Int):=(List.range many.toNat).map λr=>cs.map λc=>c.getD r 0
theorem zPW (h0:0<many) (hc:∀ c∈cs,Col many c) (hl:0<cs.length):IsM (zDW many cs) cs.length:=by
 have hlen:(zDW many cs).length=many.toNat:=by unfold zDW;simp
 refine ⟨by omega,hl,λr hr=>?_⟩;rw[hlen];unfold zDW at hr;obtain ⟨k,hk,rfl⟩:=zX4.mp hr;refine ⟨by simp,λg hg=>?_⟩;obtain ⟨c,hcm,rfl⟩:=zX4.mp hg;have:=hc c hcm;have h1:=this.1;have:=zJp this (j:=k) (by have:=zYR.mp hk;omega);omega
def zKW (M:Mem) (lo:Nat) (many:Int) (js:Yj) (cs:Ya):Prop:=js.length=cs.length /\ ∀ (i:Nat) j c,js[i]?=some j->cs[i]?=some c->lo<j/\M[j]?=some (.lst (c.map D.int))/\Col many c
theorem zHX {M:Mem} {n k:Nat} {most lm:Int} (h:Gen M n k) (hm:0<most) (hm1:most<=900) (hl:0<lm) (hl1:lm<=900) :
  Ok (zAz [.ref n,.int most,.int lm] M) λd M'=>(∃ zA l,d=mD zA/\IsM zA l/\(zA.length<=8\/(zA.length:Int)<=most)/\(l:Int)<=lm)/\Nw M M' n k:=by
 obtain ⟨hn,hk⟩:=h.lt;unfold zAz;refine zJh ?_;rw[zr];unfold zDC;show OkS (zW _ _ [some (.ref n),some (.int most),some (.int lm),none,none,none,none,none,none,none,none] M) _;rw[zH,zS];refine zBT.mpr (zFH.mpr ?_);refine zAl.mpr (zAG.mpr (zAZ.mpr (zAS.mpr ⟨_,rfl,?_⟩)));rw[zJ,zAG,zAZ,zBT];simp only[zAG,zAZ,zFH,zAS,zJ,zGn,zDs,zAe,List.getElem?_cons_succ,List.getElem?_cons_zero,Option.some.injEq,exists_eq_left'];refine ⟨zX (by simp),zAo h rfl rfl (by decide) (by decide) λi M0 i0 i1 nw0 _=>?_⟩;obtain ⟨mm,em,m0,m1,m2⟩:∃ mm:Int,[D.int 3,D.int 7,D.int most][i.toNat]?=some (.int mm)/\0<mm/\mm<=900/\(mm<=7\/mm<=most):=by
  have hi:i=0\/i=1\/i=2:=by omega
  rcases hi with rfl|rfl|rfl
  .exact ⟨3,rfl,by decide,by decide,.inl (by decide)⟩
  .exact ⟨7,rfl,by decide,by decide,.inl (by decide)⟩
  .exact ⟨most,rfl,hm,hm1,.inr (Int.le_refl _)⟩
 refine zSO zCL (zNF i0 em) ?_;rw[zJ];refine Ok.mono (zNs nw0.gen m0 (by omega)) ?_;rintro d M1 ⟨⟨R,rfl,R0,R1⟩,nw1,_⟩;rw[zGD,zJ,zN];have nw1':=nw0.trans nw1;generalize eR:1+R=many;have r0:0<many:=by omega
 have r1:many<=900:=by omega
 have r2:many<=7\/many<=most:=by omega
 rw[zH,zS];refine zBT.mpr (zFH.mpr (zAo nw1'.gen rfl rfl hl (by omega) λL M2 L0 L1 nw2 _=>zGD.mpr ?_));rw[zJ,zN,zH,zS];generalize eL:1+L=cnt;have nw2':=nw1'.trans nw2;refine zAo nw2'.gen rfl rfl (by decide) (by decide) λsrt M3 s0 s1 nw3 _=>?_;have nw3':=nw2'.trans nw3;rw[zJ,zN,zH,zS];refine zDs.mpr (zAe.mpr ⟨zX (by simp),zd ?_⟩);rw[zN,zH,zBE];have nw4:=nw3'.trans (nw3'.gen.lst [] rfl);have e6:(M3++[MO.lst ([]:List D)])[M3.length]?=some (.lst []):=zc _ _;have hj6:M.length<=M3.length:=nw3'.len;generalize hM4:M3++[MO.lst ([]:List D)]=M4 at nw4 e6;generalize hj6':M3.length=j6 at e6 hj6;refine ⟨_,_,_,zCk rfl (by omega) (by omega),?_⟩;refine zMD (n:=cnt.toNat) (I:=λi σ M'=>∃ x y,σ=[some (.ref n),some (.int most),some (.int lm),some (.int many),some (.int cnt),some (.int srt),some (.ref j6),x,y,none,none] /\ ∃ (js:Yj) (cs:Ya),M'[j6]?=some (.lst (js.map D.ref))/\zKW M' j6 many js cs/\cs.length=i/\Nw M M' n k) ?_ ?_ _ _ ⟨none,none,rfl,[],[],e6,⟨rfl,λi j c h=>by simp at h⟩,rfl,nw4⟩
 .rintro i σ M' hi ⟨x,y,rfl,js,cs,ej,hcs,hl,nw⟩;refine ⟨_,rfl,?_⟩;rw[zH,zS];have hmod:∃ w0:Int,fOp kIx (zA7 (zD (toD (fC (.int 3))) (zD (toD (fC (.int 4))) zI))) (fOp zDy (zC 7) (fC (.int 2))) [some (.ref n),some (.int most),some (.int lm),some (.int many),some (.int cnt),some (.int srt),some (.ref j6),some (.int (i:Nat)),y,none,none] M'=some (.dat (.int w0),M'):=by
   have ei:fOp zDy (zC 7) (fC (.int 2)) [some (.ref n),some (.int most),some (.int lm),some (.int many),some (.int cnt),some (.int srt),some (.ref j6),some (.int (i:Nat)),y,none,none] M'=some (.dat (.int ((i:Int) % 2)),M'):=zL (x:=.dat (.int (i:Nat))) rfl rfl (zER (by decide));have el:zA7 (zD (toD (fC (.int 3))) (zD (toD (fC (.int 4))) zI)) [some (.ref n),some (.int most),some (.int lm),some (.int many),some (.int cnt),some (.int srt),some (.ref j6),some (.int (i:Nat)),y,none,none] M'=some (.fl [.int 3,.int 4],M'):=zT (zDs.mpr (zE (zg (d:=.int 3) rfl (zY (d:=.int 4) rfl)) ⟨zX (by simp),rfl,rfl⟩));have h2:(i:Int) % 2=0\/(i:Int) % 2=1:=by omega
   rcases h2 with q|q
   .rw[q]at ei;exact ⟨3,zL el ei rfl⟩
   .rw[q]at ei;exact ⟨4,zL el ei rfl⟩
  obtain ⟨w0,ew⟩:=hmod;refine zE ew ?_;rw[zJ,zN]
  have fin:∀ (way:Int) (M5:Mem),Nw M' M5 n k->OkS (zBO (fM zAF (zC 6) (zD (toD (zP zAh (zD (toD (zC 0)) (zD (toD (zC 3)) (zD (toD (zC 8)) zI))))) zI)) [some (.ref n),some (.int most),some (.int lm),some (.int many),some (.int cnt),some (.int srt),some (.ref j6),some (.int (i:Nat)),some (.int way),none,none] M5)
    λo σ2 M2=>match o with|.nx=>(∃ x y,σ2=[some (.ref n),some (.int most),some (.int lm),some (.int many),some (.int cnt),some (.int srt),some (.ref j6),x,y,none,none] /\ ∃ (js:Yj) (cs:Ya),M2[j6]?=some (.lst (js.map D.ref))/\zKW M2 j6 many js cs/\cs.length=i+1/\Nw M M2 n k)|_=>False:=by
   intro way M5 nw5;have ej5:=nw5.get ej (by omega) (by omega);rw[zBV];refine zGe.mpr (zAS.mpr ⟨_,rfl,⟨_,zAW ej5⟩,zAG.mpr (zAZ.mpr (zAl.mpr (zE (zg rfl (zg rfl (zY rfl))) ?_)))⟩);refine Ok.mono (zOK nw5.gen r0 (by omega)) ?_;rintro d M6 ⟨j,c,rfl,ec,cc,hj,nw6⟩;have ej6:=nw6.get ej5 (by omega) (by omega);rw[zJ,zAe,zBl ej6 (by rw[zXw,hcs.1,hl];exact zYC (m:=95000) (by omega) (zX (by omega)))];have hlt6:j6<M5.length:=(zXq.mp ej5).1;have hlt6':j6<M6.length:=zYC hlt6 nw6.len;refine ⟨_,_,rfl,js++[j],cs++[c],?_,⟨by simp[hcs.1],λa b c' h1 h2=>?_⟩,by simp[hl],?_⟩
   .rw[zYh hlt6',zYf];rfl
   .have keep:∀ {b:Nat} {u:MO},j6<b->M6[b]?=some u->(M6.set j6 (.lst (js.map D.ref++[.ref j])))[b]?=some u:=λ{b u} hb e=>by rw[zYH (by omega)];exact e
    by_cases ha:a<js.length
    .rw[zXu ha]at h1;rw[zXu (by rw[<-hcs.1];exact ha)]at h2;obtain ⟨q1,q2,q3⟩:=hcs.2 a b c' h1 h2;exact ⟨q1,keep q1 (nw6.get (nw5.get q2 (by omega) (by omega)) (by omega) (by omega)),q3⟩
    .have ha':a=js.length:=by
      have:=(zXq.mp h1).1;simp at this;omega
     subst ha';rw[zYx (zXt _)]at h1;rw[zYx (by rw[hcs.1];exact zXt _)]at h2;simp at h1;rw[hcs.1]at h2;simp at h2;subst h1 h2;exact ⟨by omega,keep (by omega) ec,cc⟩
   .refine ((nw.trans nw5).trans nw6).setB h hj6 ?_;show D.unds _ _=true;have w1:D.unds M6.length (js.map D.ref)=true:=nw6.gen.wf j6 _ ej6;have hlj:j<M6.length:=(zXq.mp ec).1;rw[zFK,w1];simp[D.unds,D.und,hlj]
  have two:∀ (way:Int) (R:Out->Sd->Mem->Prop),(∀ σ2 M2,(∃ x y,σ2=[some (.ref n),some (.int most),some (.int lm),some (.int many),some (.int cnt),some (.int srt),some (.ref j6),x,y,none,none] /\ ∃ (js:Yj) (cs:Ya),M2[j6]?=some (.lst (js.map D.ref))/\zKW M2 j6 many js cs/\cs.length=i+1/\Nw M M2 n k)->R .nx σ2 M2) ->
    OkS (zW (sIf (tst (fOp kEq (zC 5) (fC (.int 9)))) (zj 8 (zP ze (zD (toD (zC 0)) (zD (toD (fC (.int 7))) zI)))) zBX) (zBO (fM zAF (zC 6) (zD (toD (zP zAh (zD (toD (zC 0)) (zD (toD (zC 3)) (zD (toD (zC 8)) zI))))) zI))) [some (.ref n),some (.int most),some (.int lm),some (.int many),some (.int cnt),some (.int srt),some (.ref j6),some (.int (i:Nat)),some (.int way),none,none] M') R:=by
   intro way R hR;have go:∀ (way:Int) (M5:Mem),Nw M' M5 n k->OkS (zBO (fM zAF (zC 6) (zD (toD (zP zAh (zD (toD (zC 0)) (zD (toD (zC 3)) (zD (toD (zC 8)) zI))))) zI)) [some (.ref n),some (.int most),some (.int lm),some (.int many),some (.int cnt),some (.int srt),some (.ref j6),some (.int (i:Nat)),some (.int way),none,none] M5) R:=λway M5 nw5=>OkS.mono (fin way M5 nw5) (by
    intro o σ2 M2 z;cases o with
    |nx=>exact hR _ _ z
    |_=>exact z.elim)
   rw[zH,zAu];refine zE (M:=M') (a:=decide (srt=9)) (zv (zL (x:=.dat (.int srt)) rfl rfl (zT (zLR.mpr ⟨rfl,rfl⟩)))) ?_;by_cases h9:srt=9
   .rw[zX2 (by simpa using h9),zS];refine zAo nw.gen rfl rfl (by decide) (by decide) λw M5 _ _ nw5 _=>?_;rw[zJ,zN];exact go w M5 nw5
   .rw[zX5 (by simpa using h9),zAf,zN];exact go way M' (Nw.refl nw.gen)
  rw[zH,zAu];refine zE (M:=M') (a:=decide (srt<7)) (zv (zL (x:=.dat (.int srt)) rfl rfl (zT (zUh.mpr ⟨rfl,rfl⟩)))) ?_;by_cases h7:srt<7
  .rw[zX2 (by simpa using h7),zS];refine zAS.mpr ⟨_,rfl,?_⟩;rw[zJ,zN];exact two srt _ λσ2 M2 z=>z
  .rw[zX5 (by simpa using h7),zAf,zN];exact two w0 _ λσ2 M2 z=>z
 .rintro σ M' ⟨x,y,rfl,js,cs,ej,hcs,hl,nw⟩;rw[zN]
  have last:∀ (A:Mem) (j:Nat) (js':Yj) (cs':Ya),Nw M A n k->A[j]?=some (.lst (js'.map D.ref))->zKW A j6 many js' cs'->cs'.length=cnt.toNat ->
    OkS (zAO (fB zAR (zU (zo [10] (zAc (zD (toD (zC 3)) zI)) (gN 10) zq (fB zAR (zU (zo [9] (zt (zC 6)) (gN 9) zq (fOp kIx (zC 9) (zC 10))) zk))) zk)) [some (.ref n),some (.int most),some (.int lm),some (.int many),some (.int cnt),some (.int srt),some (.ref j),x,y,none,none] A)
     λo x M1=>match o with
     |.ret d=>(D.und M.length d=true/\M.length<=M1.length /\ ∀ (j:Nat) u,j<M.length->M1[j]?=some u->MO.und M.length u=true)/\(∃ zA l,d=mD zA/\IsM zA l/\(zA.length<=8\/(zA.length:Int)<=most)/\(l:Int)<=lm)/\Nw M (M1.take M.length) n k
     |.nx=>(D.und M.length D.non=true/\M.length<=M1.length /\ ∀ (j:Nat) u,j<M.length->M1[j]?=some u->MO.und M.length u=true)/\(∃ zA l,D.non=mD zA/\IsM zA l/\(zA.length<=8\/(zA.length:Int)<=most)/\(l:Int)<=lm)/\Nw M (M1.take M.length) n k
     |_=>False:=by
   intro A j js' cs' nwA eA hA hlA;have hcol:∀ c∈cs',Col many c:=λc hc=>by
    obtain ⟨i,hi,rfl⟩:=List.mem_iff_getElem.mp hc;exact (hA.2 i (js'[i]'(by rw[hA.1];exact hi)) cs'[i] (zXr _) (zXr _)).2.2
   have hlen:(zDW many cs').length=many.toNat:=by unfold zDW;simp
   refine zAK (d:=mD (zDW many cs')) ?_ ⟨⟨zCK _,nwA.len,nwA.wf0 h⟩,⟨zDW many cs',cs'.length,rfl,zPW r0 hcol (by omega),by omega,by omega⟩,nwA.trim h⟩;refine (zAw (zAa (List.range many.toNat) (λk=>D.int k) (λk=> .tup ((cs'.map λc=>c.getD k 0).map D.int)) (zEl (f:=zC 3) rfl (by omega) (by omega)) trivial (by simp;omega) λr hr=>⟨_,rfl,?_⟩) zCL).trans ?_
   .have hr':=zYR.mp hr;refine (zAw (zAa (gd:=zDr (.dat (.ref j)) (js'.map D.ref)) (List.range js'.length) (λi=>D.ref (js'.getD i 0)) (λi=> .int ((cs'.getD i []).getD r 0)) ?_ ?_ (by rw[zZk,hA.1,hlA];omega) λi hi=>⟨_,rfl,?_⟩) zCL).trans ?_
    .rw[show ((List.range js'.length).map λi=>D.ref (js'.getD i 0))=js'.map D.ref by
      apply List.ext_getElem
      .simp
      .intro i h1 h2;simp at h1;simp[h1]]
     exact zBm (x:=.dat (.ref j)) rfl (zf eA)
    .exact .inl eA
    .have hi':=zYR.mp hi;have hc':i<cs'.length:=by rw[<-hA.1];exact hi'
     have ej':js'[i]?=some (js'.getD i 0):=by rw[zXs,zXr hi'];rfl
     have ec':cs'[i]?=some (cs'.getD i []):=by rw[zXs,zXr hc'];rfl
     obtain ⟨_,q2,q3⟩:=hA.2 i _ _ ej' ec';have hz:=q3.1;exact zL (x:=.dat (.ref (js'.getD i 0))) (y:=.dat (.int (r:Nat))) rfl rfl (zBN (zf q2) (zC9 (by omega) (by omega)))
    .congr 3;rw[zYB];refine zZa D.tup ?_;apply List.ext_getElem
     .simp[hA.1]
     .intro i h1 h2;simp at h1 h2;have h2':i<cs'.length:=h2;simp[h2']
   .unfold mD zDW;rw[zYB];rfl
  rw[zH,zAu];refine zE (M:=M') (a:=decide (srt=8)) (zv (zL (x:=.dat (.int srt)) rfl rfl (zT (zLR.mpr ⟨rfl,rfl⟩)))) ?_;by_cases h8:srt=8
  .rw[zX2 (by simpa using h8),zS];have s2:=slL (f:=zC 6) (fl:=zBy) (fh:=zBZ (fC (.int 1))) (σ:=[some (.ref n),some (.int most),some (.int lm),some (.int many),some (.int cnt),some (.int srt),some (.ref j6),x,y,none,none]) rfl rfl (zAW ej) rfl (oS (i:=1) rfl);rw[zJR]at s2;have hjl:0<js.length:=by rw[hcs.1];omega
   have hcl:0<cs.length:=by omega
   obtain ⟨j0,jr,rfl⟩:∃ a b,js=a::b:=by cases js with|nil=>simp at hjl|cons a b=>exact ⟨a,b,rfl⟩
   obtain ⟨c0,cr,rfl⟩:∃ a b,cs=a::b:=by cases cs with|nil=>simp at hcl|cons a b=>exact ⟨a,b,rfl⟩
   rw[show ((j0::jr).map D.ref).take 1=[D.ref j0]from rfl]at s2;have er:zKO (.fl [D.ref j0]) (.dat (.int cnt)) M'=some (.fl ((List.replicate cnt.toNat j0).map D.ref),M'):=by
    unfold zKO;dsimp only[zBz,zKc];rw[zX2 ⟨by omega,by omega,zX (by simp;omega)⟩];have:(List.replicate cnt.toNat [D.ref j0]).flatten=(List.replicate cnt.toNat j0).map D.ref:=by
     rw[List.map_replicate];generalize cnt.toNat=q;induction q with
     |zero=>rfl
     |succ q ih=>rw[zY6,zZm,ih,zY6];rfl
    rw[this]
   refine zBT.mpr (zE s2 (zAS.mpr ⟨_,rfl,zE er (zd ?_)⟩));rw[zN];obtain ⟨q1,q2,q3⟩:=hcs.2 0 j0 c0 rfl rfl;have hlj:j0<M'.length:=(zXq.mp q2).1;refine last _ M'.length (List.replicate cnt.toNat j0) (List.replicate cnt.toNat c0) (nw.trans (nw.gen.lst _ (zEC λz hz=>?_))) (zc _ _) ⟨by simp,λi j c h1 h2=>?_⟩ (by simp)
   .obtain ⟨a,ha,rfl⟩:=zX4.mp hz;rw[(List.mem_replicate.mp ha).2];simp[D.und,hlj]
   .have e1:j=j0:=(List.mem_replicate.mp (zYe h1)).2;have e2:c=c0:=(List.mem_replicate.mp (zYe h2)).2;subst e1 e2;exact ⟨q1,by rw[zXu hlj];exact q2,q3⟩
  .rw[zX5 (by simpa using h8),zAf,zN];exact last M' j6 js cs nw ej hcs hl
noncomputable def zCu:FS:=(zW (zj 1 (zA7 zI))
  (zW (zDA (zt (zC 0)) (gN 2) (sIf (tst (fOp (kIn true) (zC 2) (zC 1))) (zBO (fM zAF (zC 1) (zD (toD (zC 2)) zI))) zBX))
  (zAO (fB zAR (zU (zo [2] (zt (zC 0)) (gN 2) zq (fM zEd (zC 1) (zD (toD (zC 2)) zI))) zk)))))
noncomputable def zAn:FF:=zHr (zA3 3 zCu)
theorem zPO {xs:Ye} (h:zAJ M y=some (xs.map D.int)):kIn neg (.dat (.int g)) y M=some (.dat (.bl (if neg then !(xs.any λy=>decide (y=g)) else xs.any λy=>decide (y=g))),M):=by
 unfold kIn;dsimp only;rw[h];dsimp only;rw[zBB]
theorem zS0 (xs:Ye) (g:Int):(xs.any λy=>decide (y=g))=decide (g∈xs):=by
 induction xs with
 |nil=>rfl
 |cons x r ih=>
  rw[List.any_cons,ih];by_cases h:x=g
  .subst h;simp
  .have:¬ g=x:=λe=>h e.symm;simp[h,this]
noncomputable def zBx (xs:Ye):List Int:=xs.map λx=>((zK xs).idxOf x:Int)
theorem zDS (xs:Ye):(zBx xs).length=xs.length:=by unfold zBx;simp
theorem zPN {M:Mem} {xs:Ye} (h:M[j]?=some (.lst (xs.map D.int))) (hi:i∈xs) (hz:xs.length<=90000):zEd (.dat (.ref j)) [.int i] M=some (.int (xs.idxOf i),M):=by
 unfold zEd;dsimp only;rw[h];dsimp only;rw[zBB];dsimp only;rw[zX2 ⟨hi,hz⟩]
theorem zLt {M:Mem} (wf:∀ (j:Nat) u,M[j]?=some u->MO.und M.length u=true) {xs:Ye} (hj:M[j]?=some (.lst (xs.map D.int))) (hz:xs.length<=4000):zAn [.ref j] M=some (tI (zBx xs),M):=by
 refine zT ?_;unfold zAn;refine zJh ?_;rw[zr];unfold zCu;have hjl:j<M.length:=(zXq.mp hj).1;rw[zH,zS];refine zDs.mpr (zAe.mpr ⟨zX (by simp),zd ?_⟩);rw[zN,zH,zBE];have ej:∀ u:MO,(M++[u])[j]?=some (.lst (xs.map D.int)):=λu=>by rw[zXu hjl];exact hj
 refine ⟨_,_,_,zBm (x:=.dat (.ref j)) rfl (zf (ej _)),?_⟩;refine zAp (I:=λr σ M'=>∃ (y:Option D) (a b:Ye),σ=[some (.ref j),some (.ref M.length),y]/\r=b.map D.int/\a++b=xs/\M'=M++[.lst ((zK a).map D.int)]) ?_ ?_ _ _ _ ⟨none,[],xs,rfl,rfl,rfl,rfl⟩
 .rintro x r σ M' ⟨y,a,b,rfl,hr,hab,rfl⟩;obtain ⟨g,b',rfl,rfl,rfl⟩:=zAY hr;refine ⟨.inl (ej _),_,rfl,?_⟩;have ek:(M++[MO.lst ((zK a).map D.int)])[M.length]?=some (.lst ((zK a).map D.int)):=zc _ _;have hin:zK (a++[g])=ins (zK a) g:=by unfold zK;rw[zZl];rfl
  rw[zAu];refine zE (M:=M++[MO.lst ((zK a).map D.int)]) (a:=!decide (g∈zK a)) ?_ ?_
  .refine zv (zL (x:=.dat (.int g)) (y:=.dat (.ref M.length)) rfl rfl ?_);rw[zPO (zf ek),zS0];rfl
  have hla:a.length<xs.length:=by rw[<-hab];simp
  have hli:=zA8 a;by_cases hg:g∈zK a
  .rw[zX5 (by simp[hg]),zAf];refine ⟨_,a++[g],b',rfl,rfl,by rw[<-hab];simp,?_⟩;rw[hin];unfold ins;rw[zX2 hg]
  .rw[zX2 (by simp[hg]),zBV];refine zGe.mpr (zAS.mpr ⟨_,rfl,⟨_,zAW ek⟩,zE (zY (d:=.int g) rfl) ?_⟩);rw[zBl ek (by rw[zXw];exact zYC (m:=95000) (by omega) (zX (by omega)))];refine ⟨_,a++[g],b',rfl,rfl,by rw[<-hab];simp,?_⟩;rw[hin];unfold ins;rw[zX5 hg,List.set_append_right _ _ (zXt _)];simp
 .rintro σ M' ⟨y,a,b,rfl,hr,hab,rfl⟩;have:b=[]:=by cases b with|nil=>rfl|cons _ _=>cases hr
  subst this;rw[zYX]at hab;subst hab;refine ⟨.inl (ej _),?_⟩;rw[zN];have ek:(M++[MO.lst ((zK a).map D.int)])[M.length]?=some (.lst ((zK a).map D.int)):=zc _ _;have hli:=zA8 a;refine zAK (d:=tI (zBx a)) ?_ ⟨⟨zAC _,by simp,λi u hi e=>?_⟩,rfl,by simp⟩
  .refine (zAw (zAa (gd:=zDr (.dat (.ref j)) (a.map D.int)) a D.int (λx=> .int ((zK a).idxOf x:Int)) (zBm (x:=.dat (.ref j)) rfl (zf (ej _))) (.inl (ej _)) (by omega) λx hx=>⟨_,rfl,?_⟩) zCL).trans ?_
   .refine zT (zGe.mpr (zAS.mpr ⟨_,rfl,⟨_,zAW ek⟩,zE (zY (d:=.int x) rfl) (zE (zPN ek ((zBa a x).mpr hx) (by omega)) ⟨rfl,rfl⟩)⟩))
   .unfold zBx tI;rw[zYB];rfl
  .rw[zXu hi]at e;exact wf i u e
theorem zUt (ha:a σ M=some (true,M)):zE2 a b σ M=some (true,M):=by unfold zE2;rw[ha]
theorem zMx (ha:a σ M=some (false,M)) (hb:b σ M=some (k,M)):zE2 a b σ M=some (k,M):=by unfold zE2;rw[ha];exact hb
theorem ntT (ha:a σ M=some (.dat (.bl k),M)):zGT (tst a) σ M=some (!k,M):=by
 refine zT (zOC.mpr (zE (zv ha) ⟨rfl,rfl⟩))
theorem zNy (h:f σ M=some (.dat d,M)):toD f σ M=some (d,M):=by unfold toD;rw[h]
theorem zTC {g:FA} {σ:Sd} {M M1:Mem} {ds:List D} (h:g σ M=some (ds,M1)) (hz:ds.length<=100000):zA7 g σ M=some (.fl ds,M1):=by
 unfold zA7;rw[h];dsimp only;rw[zX2 (zX hz)]
theorem zIB {g:FA} {σ:Sd} {M M1:Mem} {ds:List D} (h:g σ M=some (ds,M1)) (hz:ds.length<=100000):zAq g σ M=some (.dat (.tup ds),M1):=by
 unfold zAq;rw[h];dsimp only;rw[zX2 (zX hz)]
theorem zSm (hf:f σ M=some (.dat (.int i),M)) (hg:g σ M=some (.dat (.int j),M)):fB zJQ (zU f (zU g zk)) σ M=some (.dat (.int (if j<i then j else i)),M):=by
 unfold fB zU zk;rw[hf];dsimp only;rw[hg];rfl
theorem zSS (hf:f σ M=some (.dat (tI xs),M)) (hg:g σ M=some (.dat (.int i),M)) (hi:i∈xs):zF2 f g σ M=some (.dat (.int (xs.idxOf i)),M):=by
 unfold zF2;have e1:toD f σ M=some (.tup (xs.map D.int),M):=by unfold toD;rw[hf];rfl
 have e2:toD g σ M=some (.int i,M):=by unfold toD;rw[hg]
 rw[e1];dsimp only;rw[zBB];dsimp only;rw[e2];dsimp only;rw[zX2 hi]
noncomputable def zDg:FS:=(zW (zj 3 (zP zAz (zD (toD (zC 0)) (zD (toD (fC (.int 7))) (zD (toD (zC 2)) zI)))))
  (zW (zj 4 (fOp zAX (fB zAv (zU (zC 3) zk)) (zP ze (zD (toD (zC 0)) (zD (toD (fOp zIE (fOp zAX (zC 1) (fC (.int 1))) (fB zAv (zU (zC 3) zk)))) zI)))))
  (zW (zj 5 (fOp zGK (zFV (fB zAv (zU (zC 3) zk))) (zo [6] (zAc (zD (toD (fOp zIE (zC 4) (fB zAv (zU (zC 3) zk)))) zI)) (gN 6) zq (zP ze (zD (toD (zC 0)) (zD (toD (fB zAv (zU (zC 3) zk))) zI))))))
  (zW (zj 7 (zP ze (zD (toD (zC 0)) (zD (toD (zC 4)) zI))))
  (zW (zj 5 (fOp zGK (fSl (zC 5) (zBZ (zC 7)) zBy) (fSl (zC 5) zBy (zBZ (zC 7)))))
  (zW (zj 8 (zA7 zI))
  (zW (zDA (zt (zC 5)) (gN 9) (zW (zj 10 (zA7 zI))
  (zW (zDA (zt (fOp kIx (zC 3) (zC 9))) (gN 11) (zW (zj 12 (zo [6] (zAc (zD (toD (zC 4)) zI)) (gN 6) (tst (fOp kEq (fOp kIx (zC 5) (zC 6)) (zC 11))) (zC 6)))
  (zBO (fM zAF (zC 10) (zD (toD (fOp kIx (zC 12) (zP ze (zD (toD (zC 0)) (zD (toD (fB zAv (zU (zC 12) zk))) zI))))) zI)))))
  (zBO (fM zAF (zC 8) (zD (toD (fB zAR (zU (zC 10) zk))) zI))))))
  (zAO (zAq (zD (toD (fB zAR (zU (zC 8) zk))) (zD (toD (zC 5)) zI)))))))))))
noncomputable def zBn:FF:=zA3 13 zDg
noncomputable def zDl:FS:=(zW (sIf (tst (fOp kEq (zP ze (zD (toD (zC 0)) (zD (toD (fC (.int 2))) zI))) (fC (.int 0)))) (zLn (zC0 3 4) (zP zBn (zD (toD (zC 0)) (zD (toD (zC 1)) (zD (toD (zC 2)) zI))))) (zW (zj 3 (zP zAz (zD (toD (zC 0)) (zD (toD (zC 1)) (zD (toD (zC 2)) zI)))))
  (zW (zj 5 (fOp zAX (fC (.int 1)) (zP ze (zD (toD (zC 0)) (zD (toD (fB zAv (zU (zC 3) zk))) zI)))))
  (zj 4 (zo [6] (zt (zC 3)) (gN 6) zq (zP ze (zD (toD (zC 0)) (zD (toD (zC 5)) zI))))))))
  (zAO (zAq (zD (toD (zC 3)) (zD (toD (zP zAn (zD (toD (zC 4)) zI))) zI)))))
noncomputable def zBr:FF:=zHr (zA3 7 zDl)
theorem zPF (h:Gen M n k) (h0:0<few) (h1:few<1073741824) (m1:xs.length<=90000)
  (hf:f σ M=some (.dat (.tup xs),M)) (ha:∀ (x:D) (M:Mem),fa ((zBD own σ).set i (some x)) M=some (.dat (.ref n),M)) (hb:∀ (x:D) (M:Mem),fb ((zBD own σ).set i (some x)) M=some (.dat (.int few),M)) :
  Ok (zo own (zt f) (gN i) zq (zP ze (zD (toD fa) (zD (toD fb) zI))) σ M) λx M'=>(∃ c:List Int,x=.fl (c.map D.int)/\c.length=xs.length /\ ∀ y∈c,0<=y/\y<few)/\Nw M M' n k:=by
 refine zC3.mpr ⟨_,_,_,zCz hf,zX (by omega),?_⟩;refine Ok.mono (zBu (I:=λr acc M2=>(∃ c:List Int,acc=c.map D.int/\c.length+r.length=xs.length /\ ∀ y∈c,0<=y/\y<few)/\Nw M M2 n k) (Q:=λacc M2=>(∃ c:List Int,acc=c.map D.int/\c.length=xs.length /\ ∀ y∈c,0<=y/\y<few)/\Nw M M2 n k) ?_ ?_ _ [] _ ⟨⟨[],rfl,by simp,λ_ h=>by cases h⟩,Nw.refl h⟩) ?_
 .rintro x r acc M2 ⟨⟨c,rfl,hcl,hc⟩,nw⟩;refine ⟨zAI,_,rfl,zFL.mpr ?_⟩;rw[zX2 rfl];refine zAo nw.gen (ha _ _) (hb _ _) h0 h1 λg M3 g0 g1 nw3 hl3=>?_;rw[zJ];refine ⟨⟨c++[g],by simp,by simp at hcl ⊢;omega,λz hz=>?_⟩,nw.trans nw3⟩;rcases zYD.mp hz with q|q
  .exact hc z q
  .have:z=g:=by simpa using q
   subst this;exact ⟨g0,g1⟩
 .rintro acc M2 ⟨⟨c,rfl,hcl,hc⟩,nw⟩;exact ⟨zAI,⟨c,rfl,by simpa using hcl,hc⟩,nw⟩
 .rintro ys M2 ⟨⟨c,hc0,hcl,hc⟩,nw⟩;rw[List.nil_append]at hc0;exact ⟨⟨c,by rw[hc0],hcl,hc⟩,nw⟩
theorem zOG {xs:List D} (h:q<=xs.length):L3.zDi xs (some (q:Int)) none=xs.drop q:=by
 have s:HT.sIx xs.length 0 (some (q:Int))=q:=by rw[HT.zGw];omega
 have z:HT.sIx xs.length xs.length none=xs.length:=rfl;unfold L3.zDi;rw[s,z,List.take_of_length_le (by simp)]
theorem zO9 {xs:List D} (h:q<=xs.length):L3.zDi xs none (some (q:Int))=xs.take q:=by
 have s:HT.sIx xs.length xs.length (some (q:Int))=q:=by rw[HT.zGw];omega
 have z:HT.sIx xs.length 0 none=0:=rfl;unfold L3.zDi;rw[s,z];simp
theorem zNM {M:Mem} {ow:Ye} (hz:many<=1000) (hl:ow.length=many) (ej:M[j]?=some (.lst (ow.map D.int))) (hg:g∈ow) :
  Ok (zo [6] (zAc (zD (toD (zC 4)) zI)) (gN 6) (tst (fOp kEq (fOp kIx (zC 5) (zC 6)) (zC 11))) (zC 6) [a0,a1,a2,a3,some (.int many),some (.ref j),a6,a7,a8,a9,a10,some (.int g),a12] M) λx M'=>M'=M /\ ∃ c:List Int,x=.fl (c.map D.int)/\c≠[]/\c.length<=many /\ ∀ y∈c,0<=y/\y<(many:Int):=by
 refine zC3.mpr ⟨_,_,_,zCk (j:=(many:Int)) rfl (by omega) (by omega),by rw[zDF];exact zX (by omega),?_⟩;rw[show (many:Int).toNat=many by omega];refine Ok.mono (zBu (I:=λr acc M2=>M2=M /\ ∃ (i:Nat) (c:Ye),i<=many/\r=zCN i (many-i)/\acc=c.map D.int/\c.length<=i/\(∀ y∈c,0<=y/\y<(many:Int)) /\ ∀ r,r<i->ow.getD r 0=g->c≠[]) (Q:=λacc M2=>M2=M /\ ∃ c:List Int,acc=c.map D.int/\c≠[]/\c.length<=many /\ ∀ y∈c,0<=y/\y<(many:Int)) ?_ ?_ _ [] _ ⟨rfl,0,[],zYZ _,by simp,rfl,by simp,(λ_ h=>by cases h),λr h=>by omega⟩) ?_
 .rintro x r acc M2 ⟨rfl,i,c,hi,e,rfl,hcl,hc,hne⟩;have hlt:i<many:=by
   rcases zY9 i many with z|z
   .exact z
   .rw[show many-i=0 by omega]at e;cases e
  rw[show many-i=(many-(i+1))+1 by omega]at e;obtain ⟨rfl,rfl⟩:=zYr e;refine ⟨zAI,_,rfl,?_⟩;have hat:atI (ow.map D.int) ((i:Nat):Int)=some (.int (ow.getD i 0)):=by
   have:=zC9 (r:=ow) (g:=((i:Nat):Int)) (by omega) (by omega);rw[zaX]at this;exact this
  refine zE (M:=M2) (a:=decide (ow.getD i 0=g)) (zv (zL (x:=.dat (.int (ow.getD i 0))) (y:=.dat (.int g)) (zL (x:=.dat (.ref j)) (y:=.dat (.int ((i:Nat):Int))) rfl rfl (zBN (zf ej) hat)) rfl (zT (zLR.mpr ⟨rfl,rfl⟩)))) ?_;by_cases he:ow.getD i 0=g
  .rw[zX2 (by simpa using he)];refine zE (M:=M2) (a:=.dat (.int ((i:Nat):Int))) rfl ?_;rw[zJ];refine ⟨rfl,i+1,c++[((i:Nat):Int)],hlt,rfl,by simp,by simp;omega,λy hy=>?_,λ_ _ _=>by simp⟩;rcases zYD.mp hy with q|q
   .exact hc y q
   .have:y=((i:Nat):Int):=by simpa using q
    omega
  .rw[zX5 (by simpa using he)];refine ⟨rfl,i+1,c,hlt,rfl,rfl,by omega,hc,λr hr hq=>?_⟩;rcases zY9 r i with z|z
   .exact hne r z hq
   .have:r=i:=by omega
    subst this;exact absurd hq he
 .rintro acc M2 ⟨rfl,i,c,hi,e,rfl,hcl,hc,hne⟩;have:i=many:=by
   rcases zY9 i many with z|z
   .rw[show many-i=(many-(i+1))+1 by omega]at e;cases e
   .omega
  subst this;obtain ⟨q,hq,eq⟩:=List.mem_iff_getElem.mp hg;exact ⟨zAI,rfl,c,rfl,hne q (by omega) (by rw[zXs,zXr hq];exact eq),hcl,hc⟩
 .rintro ys M2 ⟨rfl,c,e,h⟩;rw[List.nil_append]at e;exact ⟨rfl,c,by rw[e],h⟩
theorem zOx (h:Gen M n k) (hm:9<=most) (hm1:most<=900) (hl:0<lm) (hl1:lm<=900) :
  Ok (zBn [.ref n,.int most,.int lm] M) λd M'=>∃ zA l j ow,d=.tup [mD zA,.ref j]/\IsM zA l/\(zA.length:Int)<=most/\(l:Int)<=lm/\M'[j]?=some (.lst ((ow:Ye).map D.int))/\ow.length=zA.length/\Nw M M' n k:=by
 obtain ⟨hn,hk⟩:=h.lt;unfold zBn;rw[zr];unfold zDg;rw[zH,zS];refine zAl.mpr (zE (zg rfl (zg rfl (zY rfl))) ?_);refine Ok.mono (zHX h (by decide) (by decide) hl hl1) ?_;rintro d M1 ⟨⟨base,l,rfl,mb,hB,hL⟩,nw1⟩;have b0:=mb.r0;have l0:=mb.l0;have hB':base.length<=8:=by omega
 rw[zJ,zN,zH,zS];refine zBT.mpr (zE (zCI rfl) ?_);refine zAo nw1.gen rfl (zL (x:=.dat (.int (most+1))) (zL rfl rfl rfl) (zCI rfl) rfl) (by omega) (by omega) λex M2 x0 x1 nw2 _=>zGD.mpr ?_;rw[zJ,zN,zH,zS];have nw2':=nw1.trans nw2;obtain ⟨many,hmany⟩:∃ many:Nat,(base.length:Int)+ex=(many:Int):=⟨((base.length:Int)+ex).toNat,by omega⟩;rw[hmany];have mB:base.length<=many:=by omega
 have mM:(many:Int)<=most:=by omega
 have elr:zFV (fB zAv (zU (zC 3) zk)) [some (.ref n),some (.int most),some (.int lm),some (mD base),some (.int many),none,none,none,none,none,none,none,none] M2=some (.fl (((List.range base.length).map λ(k:Nat)=>(k:Int)).map D.int),M2):=by
  unfold zFV;rw[zCI (zA:=base) rfl];dsimp only;rw[zX2 ⟨by omega,by omega⟩,zN8,show (base.length:Int).toNat=base.length by omega]
 refine zBT.mpr (zE elr ?_);refine Ok.mono (zLU nw2'.gen (few:=base.length) (many:=(many:Int)-base.length) (by omega) (by omega) (by omega) (by omega) (zL rfl (zCI rfl) rfl) (λ_ _=>rfl) (λ_ _=>zCI rfl)) ?_;rintro x M3 ⟨⟨cx,rfl,hcl,hcx⟩,nw3,_⟩;have nw3':=nw2'.trans nw3;refine zMW rfl rfl (by simp;omega) (zd ?_);rw[<-zYf,zN];generalize how:((List.range base.length).map λ(k:Nat)=>(k:Int))++cx=ow;have owl:ow.length=many:=by rw[<-how];simp;omega
 have owb:∀ x∈ow,0<=x/\x<base.length:=by
  intro x hx;rw[<-how]at hx;rcases zYD.mp hx with q|q
  .obtain ⟨a,ha,rfl⟩:=zX4.mp q;have:=zYR.mp ha;omega
  .exact hcx x q
 have ows:∀ g:Int,0<=g->g<base.length->g∈ow:=by
  intro g g0 g1;rw[<-how];exact zY2 _ (zX4.mpr ⟨g.toNat,zYR.mpr (by omega),by omega⟩)
 have nw4:=nw3'.trans (nw3'.gen.lst (ow.map D.int) (zm _ _));have e5:(M3++[MO.lst (ow.map D.int)])[M3.length]?=some (.lst (ow.map D.int)):=zc _ _;have hj5:M.length<=M3.length:=nw3'.len;generalize hM4:M3++[MO.lst (ow.map D.int)]=M4 at nw4 e5;generalize M3.length=j5 at e5 hj5;rw[zH,zS];refine zAo nw4.gen rfl rfl (by omega) (by omega) λtn M5 t0 t1 nw5 _=>?_;rw[zJ,zN,zH,zS];have nw5':=nw4.trans nw5;have e5':=nw5.get e5 (by omega) (by omega);obtain ⟨t,ht⟩:∃ t:Nat,tn=(t:Int):=⟨tn.toNat,by omega⟩;subst ht;have s1:=slL (f:=zC 5) (fl:=zBZ (zC 7)) (fh:=zBy) (σ:=[some (.ref n),some (.int most),some (.int lm),some (mD base),some (.int many),some (.ref j5),none,some (.int (t:Nat)),none,none,none,none,none]) rfl rfl (zAW e5') (oS (i:=(t:Int)) rfl) rfl;have s2:=slL (f:=zC 5) (fl:=zBy) (fh:=zBZ (zC 7)) (σ:=[some (.ref n),some (.int most),some (.int lm),some (mD base),some (.int many),some (.ref j5),none,some (.int (t:Nat)),none,none,none,none,none]) rfl rfl (zAW e5') rfl (oS (i:=(t:Int)) rfl);rw[zOG (by simp;omega)]at s1;rw[zO9 (by simp;omega)]at s2;refine zBT.mpr (zE s1 (zE s2 (zMW rfl rfl (by simp;omega) (zd ?_))));rw[<-List.map_drop,<-List.map_take,<-zYf,zN];have hmem:∀ x,x∈ow.drop t++ow.take t ↔ x∈ow:=λx=>by
  rw[zYD,Or.comm,<-zYD,List.take_append_drop]
 have hlen':(ow.drop t++ow.take t).length=many:=by simp;omega
 generalize ow.drop t++ow.take t=ow2 at hmem hlen';replace owb:∀ x∈ow2,0<=x/\x<base.length:=λx hx=>owb x ((hmem x).mp hx);replace ows:∀ g:Int,0<=g->g<base.length->g∈ow2:=λg g0 g1=>(hmem g).mpr (ows g g0 g1);have nw6:=nw5'.trans (nw5'.gen.lst (ow2.map D.int) (zm _ _));have e6:(M5++[MO.lst (ow2.map D.int)])[M5.length]?=some (.lst (ow2.map D.int)):=zc _ _;have hj6:M.length<=M5.length:=nw5'.len;generalize M5++[MO.lst (ow2.map D.int)]=M6 at nw6 e6;generalize M5.length=j at e6 hj6;rw[zH,zS];refine zDs.mpr (zAe.mpr ⟨zX (by simp),zd ?_⟩);rw[zN];have nw7:=nw6.trans (nw6.gen.lst [] rfl);have e8:(M6++[MO.lst ([]:List D)])[M6.length]?=some (.lst []):=zc _ _;have hj8:M.length<=M6.length:=nw6.len;have hjlt:j<M6.length:=(zXq.mp e6).1;have e6':(M6++[MO.lst ([]:List D)])[j]?=some (.lst (ow2.map D.int)):=by rw[zXu hjlt];exact e6
 generalize M6++[MO.lst ([]:List D)]=M7 at nw7 e8 e6';generalize M6.length=j8 at e8 hj8 hjlt;rw[zH,zBE];refine ⟨_,_,_,zBm (x:=.dat (.ref j)) rfl (zf e6'),?_⟩;refine zAp (I:=λr σ M'=>(∃ y6 y9 y10 y11 y12,σ=[some (.ref n),some (.int most),some (.int lm),some (mD base),some (.int many),some (.ref j),y6,some (.int (t:Nat)),some (.ref j8),y9,y10,y11,y12]) /\ ∃ (r':Ye) (zA:Ya),r=r'.map D.int/\(∀ x∈r',x∈ow2)/\zA.length+r'.length=many/\(∀ q∈zA,q.length=l /\ ∀ g∈q,0<=g/\g<(many:Int))/\M'[j]?=some (.lst (ow2.map D.int))/\M'[j8]?=some (.lst (zA.map λr=>D.tup (r.map D.int)))/\Nw M M' n k) ?_ ?_ _ _ _ ⟨⟨_,_,_,_,_,rfl⟩,ow2,[],rfl,λ_ h=>h,by simpa using hlen',(λ_ h=>by cases h),e6',e8,nw7⟩
 .rintro x r σ M' ⟨⟨y6,y9,y10,y11,y12,rfl⟩,r',zA,hr,hsub,hrl,hrw,ej,ej8,nw⟩;obtain ⟨o,r'',rfl,rfl,rfl⟩:=zAY hr;refine ⟨.inl ej,_,rfl,?_⟩;obtain ⟨o0,o1⟩:=owb o (hsub o zX1);obtain ⟨bl,bb⟩:=mb.get (h:=o) o0 o1;rw[zH,zS];refine zDs.mpr (zAe.mpr ⟨zX (by simp),zd ?_⟩);rw[zN];have nwa:=nw.trans (nw.gen.lst [] rfl);have e10:(M'++[MO.lst ([]:List D)])[M'.length]?=some (.lst []):=zc _ _;have hj10:M.length<=M'.length:=nw.len;have l8:j8<M'.length:=(zXq.mp ej8).1;have l5:j<M'.length:=(zXq.mp ej).1;have ej':(M'++[MO.lst ([]:List D)])[j]?=some (.lst (ow2.map D.int)):=by rw[zXu l5];exact ej
  have ej8':(M'++[MO.lst ([]:List D)])[j8]?=some (.lst (zA.map λr=>D.tup (r.map D.int))):=by rw[zXu l8];exact ej8
  generalize M'++[MO.lst ([]:List D)]=Ma at nwa e10 ej' ej8';generalize M'.length=j10 at e10 hj10 l8 l5;generalize hrow:base.getD o.toNat []=row at bl bb;rw[zH,zBE];have erow:fOp kIx (zC 3) (zC 9) [some (.ref n),some (.int most),some (.int lm),some (mD base),some (.int many),some (.ref j),y6,some (.int (t:Nat)),some (.ref j8),some (.int o),some (.ref j10),y11,y12] Ma=some (.dat (.tup (row.map D.int)),Ma):=by
   rw[<-hrow];exact zL rfl rfl (zBN zu (zNU o0 o1))
  refine ⟨_,_,_,zCz erow,?_⟩;refine zAp (I:=λr σ M''=>(∃ y6 y11 y12,σ=[some (.ref n),some (.int most),some (.int lm),some (mD base),some (.int many),some (.ref j),y6,some (.int (t:Nat)),some (.ref j8),some (.int o),some (.ref j10),y11,y12]) /\ ∃ (r' q:Ye),r=r'.map D.int/\(∀ x∈r',x∈row)/\q.length+r'.length=l/\(∀ g∈q,0<=g/\g<(many:Int))/\M''[j]?=some (.lst (ow2.map D.int))/\M''[j8]?=some (.lst (zA.map λr=>D.tup (r.map D.int)))/\M''[j10]?=some (.lst (q.map D.int))/\Nw M M'' n k) ?_ ?_ _ _ _ ⟨⟨_,_,_,rfl⟩,row,[],rfl,λ_ h=>h,by simpa using bl,(λ_ h=>by cases h),ej',ej8',e10,nwa⟩
  .rintro x r σ Mx ⟨⟨y6,y11,y12,rfl⟩,r',q,hr',hsub',hql,hq,f5,f8,f10,nwx⟩;obtain ⟨g,rr,rfl,rfl,rfl⟩:=zAY hr';refine ⟨zAI,_,rfl,?_⟩;obtain ⟨g0,g1⟩:=bb g (hsub' g zX1);rw[zH,zS];refine Ok.mono (zNM (by omega) hlen' f5 (ows g g0 g1)) ?_;rintro x M9 ⟨rfl,c,rfl,hne,hcz,hc⟩;refine zd ?_;rw[zN,zBV];have nwb:=nwx.trans (nwx.gen.lst (c.map D.int) (zm _ _));have e12:(M9++[MO.lst (c.map D.int)])[M9.length]?=some (.lst (c.map D.int)):=zc _ _;have p5:j<M9.length:=(zXq.mp f5).1;have p8:j8<M9.length:=(zXq.mp f8).1;have p10:j10<M9.length:=(zXq.mp f10).1;have f5':(M9++[MO.lst (c.map D.int)])[j]?=some (.lst (ow2.map D.int)):=by rw[zXu p5];exact f5
   have f8':(M9++[MO.lst (c.map D.int)])[j8]?=some (.lst (zA.map λr=>D.tup (r.map D.int))):=by rw[zXu p8];exact f8
   have f10':(M9++[MO.lst (c.map D.int)])[j10]?=some (.lst (q.map D.int)):=by rw[zXu p10];exact f10
   have hj12:M.length<=M9.length:=nwx.len;generalize M9++[MO.lst (c.map D.int)]=Mb at nwb e12 f5' f8' f10';generalize M9.length=j12 at e12 hj12 p5 p8 p10;have hcl0:0<c.length:=List.length_pos_iff.mpr hne;have elen:fB zAv (zU (zC 12) zk) [some (.ref n),some (.int most),some (.int lm),some (mD base),some (.int many),some (.ref j),y6,some (.int (t:Nat)),some (.ref j8),some (.int o),some (.ref j10),some (.int g),some (.ref j12)] Mb=some (.dat (.int c.length),Mb):=by
    have:=zCi (f:=zC 12) (σ:=[some (.ref n),some (.int most),some (.int lm),some (mD base),some (.int many),some (.ref j),y6,some (.int (t:Nat)),some (.ref j8),some (.int o),some (.ref j10),some (.int g),some (.ref j12)]) (M:=Mb) rfl (zf e12);rw[zXw]at this;exact this
   refine zGe.mpr (zAS.mpr ⟨_,rfl,⟨_,zAW f10'⟩,zAG.mpr (zAZ.mpr (zBT.mpr (zAS.mpr ⟨_,rfl,?_⟩)))⟩);refine zAo nwb.gen rfl elen (by omega) (by omega) λz Mc z0 z1 nwc _=>?_;have h12:=nwc.get e12 (by omega) (by omega);refine zSO (zf h12) (zC9 z0 z1) ?_;have hcv:=hc (c.getD z.toNat 0) (by rw[zXs,zXr (by omega)];exact zYL _);have h5:=nwc.get f5' (by omega) (by omega);have h8:=nwc.get f8' (by omega) (by omega);have h10:=nwc.get f10' (by omega) (by omega);generalize c.getD z.toNat 0=v at hcv;have hql':q.length<l:=by simp at hql;omega
   rw[zJ,zAe,zBl h10 (by rw[zXw];exact zYC (m:=95000) (by omega) (zX (by omega)))];refine ⟨⟨_,_,_,rfl⟩,rr,q++[v],rfl,λx hx=>hsub' x (zX0 _ hx),by simp at hql ⊢;omega,λx hx=>?_,?_,?_,?_,?_⟩
   .rcases zYD.mp hx with w|w
    .exact hq x w
    .have:x=v:=by simpa using w
     subst this;exact hcv
   .rw[zYH (by omega)];exact h5
   .rw[zYH (by omega)];exact h8
   .rw[zYh (zXq.mp h10).1,zYf];rfl
   .refine (nwb.trans nwc).setB h (by omega) ?_;show D.unds _ _=true;rw[zFK,zm];rfl
  .rintro σ Mx ⟨⟨y6,y11,y12,rfl⟩,r',q,hr',hsub',hql,hq,f5,f8,f10,nwx⟩;have:r'=[]:=by cases r' with|nil=>rfl|cons _ _=>cases hr'
   subst this;refine ⟨zAI,?_⟩;rw[zN,zBV];have et:fB zAR (zU (zC 10) zk) [some (.ref n),some (.int most),some (.int lm),some (mD base),some (.int many),some (.ref j),y6,some (.int (t:Nat)),some (.ref j8),some (.int o),some (.ref j10),y11,y12] Mx=some (.dat (.tup (q.map D.int)),Mx):=zAw (x:=.dat (.ref j10)) rfl (zf f10);refine zGe.mpr (zAS.mpr ⟨_,rfl,⟨_,zAW f8⟩,zE (zY et) ?_⟩);have hrl':zA.length<many:=by simp at hrl;omega
   rw[zBl f8 (by rw[zXw];exact zYC (m:=95000) (by omega) (zX (by omega)))];refine ⟨⟨_,_,_,_,_,rfl⟩,r'',zA++[q],rfl,λx hx=>hsub x (zX0 _ hx),by simp at hrl ⊢;omega,λx hx=>?_,?_,?_,?_⟩
   .rcases zYD.mp hx with w|w
    .exact hrw x w
    .have:x=q:=by simpa using w
     subst this;exact ⟨by simpa using hql,hq⟩
   .rw[zYH (by omega)];exact f5
   .rw[zYh (zXq.mp f8).1,zYf];rfl
   .refine nwx.setB h hj8 ?_;show D.unds _ _=true;rw[zFK,zRR];simp[D.unds,zAC]
 .rintro σ M' ⟨⟨y6,y9,y10,y11,y12,rfl⟩,r',zA,hr,hsub,hrl,hrw,ej,ej8,nw⟩;have:r'=[]:=by cases r' with|nil=>rfl|cons _ _=>cases hr
  subst this;refine ⟨.inl ej,?_⟩;rw[zN];have hrl':zA.length=many:=by simpa using hrl
  refine zAK (zIB (zg (d:=mD zA) (zAw (x:=.dat (.ref j8)) rfl (zf ej8)) (zY (d:=.ref j) rfl)) (by simp)) ⟨zA,l,j,ow2,rfl,⟨by omega,l0,λq hq=>?_⟩,by omega,hL,ej,by omega,nw⟩;obtain ⟨q1,q2⟩:=hrw q hq;exact ⟨q1,λg hg=>by rw[hrl'];exact q2 g hg⟩
theorem zOO (h:Gen M n k) (hm:9<=most) (hm1:most<=900) (hl:0<lm) (hl1:lm<=900) :
  Ok (zBr [.ref n,.int most,.int lm] M) λd M'=>∃ zA l p,d=.tup [mD zA,tI p]/\IsM zA l/\(zA.length:Int)<=most/\(l:Int)<=lm/\p.length=zA.length/\Nw M M' n k:=by
 obtain ⟨hn,hk⟩:=h.lt;unfold zBr;refine zJh ?_;rw[zr];unfold zDl
 have tail:∀ (A:Mem) (zA:Ya) (l j:Nat) (ow:Ye) (y5 y6:Option D),Nw M A n k->IsM zA l->(zA.length:Int)<=most->(l:Int)<=lm->A[j]?=some (.lst (ow.map D.int))->ow.length=zA.length ->
   OkS (zAO (zAq (zD (toD (zC 3)) (zD (toD (zP zAn (zD (toD (zC 4)) zI))) zI))) [some (.ref n),some (.int most),some (.int lm),some (mD zA),some (.ref j),y5,y6] A) λo x M1=>match o with
    |.ret d=>(D.und M.length d=true/\M.length<=M1.length /\ ∀ (j:Nat) u,j<M.length->M1[j]?=some u->MO.und M.length u=true) /\ ∃ zA l p,d=.tup [mD zA,tI p]/\IsM zA l/\(zA.length:Int)<=most/\(l:Int)<=lm/\p.length=zA.length/\Nw M (M1.take M.length) n k
    |.nx=>(D.und M.length .non=true/\M.length<=M1.length /\ ∀ (j:Nat) u,j<M.length->M1[j]?=some u->MO.und M.length u=true) /\ ∃ zA l p,D.non=.tup [mD zA,tI p]/\IsM zA l/\(zA.length:Int)<=most/\(l:Int)<=lm/\p.length=zA.length/\Nw M (M1.take M.length) n k
    |_=>False:=by
  intro A zA l j ow y5 y6 nw m h1 h2 ej hol;refine zAK (zIB (zg (d:=mD zA) rfl (zY (d:=tI (zBx ow)) (zh (zY (d:=.ref j) rfl) (zLt nw.gen.wf ej (by omega))))) (by simp)) ⟨⟨?_,nw.len,nw.wf0 h⟩,zA,l,zBx ow,rfl,m,h1,h2,by rw[zDS,hol],nw.trim h⟩;unfold D.und D.unds D.unds D.unds;rw[zCK];simp[tI,zAC]
 rw[zH,zAu];refine zJy.mpr (zBT.mpr (zAo h rfl rfl (by decide) (by decide) λw M1 w0 w1 nw1 _=>zFH.mpr (zLR.mpr (zJs.mpr ?_))));by_cases hw:w=0
 .rw[zX2 (by simpa using hw),zGx];refine zAl.mpr (zE (zg rfl (zg rfl (zY rfl))) ?_);refine Ok.mono (zOx nw1.gen hm hm1 hl hl1) ?_;rintro d M2 ⟨zA,l,j,ow,rfl,m,h1,h2,ej,hol,nw2⟩;rw[zJ];refine ⟨_,rfl,?_⟩;rw[zN];exact tail M2 zA l j ow _ _ (nw1.trans nw2) m h1 h2 ej hol
 .rw[zX5 (by simpa using hw),zH,zS];refine zAl.mpr (zE (zg rfl (zg rfl (zY rfl))) ?_);refine Ok.mono (zHX nw1.gen (by omega) hm1 hl hl1) ?_;rintro d M2 ⟨⟨zA,l,rfl,m,h1,h2⟩,nw2⟩;have r0:=m.r0;have nw2':=nw1.trans nw2;rw[zJ,zN,zH,zS];refine zBT.mpr (zFH.mpr (zAo nw2'.gen rfl (zCI rfl) (by omega) (by omega) λf M3 f0 f1 nw3 _=>zGD.mpr ?_));have nw3':=nw2'.trans nw3;rw[zJ,zN,zS];refine Ok.mono (zPF nw3'.gen (few:=1+f) (xs:=zA.map λr=>D.tup (r.map D.int)) (by omega) (by omega) (by simp;omega) rfl (λ_ _=>rfl) (λ_ _=>rfl)) ?_;rintro x M4 ⟨⟨c,rfl,hcl,_⟩,nw4⟩;have nw4':=nw3'.trans nw4;refine zd ?_;rw[zN];exact tail _ zA l M4.length c _ _ (nw4'.trans (nw4'.gen.lst _ (zm _ _))) m (by omega) h2 (zc _ _) (by rw[hcl];simp)
open Lac
end Lad
namespace Lad
open PySem PySem.Spec PyProof.Rows L2 L3 ST Law Lac
end Lad
namespace Lac
open PySem PySem.Spec PyProof.Rows L2 L3 ST Law
noncomputable def zF5:FS:=(zW (zj 2 (zo [3] (zt (zP zAE (zD (toD (zC 1)) zI))) (gN 3) (tst (fOp (zBC false) (zC 3) (zC 0))) (zAq (zD (toD (fOp kIx (fOp zx (zC 0) (zC 3)) (fC (.int 0)))) (zD (toD (zC 3)) zI)))))
  (zAO (vIf (zNH (zC 2)) (fOp kIx (fB zI9 (zU (zC 2) zk)) (fC (.int 1))) (fC .non))))
noncomputable def zCa:FF:=zA3 4 zF5
noncomputable def zJ9:FS:=(zW (zj 2 (zP zFT (zD (toD (zC 0)) zI)))
  (zW (zj 3 (zC 1))
  (zW (zj 4 (zAq zI))
  (zW (zj 5 (zA7 zI))
  (zW (zj 6 (zP zCa (zD (toD (zC 2)) (zD (toD (zC 3)) zI))))
  (zW (zBq (tst (fOp (kIs true) (zC 6) (fC .non))) (zW (zj 7 (zP zBG (zD (toD (zC 0)) (zD (toD (zC 2)) (zD (toD (zC 6)) zI)))))
  (zW (zj 3 (zP zCZ (zD (toD (zC 0)) (zD (toD (zC 3)) (zD (toD (zC 7)) zI)))))
  (zW (zj 4 (fOp zAX (zC 4) (zC 7)))
  (zW (zBO (fM zAF (zC 5) (zD (toD (zAq (zD (toD (zC 6)) (zD (toD (fB zAv (zU (zC 4) zk))) zI)))) zI)))
  (zj 6 (zP zCa (zD (toD (zC 2)) (zD (toD (zC 3)) zI)))))))) 100)
  (zAO (zAq (zD (toD (zC 4)) (zD (toD (fB zAR (zU (zC 5) zk))) zI))))))))))
noncomputable def zFf:FF:=zDQ (zA3 8 zJ9)
noncomputable def zDp:FS:=(zW (zj 1 (zP zAD (zD (toD (zC 0)) zI)))
  (zW (zj 2 (fOp kIx (zP zFf (zD (toD (zC 0)) (zD (toD (zC 1)) zI))) (fC (.int 0))))
  (zW (zj 3 (zP zCZ (zD (toD (zC 0)) (zD (toD (zC 1)) (zD (toD (zC 2)) zI)))))
  (zAO (zAq (zD (toD (fB zAv (zU (zC 3) zk))) (zD (toD (zC 2)) (zD (toD (zC 3)) zI))))))))
noncomputable def zBK:FF:=zDQ (zA3 4 zDp)
open Classical in
noncomputable def zHC (zA:Ya) (l:Nat) (p:Ye):Bool:=decide (p∈zBU zA l One)
noncomputable def npR (zA:Ya) (l:Nat) (p:Ye):NP:=((zEn zA l One p:Nat),p.getD 0 0,p.getD 1 0)
noncomputable def zDP (zA:Ya) (l:Nat) (S:Ye):List (List Int):=(zV S).filter (zHC zA l)
noncomputable def zCr (zA:Ya) (l:Nat) (S:Ye):Option (List Int):=match (zDP zA l S).map (npR zA l) with
 |[]=>none
 |t::ts=>some [(zBv t ts).2.1,(zBv t ts).2.2]
noncomputable def zHy (zA:Ya) (l:Nat) (S:Ye):D:=match zCr zA l S with
 |none=> .non
 |some p=>tI p
theorem zM8:zCr zA l S=none ↔ zDP zA l S=[]:=by
 unfold zCr;cases h:zDP zA l S with
 |nil=>simp
 |cons a r=>simp
theorem zFq:p∈zDP zA l S ↔ p∈zV S/\p∈zBU zA l One:=by
 unfold zDP zHC;rw[zYy,zY0]
theorem zOS (h:zCr zA l S=some p):p∈zDP zA l S:=by
 unfold zCr at h;cases e:(zDP zA l S).map (npR zA l) with
 |nil=>rw[e]at h;cases h
 |cons t ts=>
  rw[e]at h;cases h;have hm:=zI1 ts t;rw[<-e]at hm;obtain ⟨q,hq,eq⟩:=zX4.mp hm;rw[<-eq];obtain ⟨a,b,rfl,_⟩:=zAB.mp (zFq.mp hq).1;exact hq
theorem zUq (h:p∈zV S):npD (npR zA l p)=.tup [.int (zEn zA l One p:Nat),tI p]:=by
 obtain ⟨a,b,rfl,_⟩:=zAB.mp h;rfl
theorem zGp (s:IsS zA S):S.length<=zA.length:=zNT (a:=0) s.pw λx hx=>by have:=s.mem x hx;omega
theorem zG3 (hR:zA.length<=26) (hr:M[jr]?=some (dT (zBo zA l One))) (s:IsS zA S) :
  Ok (zCa [.ref jr,tI S] M) λd M'=>d=zHy zA l S /\ ∃ us,M'=M++us:=by
 have hrl:=(zXq.mp hr).1;have hS:=zGp s;unfold zCa;rw[zr];unfold zF5;have epr:=zEA (xs:=S) (by omega) (M:=M);have ei:zt (zP zAE (zD (toD (zC 1)) zI)) [some (.ref jr),some (tI S),none,none] M=_:=zEe (zY (d:=tI S) rfl) epr (zc _ _);have hPl:(zV S).length<=676:=zYE (zB3 S) (zYE (zZP hS hS) (zZP hR hR));generalize hA:M++[MO.lst ((zV S).map tI)]=A at ei;have a1:A[M.length]?=some (.lst ((zV S).map tI)):=by rw[<-hA];simp
 have a2:A[jr]?=some (dT (zBo zA l One)):=by rw[<-hA,zXu hrl];exact hr
 have ef:=zBg (own:=[3]) (g:=gN 3) (tc:=tst (fOp (zBC false) (zC 3) (zC 0))) (te:=zAq (zD (toD (fOp kIx (fOp zx (zC 0) (zC 3)) (fC (.int 0)))) (zD (toD (zC 3)) zI))) (zV S) tI (λp=> .tup [.int (zEn zA l One p:Nat),tI p]) (zHC zA l) ei (.inl a1) (by omega) (λp hp=>by
  refine ⟨[some (.ref jr),some (tI S),none,some (tI p)],rfl,?_,λhk=>?_⟩
  .have e1:fOp (zBC false) (zC 3) (zC 0) [some (.ref jr),some (tI S),none,some (tI p)] A=_:=zL (x:=.dat (tI p)) (y:=.dat (.ref jr)) rfl rfl (zMA a2);rw[zX5 (by decide),zDN]at e1;rw[zv e1];unfold zHC;by_cases h:p∈zBU zA l One
   .rw[zX2 h,zYv h];rfl
   .rw[zX5 h,zYM h];rfl
  .have h:p∈zBU zA l One:=zYj hk;have hlk:zG (zBo zA l One) p=some (zGM zA l One p):=by rw[zDN,zX2 h]
   exact zIB (zg (zL (x:=.dat (zGM zA l One p)) (y:=.dat (.int 0)) (zL (x:=.dat (.ref jr)) (y:=.dat (tI p)) rfl rfl (zHZ a2 hlk)) rfl (zBN zu rfl)) (zY (d:=tI p) rfl)) (by simp))
 rw[zH,zS];refine zE ef (zd ?_);rw[zN];have hmap:((zV S).filter (zHC zA l)).map (λp=>D.tup [.int (zEn zA l One p:Nat),tI p])=((zDP zA l S).map (npR zA l)).map npD:=by
  rw[zYB];exact List.map_congr_left λp hp=>(zUq (zYy.mp hp).1).symm
 rw[hmap];generalize hB:A++[MO.lst (((zDP zA l S).map (npR zA l)).map npD)]=B;have b1:B[A.length]?=some (.lst (((zDP zA l S).map (npR zA l)).map npD)):=by rw[<-hB];simp
 have hus:∃ us,B=M++us:=⟨[MO.lst ((zV S).map tI)]++[MO.lst (((zDP zA l S).map (npR zA l)).map npD)],by rw[<-hB,<-hA,zYt]⟩;rw[zAk,zVn];refine zE (zPn (f:=zC 2) (σ:=[some (.ref jr),some (tI S),some (.ref A.length),none]) rfl b1) ?_;unfold zHy zCr;cases e:(zDP zA l S).map (npR zA l) with
 |nil=>
  refine zE (a:=.dat .non) (M:=B) rfl ?_;exact ⟨rfl,hus⟩
 |cons t ts=>
  rw[e]at b1;have em:fB zI9 (zU (zC 2) zk) [some (.ref jr),some (tI S),some (.ref A.length),none] B=some (.dat (npD (zBv t ts)),B):=by
   unfold fB zU zk;rw[show zC 2 [some (.ref jr),some (tI S),some (.ref A.length),none] B=some (.dat (.ref A.length),B)from rfl];unfold zI9;dsimp only;rw[zf b1];dsimp only;rw[zI8]
  exact zE (zL (y:=.dat (.int 1)) em rfl (zBN (d:=tI [(zBv t ts).2.1,(zBv t ts).2.2]) zu rfl)) ⟨rfl,hus⟩
noncomputable def stD (q:List Int × Int):D:=.tup [tI q.1,.int q.2]
set_option genInjectivity true in
inductive Quick (zA:Ya) (l:Nat):Nat->List Int->List Int->List (List Int × Int)->Prop
 |nil {k:Nat} {S:Ye}:zCr zA l S=none->Quick zA l k S [] []
 |cons {k:Nat} {S p v w:Ye} {st:List (List Int × Int)}:zCr zA l S=some p->Climb zA l One p v->Quick zA l (k+v.length) (broR zA S v) w st->Quick zA l k S (v++w) ((p,((k+v.length:Nat):Int))::st)
theorem zPK (s:IsS zA S) (h:p∈zV S):p∈zV (zF zA):=by
 obtain ⟨a,b,rfl,ha,hb,hlt⟩:=zAB.mp h;exact zAB.mpr ⟨a,b,rfl,zBJ.mpr (s.mem a ha),zBJ.mpr (s.mem b hb),hlt⟩
theorem zJD (s:IsS zA S) (ha:a∈S) (hb:b∈S) (hne:a≠b) (he:zAg zA a v=zAg zA b v):(broR zA S v).length<S.length:=by
 rw[zCC s.pw];have nd:(ris (S.map λr=>zAg zA r v)).Nodup:=zaA (λ{x y} h=>Int.ne_of_lt h) (zFt _);have h1:=zCf _ ((S.erase b).map λr=>zAg zA r v) nd λx hx=>by
  obtain ⟨r,hr,rfl⟩:=zX4.mp ((zBs _ _).mp hx);by_cases q:r=b
  .subst q;exact zX4.mpr ⟨a,(List.mem_erase_of_ne hne).mpr ha,he⟩
  .exact zX4.mpr ⟨r,(List.mem_erase_of_ne q).mpr hr,rfl⟩
 rw[zXw,List.length_erase_of_mem hb]at h1;have:=List.length_pos_of_mem hb;omega
theorem zEc (s:IsS zA S) (h:zCr zA l S=some p):p∈zV S/\p∈zV (zF zA) /\ ∃ n,Dst zA l One p (n+1):=by
 obtain ⟨h1,h2⟩:=zFq.mp (zOS h);obtain ⟨h3,h4⟩:=zBH.mp h2;exact ⟨h1,h3,h4⟩
theorem zQ0 (h:p∈zV S):∃ a b,p=[a,b]/\p=zCQ a b/\a∈S/\b∈S/\a<b:=by
 obtain ⟨a,b,rfl,ha,hb,hlt⟩:=zAB.mp h;exact ⟨a,b,rfl,by unfold zCQ;rw[zX5 (by omega),zX2 (by omega)],ha,hb,hlt⟩
theorem zHv (s:IsS zA S) (h:zCr zA l S=some p) (c:Climb zA l One p v):(broR zA S v).length<S.length:=by
 obtain ⟨h1,_,_⟩:=zEc s h;obtain ⟨a,b,rfl,hp,ha,hb,hlt⟩:=zQ0 h1;have hm:=(zBM c).2;rw[hp,zNg (by omega)]at hm;exact zJD s ha hb (by omega) hm
theorem zDZ (m:IsM zA l):∀ (n k:Nat) {S:Ye},S.length<=n->IsS zA S -> ∃ w st,Quick zA l k S w st
 |0,k,S,h,s=>by have:=s.n0;omega
 |n+1,k,S,h,s=>by
  cases e:zCr zA l S with
  |none=>exact ⟨_,_,.nil e⟩
  |some p=>
   obtain ⟨_,_,j,hj⟩:=zEc s e;obtain ⟨v,c⟩:=zDf _ hj;have hlt:=zHv s e c;obtain ⟨w,st,q⟩:=zDZ m n (k+v.length) (S:=broR zA S v) (by omega) (m.broR v s (zBM c).1);exact ⟨_,_,.cons e c q⟩
theorem zAj:∀ {k:Nat} {S w:Ye} {st:List (List Int × Int)},Quick zA l k S w st->Wd l w
 |_,_,_,_,.nil _=>λ_ h=>by cases h
 |_,_,_,_,.cons _ c q=>zVU (zBM c).1 (zAj q)
theorem zIy:∀ {k:Nat} {S w:Ye} {st:List (List Int × Int)},Quick zA l k S w st->zCr zA l (broR zA S w)=none
 |_,_,_,_,.nil e=>e
 |_,_,_,_,.cons _ c q=>by rw[zJw];exact zIy q
theorem zGE (m:IsM zA l) (hR:zA.length<=26):∀ {k:Nat} {S w:Ye} {st:List (List Int × Int)},IsS zA S->Quick zA l k S w st->w.length<=676*S.length/\st.length<S.length
 |_,_,_,_,s,.nil _=>⟨by simp,s.n0⟩
 |_,S,_,_,s,.cons (v:=v) e c q=>by
  have hlt:=zHv s e c;obtain ⟨h1,h2⟩:=zGE m hR (m.broR v s (zBM c).1) q;obtain ⟨_,hp,_⟩:=zEc s e;have h3:=zYE (zMK m zG0 (zBp _ hp) (zF9 c)) (zCb hR);have h4:=Nat.mul_le_mul_left 676 hlt;rw[Nat.mul_succ]at h4;rw[zX3,zYK];omega
theorem zQU {zA:Ya} (m:IsM zA l) (hR:zA.length<=26) (hl:l<=12) {st:List (List Int × Int)} (s:IsS zA S) (q:Quick zA l 0 S w st) :
  zFf [mD zA,tI S] M=some (.tup [tI w,.tup (st.map stD)],M):=by
 refine zT ?_;unfold zFf;refine zCX ?_ ?_
 .unfold D.unds D.unds D.unds;rw[zCK];simp[tI,zAC]
 rw[zr];unfold zJ9;obtain ⟨d,M1,e,jr,rfl,_,h2,_,_⟩:=zRS m hR hl (M:=[]);rw[zH,zS];refine zE (zh (zY (d:=mD zA) rfl) e) ?_;rw[zJ,zN];refine zA4 (d:=tI S) rfl ?_;refine zA4 (d:=tI []) (zIB rfl (by simp)) ?_;rw[zH,zS];refine zE (M:=M1) (a:=.fl []) (zTC rfl (by simp)) (zd ?_);rw[zN];have hjl:=(zXq.mp h2).1;have up:∀ xs:Mem,(M1++xs)[jr]?=some (dT (zBo zA l One)):=λxs=>by rw[zXu hjl];exact h2
 obtain ⟨d,M2,e2,rfl,us,rfl⟩:=zG3 hR (up [.lst []]) s;rw[zH,zS];refine zE (zh (zg (d:=.ref jr) rfl (zY (d:=tI S) rfl)) e2) ?_;rw[zJ,zN,zH];have hS:=zGp s;have ql:=zGE m hR s q;refine zCc (I:=λz σ M'=>∃ (T W w2:Ye) (st1 st2:List (List Int × Int)) (us:Mem) (y:Option D),IsS zA T/\Quick zA l W.length T w2 st2/\w=W++w2/\st=st1++st2/\z=st2.length/\σ=[some (mD zA),some (tI S),some (.ref jr),some (tI T),some (tI W),some (.ref M1.length),some (zHy zA l T),y]/\M'=M1 ++ .lst (st1.map stD)::us) ?_ 100 st.length _ _ (by omega) ⟨S,[],w,[],st,us,none,s,q,rfl,rfl,rfl,rfl,by simp⟩;rintro z σ M' ⟨T,W,w2,st1,st2,us,y,sT,q2,hw,hst,rfl,rfl,rfl⟩;have hL:(M1++MO.lst (st1.map stD)::us)[M1.length]?=some (.lst (st1.map stD)):=by simp
 have et:tst (fOp (kIs true) (zC 6) (fC .non)) [some (mD zA),some (tI S),some (.ref jr),some (tI T),some (tI W),some (.ref M1.length),some (zHy zA l T),y] (M1++MO.lst (st1.map stD)::us)=some ((zCr zA l T).isSome,M1++MO.lst (st1.map stD)::us):=by
  unfold zHy;cases h:zCr zA l T with
  |none=>exact zv (zL (x:=.dat .non) (y:=.dat .non) rfl rfl rfl)
  |some p=>exact zv (zL (x:=.dat (tI p)) (y:=.dat .non) rfl rfl rfl)
 refine zE et ?_;cases q2 with
 |nil h=>
  rw[h];rw[zYX]at hw hst;subst hw;subst hst;refine zAK (d:=.tup [tI w,.tup (st.map stD)]) (zIB (zg (d:=tI w) rfl (zY (zAw (f:=zC 5) rfl (zf hL)))) (by simp)) ⟨?_,rfl,rfl⟩;unfold D.und D.unds D.unds D.unds;rw[show D.und 0 (tI w)=true from zAC w];have:∀ xs:List (List Int × Int),D.und 0 (.tup (xs.map stD))=true:=by
   intro xs;unfold D.und;induction xs with
   |nil=>rfl
   |cons x r ih=>
    rw[zX6];unfold D.unds;rw[ih];unfold stD;unfold D.und D.unds D.unds D.unds;rw[show D.und 0 (tI x.1)=true from zAC _];rfl
  rw[this];rfl
 | @cons _ _ p v w3 st3 h c q3=>
  have hnd:zHy zA l T=tI p:=by unfold zHy;rw[h]
  rw[h,hnd];obtain ⟨hp1,hp2,_⟩:=zEc sT h;have cb:=(zBM c).1;have hvl:=zYE (zMK m zG0 (zBp _ hp2) (zF9 c)) (zCb hR);have hwl:=zZa List.length hw;have hstl:=zZa List.length hst;simp only[zX3,zYK]at hwl hstl;obtain ⟨d,M3,e3,rfl,us3,rfl⟩:=zHc m zG0 hR (up (.lst (st1.map stD)::us)) (zBp _ hp2) c;rw[zH,zS];refine zE (zh (zg (d:=mD zA) rfl (zg (d:=.ref jr) rfl (zY (d:=tI p) rfl))) e3) ?_;rw[zJ,zN];rw[show M1++MO.lst (st1.map stD)::us++us3=M1++MO.lst (st1.map stD)::(us++us3) by simp];generalize us++us3=us4;have sB:=m.broR v sT cb;refine zA4 (zh (zg (d:=mD zA) rfl (zg (d:=tI T) rfl (zY (d:=tI v) rfl))) (zRo m (by omega) sT cb (by omega))) ?_;refine zA4 (d:=tI (W++v)) ?_ ?_
  .rw[zL (x:=.dat (tI W)) (y:=.dat (tI v)) rfl rfl (zVx (zX (by rw[zXw,zXw];omega)))];unfold tI;rw[zYf]
  have hL4:(M1++MO.lst (st1.map stD)::us4)[M1.length]?=some (.lst (st1.map stD)):=by simp
  have elen:fB zAv (zU (zC 4) zk) [some (mD zA),some (tI S),some (.ref jr),some (tI (broR zA T v)),some (tI (W++v)),some (.ref M1.length),some (tI p),some (tI v)] (M1++MO.lst (st1.map stD)::us4)=some (.dat (.int ((W.length+v.length:Nat):Int)),M1++MO.lst (st1.map stD)::us4):=by
   rw[zL9 (xs:=W++v) rfl,zX3]
  rw[zH,zBV];refine zGe.mpr (zE (a:=.dat (.ref M1.length)) (M:=M1++MO.lst (st1.map stD)::us4) rfl ⟨⟨_,zAW hL4⟩,zE (zY (d:=stD (p,((W.length+v.length:Nat):Int))) (zIB (zg (d:=tI p) rfl (zY elen)) (by simp))) ((zBl hL4 (by rw[zXw];exact zYC (show st1.length<1000 by omega) (zX (by omega)))).mpr ?_)⟩);rw[zN];have hset:(M1++MO.lst (st1.map stD)::us4).set M1.length (.lst (st1.map stD++[stD (p,((W.length+v.length:Nat):Int))]))=M1++MO.lst ((st1++[(p,((W.length+v.length:Nat):Int))]).map stD)::us4:=by
   rw[List.set_append_right _ _ (zXt _)];simp
  rw[hset];obtain ⟨d,M5,e5,rfl,us5,rfl⟩:=zG3 hR (up (.lst ((st1++[(p,((W.length+v.length:Nat):Int))]).map stD)::us4)) sB;rw[zS];refine zE (zh (zg (d:=.ref jr) rfl (zY (d:=tI (broR zA T v)) rfl)) e5) ?_;rw[zJ];exact ⟨st3.length,by simp,broR zA T v,W++v,w3,st1++[(p,((W.length+v.length:Nat):Int))],st3,us4++us5,some (tI v),sB,by rw[zX3];exact q3,by rw[hw];simp,by rw[hst];simp,rfl,rfl,by simp⟩
theorem zDT (m:IsM zA l):IsS zA (zF zA):=by
 have r0:=m.r0;refine ⟨?_,by unfold zF;simp;omega,λx hx=>zBJ.mp hx⟩;unfold zF;exact List.pairwise_map.mpr (zaA (λ{a b} h=>by omega) List.pairwise_lt_range)
theorem zEs {zA:Ya} {l:Nat} (m:IsM zA l) (hR:zA.length<=26) (hl:l<=12) {w:Ye} {st:List (List Int × Int)} (q:Quick zA l 0 (zF zA) w st) {M:Mem} :
  zBK [mD zA] M=some (.tup [.int (broR zA (zF zA) w).length,tI w,tI (broR zA (zF zA) w)],M):=by
 have s:=zDT m;have hS:=zGp s;have ql:=zGE m hR s q;have hw:=zAj q;refine zT ?_;unfold zBK;refine zCX ?_ ?_
 .unfold D.unds D.unds;rw[zCK];rfl
 rw[zr];unfold zDp;refine zA4 (zh (zY (d:=mD zA) rfl) (zDM (by omega))) ?_;refine zA4 (d:=tI w) (zL (y:=.dat (.int 0)) (zh (zg (d:=mD zA) rfl (zY (d:=tI (zF zA)) rfl)) (zQU m hR hl s q)) rfl (zBN zu rfl)) ?_;refine zA4 (zh (zg (d:=mD zA) rfl (zg (d:=tI (zF zA)) rfl (zY (d:=tI w) rfl))) (zRo m (by omega) s hw (by omega))) ?_;refine zAK (zIB (zg (zL9 (xs:=broR zA (zF zA) w) rfl) (zg (d:=tI w) rfl (zY (d:=tI (broR zA (zF zA) w)) rfl))) (by simp)) ⟨?_,rfl,rfl⟩;unfold D.und D.unds D.unds D.unds D.unds;rw[show ∀ x,D.und 0 (tI x)=true from λx=>zAC x,show ∀ x,D.und 0 (tI x)=true from λx=>zAC x];rfl
theorem zPf (xs:Ye):(ris xs).Nodup:=zaA (λ{x y} h=>Int.ne_of_lt h) (zFt _)
theorem zLw (h:xs.Nodup):(ris xs).length=xs.length:=Nat.le_antisymm (zEg xs) (zCf _ _ h λx hx=>(zBs xs x).mpr hx)
theorem zOR {K v:Ye} (s:IsS zA K) (hn:zCr zA l K=none) (hv:Wd l v):(broR zA K v).length=K.length:=by
 have nd:K.Nodup:=zaA (λ{x y} h=>Int.ne_of_lt h) s.pw;rw[zCC s.pw,zLw,zXw];refine List.pairwise_map.mpr (List.Pairwise.imp_of_mem (λ{a b} ha hb hlt he=>?_) s.pw);have hlt:a<b:=hlt;have hp:[a,b]∈zV K:=zAB.mpr ⟨a,b,rfl,ha,hb,hlt⟩;have hpr:[a,b]=zCQ a b:=by unfold zCQ;rw[zX5 (by omega),zX2 (by omega)]
 have hm:One (broR zA [a,b] v):=by rw[hpr,zNg (by omega)];exact he
 obtain ⟨n,_,hd⟩:=zDY _ ⟨v,rfl,hv,hm⟩;cases n with
 |zero=>exact absurd (zBR.mp hd) (by simp[One])
 |succ n=>
  have:[a,b]∈zDP zA l K:=zFq.mpr ⟨hp,zBH.mpr ⟨zPK s hp,n,hd⟩⟩;rw[zM8.mp hn]at this;cases this
theorem zTB (hs:S.Pairwise (· < ·)) (ht:T.Pairwise (· < ·)) (h:∀ x∈S,x∈T):(broR zA S v).length<=(broR zA T v).length:=by
 rw[zCC hs,zCC ht];refine zCf _ _ (zPf _) λx hx=>?_;rw[zBs]at hx ⊢;obtain ⟨r,hr,rfl⟩:=zX4.mp hx;exact zX4.mpr ⟨r,h r hr,rfl⟩
theorem zIt {zA:Ya} {l:Nat} (m:IsM zA l) {w:Ye} {st:List (List Int × Int)} (q:Quick zA l 0 (zF zA) w st) {v:Ye} (hv:Wd l v):(broR zA (zF zA) w).length<=(broR zA (zF zA) v).length:=by
 have s:=zDT m;have sK:=m.broR w s (zAj q);rw[<-zOR sK (zIy q) hv];exact zTB sK.pw s.pw λx hx=>zBJ.mpr (sK.mem x hx)
end Lac
namespace Lac
open PySem PySem.Spec PyProof.Rows L2 L3 ST Law
noncomputable def zJg:FS:=(zW (zj 1 (zP zB0 (zD (toD (zC 0)) zI)))
  (zAO (fB zAR (zU (zo [2] (zt (zP zAE (zD (toD (zP zAD (zD (toD (zC 0)) zI))) zI))) (gN 2) (tst (fOp (zBC true) (zC 2) (zC 1))) (zC 2)) zk))))
noncomputable def zFX:FF:=zDQ (zA3 3 zJg)
open Classical in
noncomputable def zAM (zA:Ya) (l:Nat):List (List Int):=(zV (zF zA)).filter λp=>decide (p∉zBU zA l One)
theorem zN6 (n:Nat) (ps:Ya):D.und n (.tup (ps.map tI))=true:=by unfold D.und;exact zTi n ps
theorem zQY (m:IsM zA l) (hR:zA.length<=26) (hl:l<=12):zFX [mD zA] M=some (.tup ((zAM zA l).map tI),M):=by
 refine zT ?_;unfold zFX;refine zCX ?_ ?_
 .unfold D.unds D.unds;rw[zCK];rfl
 rw[zr];unfold zJg;obtain ⟨d,M1,e,jf,rfl,_,⟨fd,h2,_,sp⟩,_,_⟩:=zHi m hR hl (M:=[]);rw[zH,zS];refine zE (zh (zY (d:=mD zA) rfl) e) ?_;rw[zJ,zN];have hrl:(zF zA).length=zA.length:=by unfold zF;simp
 have epr:=zEA (xs:=zF zA) (by omega) (M:=M1);have ei:zt (zP zAE (zD (toD (zP zAD (zD (toD (zC 0)) zI))) zI)) [some (mD zA),some (.ref jf),none] M1=_:=zEe (zY (d:=tI (zF zA)) (zh (zY (d:=mD zA) rfl) (zDM (by omega)))) epr (zc _ _);have hjl:=(zXq.mp h2).1;have hPl:=zCb hR;have ef:=zBg (own:=[2]) (g:=gN 2) (tc:=tst (fOp (zBC true) (zC 2) (zC 1))) (te:=zC 2) (zV (zF zA)) tI tI (λp=>open Classical in decide (p∉zBU zA l One)) ei (.inl (zc _ _)) (by omega) (λp hp=>by
  refine ⟨[some (mD zA),some (.ref jf),some (tI p)],rfl,?_,λ_=>rfl⟩;have e1:fOp (zBC true) (zC 2) (zC 1) [some (mD zA),some (.ref jf),some (tI p)] (M1++[MO.lst ((zV (zF zA)).map tI)])=_:=zL (x:=.dat (tI p)) (y:=.dat (.ref jf)) rfl rfl (zMA (T:=fd) (by rw[zXu hjl];exact h2));rw[zX2 rfl]at e1;have hb:(zG fd p).isSome=true ↔ p∈zBU zA l One:=by
   rw[zBH];constructor
   .intro h;cases eL:zG fd p with
    |none=>rw[eL]at h;cases h
    |some d=>
     obtain ⟨_,n,hn,_⟩:=(sp p d).mp eL;cases n with
     |zero=>
      obtain ⟨a,b,rfl,_⟩:=zAB.mp hp;exact absurd (zBR.mp hn) (by simp[One])
     |succ n=>exact ⟨hp,n,hn⟩
   .rintro ⟨_,n,hn⟩;rw[(sp p _).mpr ⟨zBp p hp,n+1,hn,rfl⟩];rfl
  rw[zv e1];by_cases hin:p∈zBU zA l One
  .rw[hb.mpr hin,zYM (by simpa using hin)];rfl
  .have:(zG fd p).isSome=false:=by
    cases h:(zG fd p).isSome with
    |false=>rfl
    |true=>exact absurd (hb.mp h) hin
   rw[this,zYv hin];rfl)
 rw[zAk];refine zSI.mpr (zFO.mpr (zE ef (zGu.mpr ((zKf zCL).mpr ?_))));rw[zJ];exact ⟨zN6 0 _,rfl,rfl⟩
end Lac
namespace Lad
open PySem PySem.Spec PyProof.Rows L2 L3 ST Law Lac
theorem zA0:r∈zF zA ↔ 0<=r/\r<(zA.length:Int):=by
 unfold zF;constructor
 .intro h;obtain ⟨k,hk,rfl⟩:=zX4.mp h;have:=zYR.mp hk;omega
 .rintro ⟨h1,h2⟩;exact zX4.mpr ⟨r.toNat,zYR.mpr (by omega),by omega⟩
theorem zCH:[a,b]∈zV (zF zA) ↔ (0<=a/\a<(zA.length:Int))/\(0<=b/\b<(zA.length:Int))/\a<b:=by
 rw[zAB];constructor
 .rintro ⟨a',b',e,h1,h2,h3⟩;cases e;exact ⟨zA0.mp h1,zA0.mp h2,h3⟩
 .rintro ⟨h1,h2,h3⟩;exact ⟨a,b,rfl,zA0.mpr h1,zA0.mpr h2,h3⟩
theorem zQG (hu:0<=u/\u<(zA.length:Int)) (hv:0<=v/\v<(zA.length:Int)) (ne:u≠v):zCQ u v∈zV (zF zA):=by
 unfold zCQ;rw[zCH];split <;> split <;> omega
end Lad
namespace Lad
open PySem PySem.Spec PyProof.Rows L2 L3 ST Law Lac
open Classical in
noncomputable def okL (bad:Yq) (r:Nat):List Nat:=(List.range (r+1)).filter λ(o:Nat)=>decide (o=r \/ ¬ bad [(o:Int),(r:Int)])
noncomputable def zGV (bad:Yq) (r:Nat):Int:=(((okL bad r).headD 0:Nat):Int)
noncomputable def zBe (bad:Yq) (n:Nat):List Int:=(List.range n).map (zGV bad)
noncomputable def zEL:FS:=(zW (zj 1 zMU)
  (zW (zDA (zt (zC 0)) (gN 2) (sIf (tst (fOp (zBC true) (zC 2) (zC 1))) (zCO (fB zIq (zU (zC 1) zk)) (zC 1) (zC 2)) zBX))
  (zAO (fB zAR (zU (zo [2] (zt (zC 0)) (gN 2) zq (fOp zx (zC 1) (zC 2))) zk)))))
noncomputable def zCF:FF:=zA3 3 zEL
noncomputable def zBP:Nat->List Int->List (D × D)
 |_,[]=>[]
 |i,k::r=>(.int k,.int (i:Int))::zBP (i+1) r
theorem zHf:∀ (i:Nat) (ks:Ye),(zBP i ks).length=ks.length
 |_,[]=>rfl
 |i,k::r=>by unfold zBP;rw[zYK,zHf,zYK]
theorem zIl:∀ (i:Nat) (ks:Ye) (k:Int),zBP i (ks++[k])=zBP i ks++[(.int k,.int ((i+ks.length:Nat):Int))]
 |i,[],k=>rfl
 |i,a::r,k=>by
  rw[List.cons_append];unfold zBP;rw[zIl,List.cons_append,zYK,show i+1+r.length=i+(r.length+1) by omega]
theorem zKH:∀ (i:Nat) (ks:Ye) (k:Int),zCJ zCR (zBP i ks) (Sum.inl k)=if k∈ks then some (.int ((i+ks.idxOf k:Nat):Int)) else none
 |i,[],k=>rfl
 |i,a::r,k=>by
  have ih:=zKH (i+1) r k;unfold zCJ at ih ⊢;rw[show zBP i (a::r)=(D.int a,D.int (i:Int))::zBP (i+1) r from rfl,zZZ];by_cases h:a=k
  .subst h;rw[show decide (zCR (D.int a)=some (Sum.inl a))=true from zYv rfl];simp
  .rw[show decide (zCR (D.int a)=some (Sum.inl k))=false from zYM (λz=>h (Sum.inl.inj (zYn z)))];by_cases hk:k∈r
   .rw[zX2 (zX0 _ hk)];rw[zX2 hk]at ih;rw[List.idxOf_cons,show (a==k)=false from beq_false_of_ne h];simp only[cond_false];rw[show i+(List.idxOf k r+1)=i+1+List.idxOf k r by omega];exact ih
   .rw[zX5 (by simp[hk,Ne.symm h])];rw[zX5 hk]at ih;exact ih
theorem zW6 (ks:Ye) (k:Int) (h:k∉ks):zIa zCR (zBP 0 ks) (Sum.inl k) (.int k) (.int (ks.length:Int))=zBP 0 (ks++[k]):=by
 have hl:=zKH 0 ks k;rw[zX5 h]at hl;unfold zCJ at hl;have ha:((zBP 0 ks).any λp=>decide (zCR p.1=some (Sum.inl k)))=false:=by
  rw[List.any_eq_false];intro p hp;have:=(Option.map_eq_none_iff.mp hl);rw[List.find?_eq_none]at this;exact this p hp
 unfold zIa;rw[ha,zX5 (by simp),zIl];simp
theorem zJf (hj:M[j]?=some (.lst (xs.map D.int))) (hz:xs.length<=1000) :
  Ok (zCF [.ref j] M) λd M'=>d=tI (zBx xs)/\M.length<=M'.length /\ ∀ i,i<M.length->M'[i]?=M[i]?:=by
 have hjl:=(zXq.mp hj).1;unfold zCF;rw[zr];unfold zEL;show OkS (zW _ _ [some (.ref j),none,none] M) _;rw[zH,zS];refine zE (M:=M++[.dict []]) (a:=.dat (.ref M.length)) rfl ?_;rw[zJ,zN];simp only[List.set_cons_succ,List.set_cons_zero];have up:∀ u:MO,(M++[u])[j]?=some (.lst (xs.map D.int)):=λu=>by rw[zXu hjl];exact hj
 rw[zH,zBE];refine ⟨_,_,_,(show zt (zC 0) [some (.ref j),some (.ref M.length),none] (M++[.dict []])=some (xs.map D.int,zDr (.dat (.ref j)) (xs.map D.int),M++[.dict []]) by
  unfold zt;rw[show zC 0 [some (.ref j),some (.ref M.length),none] (M++[.dict []])=some (.dat (.ref j),M++[.dict []])from rfl];dsimp only;rw[zf (up _)]),?_⟩
 have insl:∀ us:List Int,(zK us).length<=us.length:=λus=>zA8 us;refine zAp (I:=λr σ M'=>∃ (us vs:Ye) (y:Option D),σ=[some (.ref j),some (.ref M.length),y]/\xs=us++vs/\r=vs.map D.int/\M'=M++[.dict (zBP 0 (zK us))]) ?_ ?_ _ _ _ ⟨[],xs,none,rfl,rfl,rfl,rfl⟩
 .rintro x r σ M' ⟨us,vs,y,rfl,hab,hr,rfl⟩;cases vs with
  |nil=>cases hr
  |cons k vs=>
   rw[zX6]at hr;obtain ⟨rfl,rfl⟩:=zYr hr;refine ⟨.inl (up _),_,rfl,?_⟩;have hul:us.length<1000:=by have:=zZa List.length hab;simp at this;omega
   have e0:(M++[MO.dict (zBP 0 (zK us))])[M.length]?=some (.dict (zBP 0 (zK us))):=zc _ _;show OkS (sIf _ _ _ [some (.ref j),some (.ref M.length),some (.int k)] _) _;rw[zAu];have eg:zDJ (M++[MO.dict (zBP 0 (zK us))]) (.dat (.ref M.length)) (.int k)=some (if k∈zK us then some (.int ((0+(zK us).idxOf k:Nat):Int)) else none):=by
    unfold zDJ;dsimp only;rw[e0];show some (zCJ zCR (zBP 0 (zK us)) (Sum.inl k))=_;rw[zKH]
   refine zE (M:=M++[MO.dict (zBP 0 (zK us))]) (a:=!decide (k∈zK us)) (zv (zL (x:=.dat (.int k)) (y:=.dat (.ref M.length)) rfl rfl (by unfold zBC;dsimp only;rw[eg];by_cases h:k∈zK us <;> simp[h]))) ?_;by_cases h:k∈zK us
   .rw[zYv h,zX5 (by simp),zAf];refine ⟨us++[k],vs,_,rfl,by rw[hab];simp,rfl,?_⟩;rw[zCD];unfold ins;rw[zX2 h]
   .rw[zYM h,zX2 (by simp)];have hil:=insl us;refine ⟨.nx,[some (.ref j),some (.ref M.length),some (.int k)],M++[.dict (zBP 0 (zK us++[k]))],?_,us++[k],vs,_,rfl,by rw[hab];simp,rfl,by rw[zCD];unfold ins;rw[zX5 h]⟩;unfold zCO;rw[zNy (show fB zIq (zU (zC 1) zk) [some (.ref j),some (.ref M.length),some (.int k)] (M++[MO.dict (zBP 0 (zK us))])=some (.dat (.int ((zK us).length:Int)),M++[MO.dict (zBP 0 (zK us))]) by
     unfold fB zU zk;rw[show zC 1 [some (.ref j),some (.ref M.length),some (.int k)] (M++[MO.dict (zBP 0 (zK us))])=some (.dat (.ref M.length),M++[MO.dict (zBP 0 (zK us))])from rfl];unfold zIq;dsimp only;rw[e0];dsimp only;rw[zHf])]
    dsimp only;rw[show toD (zC 1) [some (.ref j),some (.ref M.length),some (.int k)] (M++[MO.dict (zBP 0 (zK us))])=some (.ref M.length,M++[MO.dict (zBP 0 (zK us))])from rfl];dsimp only;rw[show toD (zC 2) [some (.ref j),some (.ref M.length),some (.int k)] (M++[MO.dict (zBP 0 (zK us))])=some (.int k,M++[MO.dict (zBP 0 (zK us))])from rfl];dsimp only;unfold zEJ;rw[e0];rw[show zCR (.int k)=some (Sum.inl k)from rfl];dsimp only;rw[zX2 (by rw[zHf];exact zYC (m:=95000) (by omega) (zX (by omega))),zW6 _ _ h];simp
 .rintro σ M' ⟨us,vs,y,rfl,hab,hr,rfl⟩;have:vs=[]:=by cases vs with|nil=>rfl|cons _ _=>cases hr
  subst this;rw[zYX]at hab;subst hab;refine ⟨.inl (up _),?_⟩;rw[zN];have e0:(M++[MO.dict (zBP 0 (zK xs))])[M.length]?=some (.dict (zBP 0 (zK xs))):=zc _ _;have ec:=zAa (own:=[2]) (g:=gN 2) (te:=fOp zx (zC 1) (zC 2)) (fi:=zt (zC 0)) (σ:=[some (.ref j),some (.ref M.length),y]) (M:=M++[MO.dict (zBP 0 (zK xs))]) xs D.int (λk=>D.int (((zK xs).idxOf k:Nat):Int)) (gd:=zDr (.dat (.ref j)) (xs.map D.int)) (by
   unfold zt;rw[show zC 0 [some (.ref j),some (.ref M.length),y] (M++[MO.dict (zBP 0 (zK xs))])=some (.dat (.ref j),M++[MO.dict (zBP 0 (zK xs))])from rfl];dsimp only;rw[zf (up _)]) (.inl (up _)) (by omega) λk hk=>⟨_,rfl,zL (x:=.dat (.ref M.length)) (y:=.dat (.int k)) rfl rfl (by
    unfold zx;unfold zDJ;dsimp only;rw[e0];show (match some (zCJ zCR (zBP 0 (zK xs)) (Sum.inl k)) with|some (some d)=>_|_=>_)=_;rw[zKH,zX2 ((zBa xs k).mpr hk),Nat.zero_add])⟩
  refine zAK (d:=tI (zBx xs)) ?_ ⟨rfl,by simp,λi hi=>zXu hi⟩;unfold fB zU zk;rw[ec];unfold zBx tI;rw[zYB];rfl
noncomputable def zDx:FS:=(zW (zj 2 (zP zAD (zD (toD (zC 0)) zI)))
  (zAO (zP zCF (zD (toD (zo [4] (zt (zC 2)) (gN 4) zq (fB (zC7 false) (zU (zo [3] (zt (zC 2)) (gN 3) (zE2 (tst (fOp kEq (zC 3) (zC 4))) (zD3 (tst (fOp kLt (zC 3) (zC 4))) (tst (fOp (zBC true) (zAq (zD (toD (zC 3)) (zD (toD (zC 4)) zI))) (zC 1))))) (zC 3)) zk)))) zI))))
noncomputable def zBw:FF:=zA3 5 zDx
theorem zFn (h1:b∈okL bad r) (h2:∀ y∈okL bad r,b<=y):zGV bad r=(b:Int):=by
 have pw:(okL bad r).Pairwise (· < ·):=List.Pairwise.filter _ List.pairwise_lt_range;unfold zGV;cases e:okL bad r with
 |nil=>rw[e]at h1;cases h1
 |cons a t=>
  rw[e]at h1 h2 pw;have ha:=h2 a zX1;rcases zXz.mp h1 with z|z
  .rw[z];rfl
  .have:=(zZx.mp pw).1 b z;omega
open Classical in
theorem zEZ {bad:Yq} {r o:Nat}:o∈okL bad r ↔ o<=r/\(o=r \/ ¬ bad [(o:Int),(r:Int)]):=by
 unfold okL;rw[zYy,zYR,zY0];exact ⟨λ⟨a,b⟩=>⟨by omega,b⟩,λ⟨a,b⟩=>⟨by omega,b⟩⟩
theorem zIW (hR:zA.length<=26) (hf:M[jf]?=some (dT fd)) :
  Ok (zBw [mD zA,.ref jf] M) λd M'=>d=tI (zBx (zBe (λp=>(zG fd p).isSome=true) zA.length))/\M.length<=M'.length /\ ∀ i,i<M.length->M'[i]?=M[i]?:=by
 unfold zBw;rw[zr];unfold zDx;refine zA4 (zh (zY (d:=mD zA) rfl) (zDM (by omega))) ?_;have eI:∀ (y3 y4:Option D),zt (zC 2) [some (mD zA),some (.ref jf),some (tI ((List.range zA.length).map λ(k:Nat)=>(k:Int))),y3,y4] M=some ((List.range zA.length).map (λ(k:Nat)=>D.int (k:Int)),none,M):=λy3 y4=>by
  unfold zt;rw[show zC 2 [some (mD zA),some (.ref jf),some (tI ((List.range zA.length).map λ(k:Nat)=>(k:Int))),y3,y4] M=some (.dat (tI ((List.range zA.length).map λ(k:Nat)=>(k:Int))),M)from rfl];dsimp only;rw[show zAJ M (.dat (tI ((List.range zA.length).map λ(k:Nat)=>(k:Int))))=some (((List.range zA.length).map λ(k:Nat)=>(k:Int)).map D.int)from rfl,zYB];rfl
 have inner:∀ (r:Nat),r<zA.length->fB (zC7 false) (zU (zo [3] (zt (zC 2)) (gN 3) (zE2 (tst (fOp kEq (zC 3) (zC 4))) (zD3 (tst (fOp kLt (zC 3) (zC 4))) (tst (fOp (zBC true) (zAq (zD (toD (zC 3)) (zD (toD (zC 4)) zI))) (zC 1))))) (zC 3)) zk) [some (mD zA),some (.ref jf),some (tI ((List.range zA.length).map λ(k:Nat)=>(k:Int))),none,some (.int (r:Int))] M=some (.dat (.int (zGV (λp=>(zG fd p).isSome=true) r)),M):=λr hr=>by
  have ef:=zBg (own:=[3]) (g:=gN 3) (tc:=zE2 (tst (fOp kEq (zC 3) (zC 4))) (zD3 (tst (fOp kLt (zC 3) (zC 4))) (tst (fOp (zBC true) (zAq (zD (toD (zC 3)) (zD (toD (zC 4)) zI))) (zC 1))))) (te:=zC 3) (List.range zA.length) (λ(k:Nat)=>D.int (k:Int)) (λ(k:Nat)=>D.int (k:Int)) (λ(o:Nat)=>decide (o=r)||(decide (o<r) && !(zG fd [(o:Int),(r:Int)]).isSome)) (eI none (some (.int (r:Int)))) trivial (by rw[zZk];omega) (λo ho=>by
   refine ⟨[some (mD zA),some (.ref jf),some (tI ((List.range zA.length).map λ(k:Nat)=>(k:Int))),some (.int (o:Int)),some (.int (r:Int))],rfl,?_,λ_=>rfl⟩;have e1:tst (fOp kEq (zC 3) (zC 4)) [some (mD zA),some (.ref jf),some (tI ((List.range zA.length).map λ(k:Nat)=>(k:Int))),some (.int (o:Int)),some (.int (r:Int))] M=some (decide (o=r),M):=by
    refine zv (zL (x:=.dat (.int (o:Int))) (y:=.dat (.int (r:Int))) rfl rfl (zT (zLR.mpr ⟨?_,rfl⟩)));by_cases h:o=r
    .subst h;simp
    .simp[h];omega
   have e2:tst (fOp kLt (zC 3) (zC 4)) [some (mD zA),some (.ref jf),some (tI ((List.range zA.length).map λ(k:Nat)=>(k:Int))),some (.int (o:Int)),some (.int (r:Int))] M=some (decide ((o:Int)<(r:Int)),M):=zv (zL (x:=.dat (.int (o:Int))) (y:=.dat (.int (r:Int))) rfl rfl rfl);have e3:=zv (zL (k:=zBC true) (f:=zAq (zD (toD (zC 3)) (zD (toD (zC 4)) zI))) (g:=zC 1) (σ:=[some (mD zA),some (.ref jf),some (tI ((List.range zA.length).map λ(k:Nat)=>(k:Int))),some (.int (o:Int)),some (.int (r:Int))]) (M:=M) (x:=.dat (tI [(o:Int),(r:Int)])) (y:=.dat (.ref jf)) (zIB (zg (d:=.int (o:Int)) rfl (zY (d:=.int (r:Int)) rfl)) (by simp)) rfl (zMA hf));rw[zX2 rfl]at e3;by_cases h:o=r
   .rw[zYv h]at e1 ⊢;exact zUt e1
   .rw[zYM h]at e1 ⊢;rw[zMx e1 (k:=decide (o<r) && !(zG fd [(o:Int),(r:Int)]).isSome) ?_]
    .rfl
    by_cases h2:o<r
    .rw[zYv (by omega)]at e2;rw[zN7 e2 e3,zYv h2];rfl
    .rw[zYM (by omega)]at e2;rw[zNk e2,zYM h2];rfl)
  generalize hF:((List.range zA.length).filter λ(o:Nat)=>decide (o=r)||(decide (o<r) && !(zG fd [(o:Int),(r:Int)]).isSome))=F at ef;have hm:∀ o,o∈F ↔ o∈okL (λp=>(zG fd p).isSome=true) r:=λo=>by
   rw[zEZ,<-hF,zYy,zYR];simp only[Bool.or_eq_true,zYN,zY0,Bool.not_eq_true'];constructor
   .rintro ⟨h1,h2|⟨h2,h3⟩⟩
    .exact ⟨by omega,.inl h2⟩
    .exact ⟨by omega,.inr (by rw[h3];simp)⟩
   .rintro ⟨h1,h2|h2⟩
    .exact ⟨by omega,.inl h2⟩
    .rcases Nat.eq_or_lt_of_le h1 with z|z
     .exact ⟨by omega,.inl z⟩
     .exact ⟨by omega,.inr ⟨z,by simpa using h2⟩⟩
  have hne:F≠[]:=λz=>by
   have:r∈F:=(hm r).mpr (zEZ.mpr ⟨zXt _,.inl rfl⟩);rw[z]at this;cases this
  obtain ⟨b,eb,b1,b2⟩:=zN3 (xs:=F.map λ(k:Nat)=>(k:Int)) (by rw[zYB];exact ef) (by simpa using hne);obtain ⟨b',hb',rfl⟩:=zX4.mp b1;rw[eb,zFn ((hm b').mp hb') λy hy=>?_];have:=b2 (y:Int) (zX4.mpr ⟨y,(hm y).mpr hy,rfl⟩);omega
 have ec:=zAa (own:=[4]) (g:=gN 4) (te:=fB (zC7 false) (zU (zo [3] (zt (zC 2)) (gN 3) (zE2 (tst (fOp kEq (zC 3) (zC 4))) (zD3 (tst (fOp kLt (zC 3) (zC 4))) (tst (fOp (zBC true) (zAq (zD (toD (zC 3)) (zD (toD (zC 4)) zI))) (zC 1))))) (zC 3)) zk)) (σ:=[some (mD zA),some (.ref jf),some (tI ((List.range zA.length).map λ(k:Nat)=>(k:Int))),none,none]) (M:=M) (List.range zA.length) (λ(k:Nat)=>D.int (k:Int)) (λ(k:Nat)=>D.int (zGV (λp=>(zG fd p).isSome=true) k)) (eI none none) trivial (by rw[zZk];omega) λr hr=>⟨_,rfl,inner r (zYR.mp hr)⟩;rw[zAk];refine zAl.mpr (zAG.mpr (zAZ.mpr (zE ec (zd (zAe.mpr ?_)))));have eC:(List.range zA.length).map (λ(k:Nat)=>D.int (zGV (λp=>(zG fd p).isSome=true) k))=(zBe (λp=>(zG fd p).isSome=true) zA.length).map D.int:=by unfold zBe;rw[zYB];rfl
 rw[eC];refine Ok.mono (zJf (zc _ _) (by unfold zBe;rw[zXw,zZk];omega)) ?_;rintro d M' ⟨rfl,h1,h2⟩;rw[zX3,List.length_singleton]at h1 h2;rw[zJ];exact ⟨rfl,by omega,λi hi=>by rw[h2 i (by omega),zXu hi]⟩
theorem zJx (hr:M[jr]?=some (dT (zBo zA l G))) (h:p∉zBU zA l G) :
  Ok (zBG [mD zA,.ref jr,tI p] M) λd M'=>d=tI [] /\ ∃ us,M'=M++us:=by
 have hrl:=(zXq.mp hr).1;unfold zBG;rw[zr];unfold zEb;rw[zH,zS];refine zE (M:=M) (a:=.fl []) (zTC rfl (by simp)) (zd ?_);rw[zN];refine zA4 (d:=tI p) rfl ?_;rw[zH];have hM:(M++[MO.lst []])[jr]?=some (dT (zBo zA l G)):=by rw[zXu hrl];exact hr
 have hL:(M++[MO.lst []])[M.length]?=some (.lst (([]:List Int).map D.int)):=by simp
 have hlk:zG (zBo zA l G) p=none:=by rw[zDN,zX5 h]
 have et:tst (fOp (zBC false) (zC 4) (zC 1)) [some (mD zA),some (.ref jr),some (tI p),some (.ref M.length),some (tI p),none] (M++[MO.lst []])=some (false,M++[MO.lst []]):=by
  have:=zL (k:=zBC false) (f:=zC 4) (g:=zC 1) (σ:=[some (mD zA),some (.ref jr),some (tI p),some (.ref M.length),some (tI p),none]) (x:=.dat (tI p)) (y:=.dat (.ref jr)) rfl rfl (zMA hM);rw[zX5 (by decide),hlk]at this;exact zv this
 refine zCc (I:=λz σ M'=>z=0/\σ=[some (mD zA),some (.ref jr),some (tI p),some (.ref M.length),some (tI p),none]/\M'=M++[.lst []]) ?_ 1000 0 _ _ (by omega) ⟨rfl,rfl,rfl⟩;rintro z σ M' ⟨rfl,rfl,rfl⟩;refine zE et ?_;exact zAK (d:=tI []) (zAw (f:=zC 3) rfl (zf hL)) ⟨rfl,_,rfl⟩
theorem zLZ (m:IsM zA l) (o:zDB zA G) (hR:zA.length<=26) (hr:M[jr]?=some (dT (zBo zA l G))) (hp:p∈zV (zF zA)) :
  Ok (zBG [mD zA,.ref jr,tI p] M) λd M'=>(∃ w:List Int,d=tI w) /\ ∃ us,M'=M++us:=by
 by_cases h:p∈zBU zA l G
 .obtain ⟨_,n,hn⟩:=zBH.mp h;obtain ⟨w,c⟩:=zDf (n+1) hn;refine Ok.mono (zHc m o hR hr (zBp p hp) c) ?_;rintro d M' ⟨rfl,us⟩;exact ⟨⟨w,rfl⟩,us⟩
 .refine Ok.mono (zJx hr h) ?_;rintro d M' ⟨rfl,us⟩;exact ⟨⟨[],rfl⟩,us⟩
noncomputable def zCx:FS:=(zAO (zo [2,3] (zt (zP zAE (zD (toD (zP zAD (zD (toD (zC 0)) zI))) zI))) (zC0 2 3) (tst (fOp kNe (fOp kIx (zC 1) (zC 2)) (fOp kIx (zC 1) (zC 3)))) (zAq (zD (toD (zC 2)) (zD (toD (zC 3)) zI)))))
noncomputable def zBA:FF:=zA3 4 zCx
theorem zNY (h:∀ o r:Nat,o<r->r<n->(bad [(o:Int),(r:Int)] ↔ bad' [(o:Int),(r:Int)])):zBe bad n=zBe bad' n:=by
 unfold zBe;refine List.map_congr_left λr hr=>?_;have hrn:=zYR.mp hr;have e:okL bad r=okL bad' r:=by
  unfold okL;refine List.filter_congr λo ho=>?_;have:=zYR.mp ho;rw[decide_eq_decide];by_cases z:o=r
  .simp[z]
  .rw[h o r (by omega) hrn]
 unfold zGV;rw[e]
theorem zGi (hR:zA.length<=26) (hP:P.length=zA.length) :
  Ok (zBA [mD zA,tI P] M) λd M'=>∃ ps:List (List Int),d=.ref (M.length+1)/\M'=M++[.lst ((zV (zF zA)).map tI)]++[.lst (ps.map tI)]/\(∀ p∈ps,p∈zV (zF zA))/\ps.length<=676:=by
 unfold zBA;rw[zr];unfold zCx;have hrl:(zF zA).length=zA.length:=by unfold zF;simp
 have epr:=zEA (xs:=zF zA) (by omega) (M:=M);have ei:zt (zP zAE (zD (toD (zP zAD (zD (toD (zC 0)) zI))) zI)) [some (mD zA),some (tI P),none,none] M=_:=zEe (zY (d:=tI (zF zA)) (zh (zY (d:=mD zA) rfl) (zDM (by omega)))) epr (zc _ _);have hPl:=zCb hR;have ef:=zBg (own:=[2,3]) (g:=zC0 2 3) (tc:=tst (fOp kNe (fOp kIx (zC 1) (zC 2)) (fOp kIx (zC 1) (zC 3)))) (te:=zAq (zD (toD (zC 2)) (zD (toD (zC 3)) zI))) (zV (zF zA)) tI tI (λp=> !decide (P.getD (p.getD 0 0).toNat 0=P.getD (p.getD 1 0).toNat 0)) ei (.inl (zc _ _)) (by omega) (λp hp=>by
  obtain ⟨a,b,rfl,ha,hb,_⟩:=zAB.mp hp;obtain ⟨a0,a1⟩:=zA0.mp ha;obtain ⟨b0,b1⟩:=zA0.mp hb;refine ⟨[some (mD zA),some (tI P),some (.int a),some (.int b)],rfl,?_,λ_=>zIB (zg (d:=.int a) rfl (zY (d:=.int b) rfl)) (by simp)⟩;exact zv (zL (x:=.dat (.int (P.getD a.toNat 0))) (y:=.dat (.int (P.getD b.toNat 0))) (zL (x:=.dat (tI P)) (y:=.dat (.int a)) rfl rfl (zBN zu (zC9 a0 (by omega)))) (zL (x:=.dat (tI P)) (y:=.dat (.int b)) rfl rfl (zBN zu (zC9 b0 (by omega)))) (zT (zVI.mpr ⟨by simp,rfl⟩))))
 rw[zAk];refine zE ef (zd ?_);exact ⟨_,by simp,rfl,λp hp=>(zYy.mp hp).1,zYE (zZ7 _ _) hPl⟩
noncomputable def zCh:FS:=(zW (zj 1 (zP zBL (zD (toD (zC 0)) (zD (toD (fB zH7 (zU (zP zFX (zD (toD (zC 0)) zI)) zk))) zI))))
  (zW (zj 2 (zP zBw (zD (toD (zC 0)) (zD (toD (zC 1)) zI))))
  (zW (zj 3 (zP zBf (zD (toD (zC 0)) (zD (toD (zC 1)) zI))))
  (zAO (zAq (zD (toD (zC 2)) (zD (toD (fB zAR (zU (zo [4] (zt (zP zBA (zD (toD (zC 0)) (zD (toD (zC 2)) zI)))) (gN 4) zq (zP zBG (zD (toD (zC 0)) (zD (toD (zC 3)) (zD (toD (zC 4)) zI))))) zk))) zI)))))))
noncomputable def zAm:FF:=zDQ (zA3 5 zCh)
noncomputable def zG8:FS:=(zAO (fOp kIx (zP zAm (zD (toD (zC 0)) zI)) (fC (.int 0))))
noncomputable def zDU:FF:=zDQ (zA3 1 zG8)
theorem zHo (h:p∈zAM zA l):p∈zV (zF zA):=(zYy.mp h).1
theorem zGW (m:IsM zA l) (hR:zA.length<=26) (hl:l<=12) :
  ∃ ws:List (List Int),zAm [mD zA] M=some (.tup [tI (zBx (zBe (λp=>∃ k,Rch zA l (· ∈ zAM zA l) p k) zA.length)),.tup (ws.map tI)],M):=by
 suffices h:Ok (zAm [mD zA] M) λd M'=>M'=M /\ ∃ ws:List (List Int),d=.tup [tI (zBx (zBe (λp=>∃ k,Rch zA l (· ∈ zAM zA l) p k) zA.length)),.tup (ws.map tI)] by
  obtain ⟨d,M',e,rfl,ws,rfl⟩:=h;exact ⟨ws,e⟩
 unfold zAm;refine zCX ?_ ?_
 .unfold D.unds D.unds;rw[zCK];rfl
 rw[zr];unfold zCh;rw[zH,zS];refine zAl.mpr (zAG.mpr (zE (a:=mD zA) (M:=[]) rfl (zAG.mpr (zAZ.mpr (zSI.mpr (zFO.mpr (zE (zh (zY (d:=mD zA) rfl) (zQY m hR hl)) (zGu.mpr ((zVJ (zu)).mpr (zd (zAe.mpr ?_)))))))))));have nd:(zAM zA l).Nodup:=(zFN (zGH zA)).filter _;have hal:(zAM zA l).length<=676:=zYE (zZ7 _ _) (zCb hR);have oa:zDB zA (· ∈ zAM zA l):=.inr λt ht hin=>by
  obtain ⟨a,b,rfl,_⟩:=zAB.mp (zHo hin);cases ht
 refine Ok.mono (zEr m oa hR hl (zc _ _) nd (λt=>⟨λh=>⟨zBp t (zHo h),h⟩,λh=>h.2⟩) (by omega)) ?_;rintro d M1 ⟨jf,rfl,_,⟨fd,h2,_,sp⟩,_,_⟩;rw[zJ,zN];rw[zH,zS];refine zAl.mpr (zE (zg (d:=mD zA) rfl (zY (d:=.ref jf) rfl)) (Ok.mono (zIW hR h2) ?_));have hjf:=(zXq.mp h2).1;rintro d M2 ⟨rfl,h3,fr2⟩;have ecl:zBe (λp=>(zG fd p).isSome=true) zA.length=zBe (λp=>∃ k,Rch zA l (· ∈ zAM zA l) p k) zA.length:=zNY λo r ho hr=>by
  constructor
  .intro z;cases e:zG fd [(o:Int),(r:Int)] with
   |none=>rw[e]at z;cases z
   |some d=>
    obtain ⟨_,n,hn,_⟩:=(sp _ _).mp e;exact ⟨n,hn.1⟩
  .rintro ⟨k,hk⟩;obtain ⟨n,_,hn⟩:=zDY k hk;rw[(sp _ _).mpr ⟨zBp _ (zCH.mpr (by omega)),n,hn,rfl⟩];rfl
 rw[ecl];have hNl:(zBx (zBe (λp=>∃ k,Rch zA l (· ∈ zAM zA l) p k) zA.length)).length=zA.length:=by rw[zDS];unfold zBe;simp
 generalize zBx (zBe (λp=>∃ k,Rch zA l (· ∈ zAM zA l) p k) zA.length)=N at hNl ⊢;rw[zJ,zN];rw[zH,zS];refine zAl.mpr (zE (zg (d:=mD zA) rfl (zY (d:=.ref jf) rfl)) (Ok.mono (zGU m hR hl ((fr2 jf hjf).trans h2) sp) ?_));rintro d M3 ⟨jr,us,rfl,rfl,_,h4⟩;rw[zJ,zN];generalize M2++us=A at h4 ⊢;rw[zAk];refine zUf.mpr (zAG.mpr (zE (a:=tI N) (M:=A) rfl (zAG.mpr (zAZ.mpr (zSI.mpr (zFO.mpr (zC3.mpr ?_)))))));obtain ⟨d,A1,e1,ps,rfl,eA1,hps,hpl⟩:=zGi hR hNl (M:=A);have hA1:A1[A.length+1]?=some (.lst (ps.map tI)):=by
  have:=zc (A++[MO.lst ((zV (zF zA)).map tI)]) (MO.lst (ps.map tI));rw[zX3,List.length_singleton]at this;rw[eA1];exact this
 have hr1:A1[jr]?=some (dT (zBo zA l (· ∈ zAM zA l))):=by
  rw[eA1,zYt,zXu (zXq.mp h4).1];exact h4
 refine ⟨_,_,_,zEe (ds:=[mD zA,tI N]) (zg (d:=mD zA) rfl (zY (d:=tI N) rfl)) e1 hA1,by rw[zXw];exact zX (by omega),?_⟩;refine Ok.mono (zBu (I:=λr acc M'=>(∃ us,M'=A1++us) /\ ∃ (vs:Ya) (ws:Ya),r=vs.map tI/\(∀ p∈vs,p∈zV (zF zA))/\acc=ws.map tI/\ws.length+vs.length=ps.length) (Q:=λacc M'=>∃ ws:List (List Int),acc=ws.map tI/\ws.length=ps.length) ?_ ?_ _ [] _ ⟨⟨[],by simp⟩,ps,[],rfl,hps,rfl,by simp⟩) ?_
 .rintro x r acc M' ⟨⟨us,rfl⟩,vs,ws,hr,hv,rfl,hc⟩;cases vs with
  |nil=>cases hr
  |cons p vs=>
   rw[zX6]at hr;obtain ⟨rfl,rfl⟩:=zYr hr;have up:∀ {j:Nat} {u:MO},A1[j]?=some u->(A1++us)[j]?=some u:=λ{j u} h=>by rw[zXu (zXq.mp h).1];exact h
   refine ⟨.inl (up hA1),[some (mD zA),some (.ref jf),some (tI N),some (.ref jr),some (tI p)],rfl,⟨true,_,rfl,?_⟩⟩;dsimp only;rw[zX2 rfl];refine zAl.mpr (zE (zg (d:=mD zA) rfl (zg (d:=.ref jr) rfl (zY (d:=tI p) rfl))) (Ok.mono (zLZ m oa hR (up hr1) (hv p zX1)) ?_));rintro d M4 ⟨⟨w,rfl⟩,us2,rfl⟩;rw[zJ];exact ⟨⟨us++us2,by simp⟩,vs,ws++[w],rfl,λq hq=>hv q (zX0 _ hq),by simp,by simp at hc ⊢;omega⟩
 .rintro acc M' ⟨⟨us,rfl⟩,vs,ws,hr,_,rfl,hc⟩;have:vs=[]:=by cases vs with|nil=>rfl|cons _ _=>cases hr
  subst this;exact ⟨.inl (by rw[zXu (zXq.mp hA1).1];exact hA1),ws,rfl,by simpa using hc⟩
 .rintro ys M5 ⟨ws,e,hwl⟩;rw[List.nil_append]at e;subst e;refine zGu.mpr ((zKf zCL).mpr ?_);rw[zJ,zAe];refine ⟨zX (by simp),?_⟩;rw[zJ];refine ⟨?_,rfl,ws,rfl⟩;unfold D.und D.unds D.unds D.unds;rw[show D.und 0 (tI N)=true from zAC N,show D.und 0 (.tup (ws.map tI))=true from zN6 0 ws];rfl
theorem zJB (m:IsM zA l) (hR:zA.length<=26) (hl:l<=12) :
  zDU [mD zA] M=some (tI (zBx (zBe (λp=>∃ k,Rch zA l (· ∈ zAM zA l) p k) zA.length)),M):=by
 refine zT ?_;unfold zDU;refine zCX ?_ ?_
 .unfold D.unds D.unds;rw[zCK];rfl
 rw[zr];unfold zG8;obtain ⟨ws,e⟩:=zGW m hR hl (M:=[]);generalize zBx (zBe (λp=>∃ k,Rch zA l (· ∈ zAM zA l) p k) zA.length)=N at e ⊢;exact zAK (d:=tI N) (zL (x:=.dat (.tup [tI N,.tup (ws.map tI)])) (y:=.dat (.int 0)) (zh (zY (d:=mD zA) rfl) e) rfl (zBN zu rfl)) ⟨zAC N,rfl,rfl⟩
end Lad
namespace Lad
open PySem PySem.Spec PyProof.Rows L2 L3 ST Law Lac
def Mt (zA:Ya) (l:Nat) (a b:Int):Prop:=∃ w:List Int,(∀ x∈w,0<=x/\x<(l:Int))/\zAg zA a w=zAg zA b w
def Stb (zA:Ya) (l:Nat) (a b:Int):Prop:=∀ w:List Int,(∀ x∈w,0<=x/\x<(l:Int))->Mt zA l (zAg zA a w) (zAg zA b w)
theorem zB9 (zA:Ya) (a:Int) (v w:Ye):zAg zA a (v++w)=zAg zA (zAg zA a v) w:=by unfold zAg;rw[zZl]
theorem Mt.of (e:a=b):Mt zA l a b:=⟨[],⟨λ_ h=>(by cases h),e⟩⟩
theorem Mt.refl (a:Int):Mt zA l a a:=Mt.of rfl
theorem Mt.symm (h:Mt zA l a b):Mt zA l b a:=let ⟨w,h1,h2⟩:=h;⟨w,h1,h2.symm⟩
theorem Stb.symm (h:Stb zA l a b):Stb zA l b a:=λw hw=>(h w hw).symm
theorem Stb.refl (a:Int):Stb zA l a a:=λw hw=>Mt.refl _
theorem Stb.trans (h:Stb zA l a b) (g:Stb zA l b c):Stb zA l a c:=λw hw=>by
 obtain ⟨v,hv,e⟩:=h w hw;have hwv:∀ x∈w++v,0<=x/\x<(l:Int):=λx hx=>(zYD.mp hx).elim (hw x) (hv x);obtain ⟨u,hu,e2⟩:=g (w++v) hwv;refine ⟨v++u,λx hx=>(zYD.mp hx).elim (hv x) (hu x),?_⟩;rw[zB9,zB9]at e2;rw[zB9,zB9,e,e2]
theorem zF6 (m:IsM zA l):∀ (w:Ye) {a:Int},0<=a/\a<(zA.length:Int)->(∀ x∈w,0<=x/\x<(l:Int))->0<=zAg zA a w/\zAg zA a w<(zA.length:Int)
 |[],a,h,_=>h
 |x::w,a,h,hw=>by
  have hx:=hw x zX1;exact zF6 m w (m.step h.1 h.2 hx.1 hx.2) λy hy=>hw y (zX0 _ hy)
theorem zNw (h:a<b) (w:Ye):broR zA [a,b] w=ris [zAg zA a w,zAg zA b w]:=zCC (by simpa using h) w
theorem zNu (h:a<b) (w:Ye):One (broR zA [a,b] w) ↔ zAg zA a w=zAg zA b w:=by
 rw[zNw h];exact zKe
theorem zR0 (hp:[a,b]∈zV (zF zA)):[a,b]∈zAM zA l ↔ ¬ Mt zA l a b:=by
 have hab:=(zCH.mp hp).2.2;unfold zAM;rw[zYy];constructor
 .rintro ⟨_,h⟩ ⟨w,hw,e⟩;have h:=zYj h;apply h;have r:Rch zA l One [a,b] w.length:=⟨w,rfl,hw,(zNu hab w).mpr e⟩;obtain ⟨k,_,hk⟩:=zDY _ r;refine zBH.mpr ⟨hp,?_⟩;cases k with
  |zero=>exact absurd (zBR.mp hk) (by unfold Lac.One;simp)
  |succ k=>exact ⟨k,hk⟩
 .intro h;refine ⟨hp,zYv λz=>h ?_⟩;obtain ⟨_,n,hn⟩:=zBH.mp z;obtain ⟨w,_,hw,g⟩:=hn.1;exact ⟨w,hw,(zNu hab w).mp g⟩
theorem zR3 (ne:u≠v):ris [u,v]=zCQ u v:=(zO4 ne).symm
theorem Mt.pair:(∀ a b,zCQ u v=[a,b] -> ¬ Mt zA l a b) ↔ ¬ Mt zA l u v:=by
 unfold zCQ;constructor
 .intro h z;by_cases q:v<u
  .exact h v u (by rw[zX2 q,zX5 (by omega)]) z.symm
  .by_cases q2:v>u
   .exact h u v (by rw[zX5 q,zX2 q2]) z
   .exact h u u (by rw[zX5 q,zX5 q2]) (Mt.refl _)
 .intro h a b e z;injection e with e1 e2
  injection e2 with e2 _
  subst e1;subst e2;by_cases q:v<u
  .rw[zX2 q,zX5 (by omega)]at z;exact h z.symm
  .rw[zX5 q]at z;by_cases q2:v>u
   .rw[zX2 q2]at z;exact h z
   .have:u=v:=by omega
    subst this;exact h (Mt.refl _)
def Rk (zA:Ya) (l:Nat) (p:Ye):Prop:=∃ k,Rch zA l (· ∈ zAM zA l) p k
theorem zJj (m:IsM zA l) (hp:[a,b]∈zV (zF zA)):Rk zA l [a,b] ↔ ¬ Stb zA l a b:=by
 obtain ⟨ha,hb,hab⟩:=zCH.mp hp;have key:∀ w:List Int,(∀ x∈w,0<=x/\x<(l:Int))->(broR zA [a,b] w∈zAM zA l ↔ ¬ Mt zA l (zAg zA a w) (zAg zA b w)):=λw hw=>by
  rw[zNw hab];have ua:=zF6 m w ha hw;have ub:=zF6 m w hb hw;by_cases e:zAg zA a w=zAg zA b w
  .constructor
   .intro h;obtain ⟨c,d,e2,_⟩:=zAB.mp (zHo h);have:=zKe.mpr e;rw[e2]at this;simp at this
   .intro h;exact absurd (Mt.of e) h
  .rw[zR3 e];have hin:=zQG (zA:=zA) ua ub e;rw[<-Mt.pair];obtain ⟨c,d,e2,_⟩:=zAB.mp hin;rw[e2]at hin ⊢;rw[zR0 hin];constructor
   .rintro h x y e3;injection e3 with e3 e4
    injection e4 with e4 _
    subst e3;subst e4;exact h
   .exact λh=>h c d rfl
 constructor
 .rintro ⟨k,w,_,hw,g⟩ s;exact (key w hw).mp g (s w hw)
 .intro h;apply Classical.byContradiction;intro z;apply h;intro w hw;apply Classical.byContradiction;intro z2;exact z ⟨w.length,w,rfl,hw,(key w hw).mpr z2⟩
theorem zQV (r:Nat):∃ b:Nat,zGV bad r=(b:Int)/\b∈okL bad r /\ ∀ y∈okL bad r,b<=y:=by
  obtain ⟨b,hb,hm⟩:∃ b,b∈okL bad r /\ ∀ y∈okL bad r,b<=y:=by
    have hr:r∈okL bad r:=zEZ.mpr ⟨zXt _,.inl rfl⟩;generalize okL bad r=L at hr;induction L generalizing r with
    |nil=>cases hr
    |cons x xs ih=>
      cases xs with
      |nil=>exact ⟨x,zX1,λy hy=>Nat.le_of_eq (show y=x by simpa using hy).symm⟩
      |cons z zs=>
        obtain ⟨b,hb,hm⟩:=ih z zX1;by_cases q:x<=b
        . refine ⟨x,zX1,λy hy=>?_⟩
          rcases zXz.mp hy with e|e
          .omega
          .have:=hm y e;omega
        . refine ⟨b,zX0 _ hb,λy hy=>?_⟩
          rcases zXz.mp hy with e|e
          .omega
          .exact hm y e
  exact ⟨b,zFn hb hm,hb,hm⟩
theorem zTU {bad:Yq} {E:Int->Int->Prop} {n:Nat} (er:∀ a,E a a) (es:∀ {a b},E a b->E b a) (et:∀ {a b c},E a b->E b c->E a c) (h:∀ o r:Nat,o<r->r<n->(bad [(o:Int),(r:Int)] ↔ ¬ E o r)) {o r:Nat} (ho:o<r) (hr:r<n):zGV bad o=zGV bad r ↔ E o r:=by
 have mem:∀ {y k:Nat},k<n->(y∈okL bad k ↔ y<=k/\E y k):=λ{y k} hk=>by
  rw[zEZ];constructor
  .rintro ⟨h1,h2|h2⟩
   .exact ⟨h1,by rw[h2];exact er _⟩
   .refine ⟨h1,?_⟩;rcases zY9 y k with q|q
    .exact Classical.byContradiction λz=>h2 ((h y k q hk).mpr z)
    .have:y=k:=by omega
     rw[this];exact er _
  .rintro ⟨h1,h2⟩;refine ⟨h1,?_⟩;rcases zY9 y k with q|q
   .exact .inr λz=>(h y k q hk).mp z h2
   .exact .inl (by omega)
 obtain ⟨b,e1,b1,b2⟩:=zQV (bad:=bad) o;obtain ⟨c,e2,c1,c2⟩:=zQV (bad:=bad) r;have b3:=(mem (by omega)).mp b1;have c3:=(mem hr).mp c1;rw[e1,e2];constructor
 .intro e;have e:b=c:=by omega
  subst e;exact et (es b3.2) c3.2
 .intro e;have h1:c<=b:=c2 b ((mem hr).mpr ⟨by omega,et b3.2 e⟩);have h2:b<=c:=by
   rcases zY9 o c with q|q
   .omega
   .exact b2 c ((mem (by omega)).mpr ⟨q,et c3.2 (es e)⟩)
  omega
theorem zP3 (hi:i<xs.length) (hj:j<xs.length):(zBx xs).getD i 0=(zBx xs).getD j 0 ↔ xs.getD i 0=xs.getD j 0:=by
 unfold zBx;have g:∀ {k:Nat} (hk:k<xs.length),(xs.map λx=>((zK xs).idxOf x:Int)).getD k 0=((zK xs).idxOf (xs.getD k 0):Int):=λ{k} hk=>by
  rw[zXs,zXs,zYA,zXr hk];rfl
 have mm:∀ {k:Nat} (hk:k<xs.length),xs.getD k 0∈zK xs:=λ{k} hk=>by
  rw[zBa,zXs,zXr hk];exact zYL hk
 rw[g hi,g hj];constructor
 .intro e;have e:(zK xs).idxOf (xs.getD i 0)=(zK xs).idxOf (xs.getD j 0):=by omega
  have h1:=List.getElem_idxOf (List.idxOf_lt_length_of_mem (mm hi));have h2:=List.getElem_idxOf (List.idxOf_lt_length_of_mem (mm hj));rw[<-h1,<-h2];simp only[e]
 .intro e;rw[e]
noncomputable abbrev stN (zA:Ya) (l:Nat):List Int:=zBx (zBe (λp=>∃ k,Rch zA l (· ∈ zAM zA l) p k) zA.length)
theorem zNz (h:k<n):(zBe bad n).getD k 0=zGV bad k:=by
 unfold zBe;rw[zXs,zYA,zZr h];rfl
theorem zSW {zA:Ya} {l:Nat} (m:IsM zA l) {a b:Int} (hp:[a,b]∈zV (zF zA)):(stN zA l).getD a.toNat 0=(stN zA l).getD b.toNat 0 ↔ ¬ Rk zA l [a,b]:=by
 obtain ⟨ha,hb,hab⟩:=zCH.mp hp;have cl:∀ {bad:Yq},(zBe bad zA.length).length=zA.length:=λ{bad}=>by unfold zBe;simp
 rw[zP3 (by rw[cl];omega) (by rw[cl];omega),zNz (by omega),zNz (by omega)];have:=zTU (bad:=λp=>∃ k,Rch zA l (λx=>x∈zAM zA l) p k) (E:=Stb zA l) (n:=zA.length) Stb.refl (λh=>h.symm) (λh g=>h.trans g) (λo r ho hr=>zJj m (zCH.mpr (by omega))) (show a.toNat<b.toNat by omega) (show b.toNat<zA.length by omega);rw[this,zJj m hp,Int.toNat_of_nonneg ha.1,Int.toNat_of_nonneg hb.1];exact ⟨λh z=>z h,λh=>Classical.byContradiction h⟩
end Lad
namespace Lad
open PySem PySem.Spec PyProof.Rows L2 L3 ST Law Lac
noncomputable abbrev pg (P:Ye) (a:Int):Int:=P.getD a.toNat 0
structure Prt (P:Ye) (K:Nat):Prop where
 k0:0<K
 lt:∀ a:Nat,a<P.length->0<=P.getD a 0/\P.getD a 0<(K:Int)
 on:∀ j:Nat,j<K -> ∃ a:Nat,a<P.length/\P.getD a 0=(j:Int)
theorem zN9 (hk:k<xs.length):(zBx xs).getD k 0=((zK xs).idxOf (xs.getD k 0):Int):=by
 unfold zBx;rw[zXs,zXs,zYA,zXr hk];rfl
theorem zGF {xs:Ye} (hk:k<xs.length):xs.getD k 0∈xs:=by
 rw[zXs,zXr hk];exact zYL hk
theorem zTj {xs:Ye} (h:0<xs.length):Prt (zBx xs) (zK xs).length:=by
 have h0:=(zBa xs _).mpr (zGF h);refine ⟨List.length_pos_of_mem h0,λa ha=>?_,λj hj=>?_⟩
 .rw[zDS]at ha;rw[zN9 ha];have:=zQk ((zBa xs _).mpr (zGF ha));omega
 .have hm:(zK xs).getD j 0∈xs:=(zBa xs _).mp (zGF hj);obtain ⟨a,ha,e⟩:=zZq hm;refine ⟨a,by rw[zDS];exact ha,?_⟩;rw[zN9 ha,zXs,zXr ha];show ((zK xs).idxOf xs[a]:Int)=_;rw[e,zMS (zFF xs) hj]
noncomputable def crw (P r:Ye):List Int:=r.map (pg P)
noncomputable def zA2 (zA:Ya) (P:Ye) (K:Nat):List (List Int):=(List.range K).map λ(j:Nat)=>crw P (zA.getD (P.idxOf (j:Int)) [])
theorem zEi (zA:Ya) (P:Ye) (K:Nat):(zA2 zA P K).length=K:=by unfold zA2;simp
theorem zSh {zA:Ya} {P:Ye} {K j:Nat} (h:j<K):(zA2 zA P K).getD j []=crw P (zA.getD (P.idxOf (j:Int)) []):=by
 unfold zA2;rw[zXs,zYA,zZr h];rfl
theorem zMX {P:Ye} {K:Nat} (p:Prt P K) {j:Nat} (h:j<K):P.idxOf (j:Int)<P.length/\P.getD (P.idxOf (j:Int)) 0=(j:Int):=by
 obtain ⟨a,ha,e⟩:=p.on j h;have hm:(j:Int)∈P:=by rw[<-e];exact zGF ha
 have hlt:=zQk hm;refine ⟨hlt,?_⟩;rw[zXs,zXr hlt];exact List.getElem_idxOf hlt
section
variable {zA:Ya} {l:Nat} {P:Ye} {K:Nat}
theorem zQt (p:Prt P K) (hP:P.length=zA.length) (ha:0<=a/\a<(zA.length:Int)):0<=pg P a/\pg P a<(K:Int):=p.lt a.toNat (by omega)
theorem zMP (m:IsM zA l) (p:Prt P K) (hP:P.length=zA.length):IsM (zA2 zA P K) l:=by
 refine ⟨by rw[zEi];exact p.k0,m.l0,λr hr=>?_⟩;obtain ⟨j,hj,rfl⟩:=zX4.mp hr;obtain ⟨h1,_⟩:=zMX p (zYR.mp hj);have hg:=m.get (h:=(P.idxOf (j:Int):Int)) (by omega) (by omega);rw[zaX]at hg;refine ⟨by unfold crw;rw[zXw];exact hg.1,λg hgm=>?_⟩;obtain ⟨x,hx,rfl⟩:=zX4.mp hgm;rw[zEi];exact zQt p hP (hg.2 x hx)
def Kp (zA:Ya) (l:Nat) (P:Ye):Prop:=∀ a b x:Int,0<=a/\a<(zA.length:Int)->0<=b/\b<(zA.length:Int)->0<=x/\x<(l:Int)->pg P a=pg P b->pg P (zBQ zA a x)=pg P (zBQ zA b x)
theorem zPy (m:IsM zA l) (p:Prt P K) (hP:P.length=zA.length) (kp:Kp zA l P) (ha:0<=a/\a<(zA.length:Int)) (hx:0<=x/\x<(l:Int)):zBQ (zA2 zA P K) (pg P a) x=pg P (zBQ zA a x):=by
 have hl:=zQt p hP ha;obtain ⟨j,hj⟩:∃ j:Nat,pg P a=(j:Int):=⟨(pg P a).toNat,by omega⟩;have hjK:j<K:=by omega
 obtain ⟨h1,h2⟩:=zMX p hjK;have hr:0<=(P.idxOf (j:Int):Int)/\(P.idxOf (j:Int):Int)<(zA.length:Int):=by omega
 have e:=kp _ _ x hr ha hx (by rw[hj];unfold pg;rw[zaX];exact h2);rw[<-e,hj];unfold zBQ;rw[zaX,zaX,zSh hjK];have hg:=(m.get hr.1 hr.2).1;rw[zaX]at hg;unfold crw;rw[zXs,zYA,zXr (show x.toNat<(zA.getD (P.idxOf (j:Int)) []).length by omega)];rw[zXs (l:=zA.getD (P.idxOf (j:Int)) []),zXr (show x.toNat<(zA.getD (P.idxOf (j:Int)) []).length by omega)];rfl
theorem zGz (m:IsM zA l) (p:Prt P K) (hP:P.length=zA.length) (kp:Kp zA l P):∀ (w:Ye) {a:Int},0<=a/\a<(zA.length:Int)->(∀ x∈w,0<=x/\x<(l:Int))->zAg (zA2 zA P K) (pg P a) w=pg P (zAg zA a w)
 |[],_,_,_=>rfl
 |x::w,a,ha,hw=>by
  have hx:=hw x zX1;show zAg (zA2 zA P K) (zBQ (zA2 zA P K) (pg P a) x) w=pg P (zAg zA (zBQ zA a x) w);rw[zPy m p hP kp ha hx];exact zGz m p hP kp w (m.step ha.1 ha.2 hx.1 hx.2) λy hy=>hw y (zX0 _ hy)
theorem zJl (m:IsM zA l) (p:Prt P K) (hP:P.length=zA.length) (kp:Kp zA l P) (s:IsS zA S) (hw:∀ x∈w,0<=x/\x<(l:Int)):broR (zA2 zA P K) (ris (S.map (pg P))) w=ris ((broR zA S w).map (pg P)):=by
 rw[zGq,zCC s.pw,zGy,zYB,zYB];congr 1;refine List.map_congr_left λa ha=>?_;exact zGz m p hP kp w (s.mem a ha) hw
theorem zOs (p:Prt P K) (hP:P.length=zA.length):zF (zA2 zA P K)=ris ((zF zA).map (pg P)):=by
 have pw:(zF (zA2 zA P K)).Pairwise (· < ·):=by
  unfold zF;rw[List.pairwise_map];exact zaA (λ{x y} h=>by omega) List.pairwise_lt_range
 rw[<-zJq pw];refine zFa λx=>?_;rw[zA0,zEi];constructor
 .rintro ⟨h0,h1⟩;obtain ⟨a,ha,e⟩:=p.on x.toNat (by omega);refine zX4.mpr ⟨(a:Int),zA0.mpr (by omega),?_⟩;unfold pg;rw[zaX,e];omega
 .intro h;obtain ⟨a,ha,rfl⟩:=zX4.mp h;exact zQt p hP (zA0.mp ha)
theorem zQD (m:IsM zA l) (p:Prt P K) (hP:P.length=zA.length) (kp:Kp zA l P) (mt:∀ a b:Int,0<=a/\a<(zA.length:Int)->0<=b/\b<(zA.length:Int)->pg P a=pg P b->Mt zA l a b) :
  ∀ (n:Nat) {S:Ye},S.length<=n->IsS zA S -> ∃ v:List Int,(∀ x∈v,0<=x/\x<(l:Int))/\(broR zA S v).length<=(ris (S.map (pg P))).length:=by
 intro n;induction n with
 |zero=>intro S hn s;have:=s.n0;omega
 |succ n ih=>
  intro S hn s;by_cases inj:∀ a∈S,∀ b∈S,pg P a=pg P b->a=b
  .refine ⟨[],λ_ h=>(by cases h),?_⟩;have nd:(S.map (pg P)).Nodup:=by
    have h1:S.Nodup:=zaA (λ{x y} h=>Int.ne_of_lt h) s.pw;clear hn ih;induction S with
    |nil=>exact List.nodup_nil
    |cons x r ihr=>
     rw[zX6,zY7];obtain ⟨q1,q2⟩:=zY7.mp h1;refine ⟨λz=>?_,?_⟩
     .obtain ⟨y,hy,e⟩:=zX4.mp z;exact q1 (inj x zX1 y (zX0 _ hy) e.symm▸hy)
     .cases r with
      |nil=>exact List.nodup_nil
      |cons y r=>exact ihr ⟨(zZx.mp s.pw).2,by simp,λz hz=>s.mem z (zX0 _ hz)⟩ (λa ha b hb=>inj a (zX0 _ ha) b (zX0 _ hb)) q2
   rw[zLw nd,zXw];exact zXt _
  .have:∃ a b,a∈S/\b∈S/\pg P a=pg P b/\a≠b:=by
    apply Classical.byContradiction;intro z;exact inj λa ha b hb e=>Classical.byContradiction λne=>z ⟨a,b,ha,hb,e,ne⟩
   obtain ⟨a,b,ha,hb,e,ne⟩:=this;obtain ⟨v0,hv0,e0⟩:=mt a b (s.mem a ha) (s.mem b hb) e;have less:=zJD s ha hb ne e0;have s2:=m.broR v0 s hv0;obtain ⟨v1,hv1,h1⟩:=ih (S:=broR zA S v0) (by omega) s2;refine ⟨v0++v1,λx hx=>(zYD.mp hx).elim (hv0 x) (hv1 x),?_⟩;rw[zJw];refine zYE h1 ?_;rw[<-zJl m p hP kp s hv0,zGq];have h3:=zEg ((S.map (pg P)).map λr=>zAg (zA2 zA P K) r v0);have h4:(ris ((S.map (pg P)).map λr=>zAg (zA2 zA P K) r v0)).length<=(ris (S.map (pg P))).length:=by
    rw[<-zGy];have:=zEg ((ris (S.map (pg P))).map λr=>zAg (zA2 zA P K) r v0);rw[zXw]at this;exact this
   exact h4
end
noncomputable def zDz:FS:=(zAO (zo [3] (zt (zC 0)) (gN 3) zq (fB zAR (zU (zo [2] (zt (zC 3)) (gN 2) zq (fOp kIx (zC 1) (zC 2))) zk))))
noncomputable def zBI:FF:=zA3 4 zDz
noncomputable def zHb:FS:=(zW (zj 2 (zP zBI (zD (toD (zC 0)) (zD (toD (zC 1)) zI))))
  (zAO (fB zAR (zU (zo [3] (zAc (zD (toD (fOp zAX (fB (zC7 true) (zU (zC 1) zk)) (fC (.int 1)))) zI)) (gN 3) zq (fOp kIx (zC 2) (zF2 (zC 1) (zC 3)))) zk))))
noncomputable def zEF:FF:=zDQ (zA3 4 zHb)
theorem zPb {ks:Ye} (h:ks.Nodup):zK ks=ks:=by
 have:∀ (l acc:Ye),(acc++l).Nodup->l.foldl ins acc=acc++l:=by
  intro l;induction l with
  |nil=>intro acc _;simp
  |cons x r ih=>
   intro acc hn;have hx:x∉acc:=λq=>by
    rw[zY1]at hn;exact hn.2.2 x q x zX1 rfl
   rw[List.foldl_cons];have:ins acc x=acc++[x]:=by unfold ins;rw[zX5 hx]
   rw[this,ih (acc++[x]) (by simpa using hn)];simp
 simpa [zK] using this ks [] (by simpa using h)
section
variable {zA:Ya} {l:Nat}
theorem zB7:(stN zA l).length=zA.length:=by rw[zDS];unfold zBe;simp
theorem zHh (m:IsM zA l) (ha:0<=a/\a<(zA.length:Int)) (hb:0<=b/\b<(zA.length:Int)):pg (stN zA l) a=pg (stN zA l) b ↔ Stb zA l a b:=by
 have key:∀ {a b:Int},0<=a/\a<(zA.length:Int)->0<=b/\b<(zA.length:Int)->a<b->(pg (stN zA l) a=pg (stN zA l) b ↔ Stb zA l a b):=λ{a b} ha hb h=>by
  have hp:=zCH.mpr ⟨ha,hb,h⟩;rw[zSW m hp,zJj m hp];exact ⟨λh=>Classical.byContradiction h,λh z=>z h⟩
 rcases Int.lt_trichotomy a b with h|h|h
 .exact key ha hb h
 .subst h;exact ⟨λ_=>Stb.refl a,λ_=>rfl⟩
 .exact ⟨λe=>((key hb ha h).mp e.symm).symm,λe=>((key hb ha h).mpr e.symm).symm⟩
theorem Stb.step (h:Stb zA l a b) (hx:0<=x/\x<(l:Int)):Stb zA l (zBQ zA a x) (zBQ zA b x):=λw hw=>h (x::w) λy hy=>by
 rcases zXz.mp hy with rfl|z
 .exact hx
 .exact hw y z
theorem Stb.mt (h:Stb zA l a b):Mt zA l a b:=h [] λ_ h=>by cases h
theorem zT8 (m:IsM zA l):Kp zA l (stN zA l):=λa b x ha hb hx e=>(zHh m (m.step ha.1 ha.2 hx.1 hx.2) (m.step hb.1 hb.2 hx.1 hx.2)).mpr (((zHh m ha hb).mp e).step hx)
noncomputable def stK (zA:Ya) (l:Nat):Nat:=(zK (zBe (λp=>∃ k,Rch zA l (· ∈ zAM zA l) p k) zA.length)).length
theorem zKR (m:IsM zA l):Prt (stN zA l) (stK zA l):=zTj (by unfold zBe;rw[zXw,zZk];exact m.r0)
theorem zUs:stK zA l<=zA.length:=by
 have:=zA8 (zBe (λp=>∃ k,Rch zA l (· ∈ zAM zA l) p k) zA.length);unfold zBe at this;rw[zXw,zZk]at this;exact this
theorem zTs (m:IsM zA l) (ha:0<=a/\a<(zA.length:Int)) (hb:0<=b/\b<(zA.length:Int)) (h:Stb (zA2 zA (stN zA l) (stK zA l)) l (pg (stN zA l) a) (pg (stN zA l) b)):Stb zA l a b:=λw hw=>by
 have p:=zKR m;have kp:=zT8 m;obtain ⟨v,hv,e⟩:=h w hw;have hwv:∀ x∈w++v,0<=x/\x<(l:Int):=λx hx=>(zYD.mp hx).elim (hw x) (hv x);rw[<-zB9,<-zB9,zGz m p zB7 kp _ ha hwv,zGz m p zB7 kp _ hb hwv]at e;obtain ⟨u,hu,e2⟩:=((zHh m (zF6 m _ ha hwv) (zF6 m _ hb hwv)).mp e).mt;refine ⟨v++u,λx hx=>(zYD.mp hx).elim (hv x) (hu x),?_⟩;rw[zB9,zB9,<-zB9 zA a w v,<-zB9 zA b w v];exact e2
theorem zPa (m:IsM zA l):stN (zA2 zA (stN zA l) (stK zA l)) l=(List.range (stK zA l)).map λ(k:Nat)=>(k:Int):=by
 have p:=zKR m;have fm:=zMP m p zB7;have bad:∀ o r:Nat,o<r->r<stK zA l -> ∃ k,Rch (zA2 zA (stN zA l) (stK zA l)) l (· ∈ zAM (zA2 zA (stN zA l) (stK zA l)) l) [(o:Int),(r:Int)] k:=λo r ho hr=>by
  refine (zJj fm (zCH.mpr (by rw[zEi];omega))).mpr λz=>?_;obtain ⟨a,ha,ea⟩:=p.on o (by omega);obtain ⟨b,hb,eb⟩:=p.on r hr;rw[zB7]at ha hb;have ia:0<=(a:Int)/\(a:Int)<(zA.length:Int):=by omega
  have ib:0<=(b:Int)/\(b:Int)<(zA.length:Int):=by omega
  have ga:pg (stN zA l) (a:Int)=(o:Int):=by unfold pg;rw[zaX];exact ea
  have gb:pg (stN zA l) (b:Int)=(r:Int):=by unfold pg;rw[zaX];exact eb
  rw[<-ga,<-gb]at z;have:=(zHh m ia ib).mpr (zTs m ia ib z);rw[ga,gb]at this;omega
 have hl:=zEi zA (stN zA l) (stK zA l);generalize zA2 zA (stN zA l) (stK zA l)=F at bad fm hl;generalize stK zA l=K at bad hl;have hc:∀ r:Nat,r<K->zGV (λp=>∃ k,Rch F l (· ∈ zAM F l) p k) r=(r:Int):=λr hr=>zFn (zEZ.mpr ⟨zXt _,.inl rfl⟩) λy hy=>by
  obtain ⟨h1,h2⟩:=zEZ.mp hy;rcases zY9 y r with q|q
  .rcases h2 with h2|h2
   .omega
   .exact absurd (bad y r q hr) h2
  .exact q
 have hcl:zBe (λp=>∃ k,Rch F l (· ∈ zAM F l) p k) F.length=(List.range K).map λ(k:Nat)=>(k:Int):=by
  unfold zBe;rw[hl];exact List.map_congr_left λr hr=>hc r (zYR.mp hr)
 show zBx (zBe (λp=>∃ k,Rch F l (· ∈ zAM F l) p k) F.length)=_;rw[hcl];have nd:((List.range K).map λ(k:Nat)=>(k:Int)).Nodup:=by
  refine List.Pairwise.map _ (λa b h e=>h ?_) List.nodup_range;omega
 apply List.ext_getElem?;intro i;by_cases hi:i<K
 .unfold zBx;rw[zPb nd,zYA,zYA,zZr hi];simp only[Option.map_some];have:=zMS nd (k:=i) (by simpa using hi);rw[zXs,zYA,zZr hi]at this;simp only[Option.map_some,Option.getD_some]at this;rw[this]
 .rw[zYw (by rw[zDS];simpa using hi),zYw (by simpa using hi)]
theorem zIM (m:IsM zA l) (hR:zA.length<=1000) (hl:l<=1000) (hp:p.length=zA.length):zBI [mD zA,tI p] M=some (.ref M.length,M++[.lst ((zA.map (crw p)).map λr=>D.tup (r.map D.int))]):=by
 have key:zo [3] (zt (zC 0)) (gN 3) zq (fB zAR (zU (zo [2] (zt (zC 3)) (gN 2) zq (fOp kIx (zC 1) (zC 2))) zk)) [some (mD zA),some (tI p),none,none] M=some (.fl ((zA.map (crw p)).map λr=>D.tup (r.map D.int)),M):=by
  refine (zAa zA (λr=>D.tup (r.map D.int)) (λr=> .tup ((crw p r).map D.int)) (zCz rfl) trivial (by omega) λr hr=>⟨_,rfl,?_⟩).trans ?_
  .obtain ⟨h1,h2⟩:=m.row r hr;refine (zAw (zAa r D.int (λg=> .int (p.getD g.toNat 0)) (zCz rfl) trivial (by omega) λg hg=>⟨_,rfl,?_⟩) zCL).trans ?_
   .exact zL (x:=.dat (tI p)) (y:=.dat (.int g)) rfl rfl (zBN zu (zC9 (h2 g hg).1 (by rw[hp];exact (h2 g hg).2)))
   .unfold crw;rw[zYB];rfl
  .rw[zYB];rfl
 suffices h:Ok (zBI [mD zA,tI p] M) λd M'=>d=.ref M.length/\M'=M++[.lst ((zA.map (crw p)).map λr=>D.tup (r.map D.int))] by
  obtain ⟨d,M',e,rfl,rfl⟩:=h;exact e
 unfold zBI;rw[zr];unfold zDz;rw[zAk];exact zE key (zd ⟨rfl,rfl⟩)
theorem zPs {P:Ye} {K:Nat} (p:Prt P K) {f:FE} {σ:Sd} {M:Mem} (hf:f σ M=some (.dat (tI P),M)):fB (zC7 true) (zU f zk) σ M=some (.dat (.int ((K:Int)-1)),M):=by
 have k0:=p.k0;cases P with
 |nil=>obtain ⟨a,ha,_⟩:=p.on 0 k0;cases ha
 |cons x r=>
  obtain ⟨h1,h2⟩:=zCj true r x;have e:zCn true x r=(K:Int)-1:=by
   obtain ⟨j,hj,ej⟩:=zZq h1;have q1:=p.lt j hj;rw[zXs,zXr hj]at q1;simp only[Option.getD_some]at q1;rw[ej]at q1;obtain ⟨a,ha,ea⟩:=p.on (K-1) (by omega);have q2:=h2 _ (zGF ha);rw[ea]at q2;simp only[if_true]at q2;omega
  unfold fB zU zk;rw[hf];unfold zC7;show (match zAV ((x::r).map D.int) with|some (n::ns)=>some (EV.dat (.int (zCn true n ns)),M)|_=>none)=_;rw[zBB];dsimp only;rw[e]
theorem zOa {P:Ye} {K:Nat} (m:IsM zA l) (hR:zA.length<=26) (hl:l<=12) (p:Prt P K) (hK:K<=1000) (hP:P.length=zA.length) {M:Mem}:zEF [mD zA,tI P] M=some (mD (zA2 zA P K),M):=by
 have k0:=p.k0;refine zT ?_;unfold zEF;refine zCX ?_ ?_
 .unfold D.unds D.unds D.unds;rw[zCK];simp[tI,zAC]
 rw[zr];unfold zHb;rw[zH,zS];refine zAl.mpr (zE (zg (d:=mD zA) rfl (zY (d:=tI P) rfl)) (zE (zIM m (by omega) (by omega) hP) ?_));rw[zJ,zN];show OkS (zAO _ [some (mD zA),some (tI P),some (.ref 0),none] [.lst ((zA.map (crw P)).map λr=>D.tup (r.map D.int))]) _;have er:=zEl (f:=fOp zAX (fB (zC7 true) (zU (zC 1) zk)) (fC (.int 1))) (σ:=[some (mD zA),some (tI P),some (.ref 0),none]) (M:=[.lst ((zA.map (crw P)).map λr=>D.tup (r.map D.int))]) (j:=(K:Int)) (zL (x:=.dat (.int ((K:Int)-1))) (y:=.dat (.int 1)) (zPs p rfl) rfl (by show some (EV.dat (.int ((K:Int)-1+1)),_)=_;rw[show (K:Int)-1+1=(K:Int) by omega])) (by omega) (by omega);rw[show (K:Int).toNat=K by omega]at er;have ec:=zAa (own:=[3]) (g:=gN 3) (te:=fOp kIx (zC 2) (zF2 (zC 1) (zC 3))) (List.range K) (λ(k:Nat)=>D.int k) (λ(k:Nat)=>D.tup ((crw P (zA.getD (P.idxOf (k:Int)) [])).map D.int)) er trivial (by rw[zZk];omega) λk hk=>by
  obtain ⟨h1,h2⟩:=zMX p (zYR.mp hk);have hm:(k:Int)∈P:=by rw[<-h2];exact zGF h1
  refine ⟨[some (mD zA),some (tI P),some (.ref 0),some (.int (k:Int))],rfl,zL (x:=.dat (.ref 0)) (y:=.dat (.int (P.idxOf (k:Int)))) rfl (zSS (xs:=P) rfl rfl hm) (zBN (xs:=(zA.map (crw P)).map λr=>D.tup (r.map D.int)) rfl (zRE ?_))⟩;rw[zYA,zYA,zXs,zXr (show P.idxOf (k:Int)<zA.length by omega)];rfl
 refine zAK (d:=mD (zA2 zA P K)) ((zAw ec zCL).trans ?_) ⟨zCK _,rfl,rfl⟩;rw[show mD (zA2 zA P K)=.tup ((List.range K).map λ(k:Nat)=>D.tup ((crw P (zA.getD (P.idxOf (k:Int)) [])).map D.int)) by unfold mD zA2;rw[zYB];rfl]
theorem zMk (m:IsM zA l) (q1:Quick zA l 0 (zF zA) w1 s1) (q2:Quick (zA2 zA (stN zA l) (stK zA l)) l 0 (zF (zA2 zA (stN zA l) (stK zA l))) w2 s2) :
  (broR (zA2 zA (stN zA l) (stK zA l)) (zF (zA2 zA (stN zA l) (stK zA l))) w2).length=(broR zA (zF zA) w1).length/\(zK ((broR zA (zF zA) w1).map (pg (stN zA l)))).length=(broR zA (zF zA) w1).length/\(zK (((zF zA).map λa=>zAg zA a w2).map (pg (stN zA l)))).length=(broR zA (zF zA) w1).length:=by
 have p:=zKR m;have kp:=zT8 m;have fm:=zMP m p zB7;have s:=zDT m;have hw1:=zAj q1;have hw2:=zAj q2;have ri:∀ xs:List Int,(zK xs).length=(ris xs).length:=λxs=>by unfold ris;exact (zBb _).length_eq.symm
 have b1:=zJl m p zB7 kp s hw1;have b2:=zJl m p zB7 kp s hw2;rw[<-zOs p zB7]at b1 b2;have c1:=zIt fm q2 hw1;rw[b1]at c1;have c2:=zEg ((broR zA (zF zA) w1).map (pg (stN zA l)));rw[zXw]at c2;obtain ⟨v,hv,c3⟩:=zQD m p zB7 kp (λa b ha hb e=>((zHh m ha hb).mp e).mt) _ (zXt _) (m.broR w2 s hw2);have c4:=zIt m q1 (v:=w2++v) λx hx=>(zYD.mp hx).elim (hw2 x) (hv x);rw[zJw]at c4;rw[<-b2]at c3;have e1:(broR (zA2 zA (stN zA l) (stK zA l)) (zF (zA2 zA (stN zA l) (stK zA l))) w2).length=(broR zA (zF zA) w1).length:=by omega
 refine ⟨e1,by rw[ri];omega,?_⟩;rw[ri,<-zGy,<-zCC s.pw,<-b2];exact e1
end
noncomputable def zFI (g_rec:FF):FS:=(zW (sIf (tst (zFv "tuple" (zC 1))) (zW (sIf (zE2 (zGT (tst (zFv "tuple" (zC 0)))) (tst (fOp kNe (fB zAv (zU (zC 0) zk)) (fB zAv (zU (zC 1) zk))))) (zAO (fC (.bl false))) zBX)
  (zAO (fB zWB (zU (zo [2,3] (zRP (zD (toD (zC 0)) (zD (toD (zC 1)) zI))) (zC0 2 3) zq (zP g_rec (zD (toD (zC 2)) (zD (toD (zC 3)) zI)))) zk)))) zBX)
  (zW (sIf (tst (zFv "bool" (zC 1))) (zAO (zMJ (zFv "bool" (zC 0)) (fOp kEq (zC 0) (zC 1)))) zBX)
  (zAO (zMJ (zFv "int" (zC 0)) (zMJ (zQc (zFv "bool" (zC 0))) (fOp kEq (zC 0) (zC 1)))))))
noncomputable def zAs:Nat->FF
 |0=>λ_ _=>none
 |n+1=>zA3 4 (zFI (zAs n))
noncomputable def zHP:FF:=zAs 5
theorem zR5 (n:Nat) (i:Int) (M:Mem):zAs (n+1) [.int i,.int i] M=some (.bl true,M):=by
 refine zT ?_;unfold zAs;rw[zr];unfold zFI;refine zFQ (isF rfl rfl (by decide)) (zFQ (isF rfl rfl (by decide)) ?_);exact zAK (zIx (isV rfl rfl (by decide)) (zIx (zNJ (isV rfl rfl (by decide))) (zL rfl rfl (zPp rfl)))) ⟨rfl,rfl⟩
theorem zTL (n:Nat) (c:Ye) (hz:c.length<=1000) (M:Mem):zAs (n+2) [tI c,tI c] M=some (.bl true,M):=by
 refine zT ?_;unfold zAs;rw[zr];unfold zFI;refine zSa (zXA rfl rfl (by decide)) (zFQ ?_ ?_)
 .refine zT (zVa.mpr (zOC.mpr (zE (zXA rfl rfl (by decide)) ?_)));rw[zX5 (by decide)];refine zJy.mpr (zE (zL (zCi rfl zu) (zCi rfl zu) (zT (zVI.mpr ⟨rfl,rfl⟩))) ?_);rw[zJs];simp
 .rw[zAk];have ec:=zAa (own:=[2,3]) (g:=zC0 2 3) (te:=zP (zAs (n+1)) (zD (toD (zC 2)) (zD (toD (zC 3)) zI))) (fi:=zRP (zD (toD (zC 0)) (zD (toD (zC 1)) zI))) (σ:=[some (tI c),some (tI c),none,none]) (M:=M) c (λi=>D.tup [.int i,.int i]) (λ_=>D.bl true) (gd:=none) (by
   unfold zRP;rw[zg (d:=tI c) rfl (zY (d:=tI c) rfl)];show some (((c.map D.int).zip (c.map D.int)).map (λq=>D.tup [q.1,q.2]),(none:Option (Mem->Prop)),M)=_;rw[show ((c.map D.int).zip (c.map D.int)).map (λq=>D.tup [q.1,q.2])=c.map λi=>D.tup [.int i,.int i] by
    rw[List.zip_map,zYB];clear hz;induction c with
    |nil=>rfl
    |cons a r ih=>simp only[List.zip_cons_cons,zX6];rw[ih];rfl]) trivial (by omega) λi _=>⟨_,rfl,zh (zg rfl (zY rfl)) (zR5 n i M)⟩
  refine zSI.mpr (zFO.mpr (zE ec (zGu.mpr ((zWP (bs:=List.replicate c.length true) zVt (by rw[show c.map (λ_=>D.bl true)=(List.replicate c.length true).map D.bl by simp[List.map_const']];exact zI2 _)).mpr ?_))));rw[zJ];exact ⟨by simp,rfl⟩
noncomputable def zGA:FS:=(zW (zDA (zt (zC 2)) (gN 3) (zj 1 (fOp kIx (fOp kIx (zC 0) (zC 1)) (zC 3))))
  (zAO (zC 1)))
noncomputable def zCd:FF:=zA3 4 zGA
noncomputable def zRB:FS:=(zW (zj 1 (zP zCG (zD (toD (zC 0)) zI)))
  (zW (zDA (zAc (zD (toD (fB zJQ (zU (fC (.int 4)) (zU (fOp zAX (fC (.int 1)) (fB zAv (zU (zC 0) zk))) zk)))) zI)) (gN 2) (zW (zj 3 (fOp kIx (zP zBr (zD (toD (zC 1)) (zD (toD (fC (.int 26))) (zD (toD (fC (.int 6))) zI)))) (fC (.int 0))))
  (zW (zj 4 (zP zDU (zD (toD (zC 3)) zI)))
  (zW (zj 5 (zP zEF (zD (toD (zC 3)) (zD (toD (zC 4)) zI))))
  (zW (sIf (zGT (tst (zP zHP (zD (toD (zP zDU (zD (toD (zC 5)) zI))) (zD (toD (zGQ (fB zAv (zU (zC 5) zk)))) zI))))) (zAO (fC (.bl false))) zBX)
  (zW (zLn (zSx 6 7 8) (zP zBK (zD (toD (zC 3)) zI)))
  (zW (zLn (zSx 9 10 11) (zP zBK (zD (toD (zC 5)) zI)))
  (zW (sIf (zE2 (zGT (tst (zP zHP (zD (toD (zC 9)) (zD (toD (zC 6)) zI))))) (tst (fOp kNe (zJP (zEG (zo [12] (zt (zC 8)) (gN 12) zq (fOp kIx (zC 4) (zC 12))))) (zC 6)))) (zAO (fC (.bl false))) zBX)
  (zW (zj 13 (zo [12] (zAc (zD (toD (fB zAv (zU (zC 3) zk))) zI)) (gN 12) zq (zP zCd (zD (toD (zC 3)) (zD (toD (zC 12)) (zD (toD (zC 10)) zI))))))
  (sIf (zE2 (tst (fOp kNe (zJP (zEG (zo [12] (zt (zC 13)) (gN 12) zq (fOp kIx (zC 4) (zC 12))))) (zC 6))) (tst (fOp kNe (fB zAv (zU (zC 11) zk)) (zC 6)))) (zAO (fC (.bl false))) zBX))))))))))
  (zAO (fC (.bl true)))))
noncomputable def zGN:FF:=zA3 14 zRB
theorem zSy {zA:Ya} {l:Nat} (m:IsM zA l) {room:Int} {word:Ye} {M:Mem} (h0:0<=room) (h1:room<zA.length) (hw:∀ g∈word,0<=g/\g<(l:Int)):zCd [mD zA,.int room,tI word] M=some (.int (zAg zA room word),M):=by
 refine zT ?_;unfold zCd;rw[zr];unfold zGA;rw[zH,zBE];refine ⟨_,_,_,zBm rfl zu,?_⟩;refine zAp (I:=λr σ M'=>M'=M /\ ∃ (h:Int) (y:Option D) (c:Ye),σ=[some (mD zA),some (.int h),some (tI word),y]/\r=c.map D.int/\(∀ g∈c,0<=g/\g<(l:Int))/\0<=h/\h<zA.length/\zAg zA h c=zAg zA room word) ?_ ?_ _ _ _ ⟨rfl,room,none,word,rfl,rfl,hw,h0,h1,rfl⟩
 .rintro x r σ M' ⟨rfl,h,y,c,rfl,hc,hg,h0,h1,e⟩;obtain ⟨z,c',rfl,rfl,rfl⟩:=zAY hc;refine ⟨zAI,_,rfl,?_⟩;rw[zS];obtain ⟨g0,g1⟩:=hg z zX1;refine zE (m.ix h0 h1 g0 g1 rfl rfl rfl) ?_;rw[zJ];obtain ⟨s0,s1⟩:=m.step h0 h1 g0 g1;exact ⟨rfl,_,_,c',rfl,rfl,λg hg'=>hg g (zX0 _ hg'),s0,s1,e⟩
 .rintro σ M' ⟨rfl,h,y,c,rfl,hc,hg,h0,h1,e⟩;refine ⟨zAI,?_⟩;rw[zN];have:c=[]:=by cases c with|nil=>rfl|cons _ _=>cases hc
  subst this;exact zAK (d:=.int h) rfl ⟨by rw[<-e];rfl,rfl⟩
theorem zMb (hz:zA.length<=1000) (hf:f σ M=some (.dat (.int zA.length),M)):zGQ f σ M=some (.dat (tI (zF zA)),M):=by
 refine zT (zTm (j:=(zA.length:Int)) hf (by omega) (by omega) ⟨?_,rfl⟩);unfold upD tI zF;rw[zYB,show (zA.length:Int).toNat=zA.length by omega];rfl
theorem zNx {zA:Ya} {P:Ye} (hP:P.length=zA.length) {xs:Ye} (hi:fi [y0,y1,y2,y3,some (tI P),y5,y6,y7,y8,y9,y10,y11,y12,y13] M=some (xs.map D.int,gd,M)) (hg:zAr gd (xs.map D.int) M) (hx:∀ a∈xs,0<=a/\a<(zA.length:Int)) (hz:xs.length<=1000) :
  zJP (zEG (zo [12] fi (gN 12) zq (fOp kIx (zC 4) (zC 12)))) [y0,y1,y2,y3,some (tI P),y5,y6,y7,y8,y9,y10,y11,y12,y13] M=some (.dat (.int (zK (xs.map (pg P))).length),M):=by
 have ec:=zAa (own:=[12]) (g:=gN 12) (te:=fOp kIx (zC 4) (zC 12)) xs D.int (λa=>D.int (pg P a)) hi hg (by omega) λa ha=>⟨[y0,y1,y2,y3,some (tI P),y5,y6,y7,y8,y9,y10,y11,some (.int a),y13],rfl,zL (x:=.dat (tI P)) (y:=.dat (.int a)) rfl rfl (zBN zu (zC9 (hx a ha).1 (by have:=(hx a ha).2;omega)))⟩;have es:=zRW (ks:=xs.map (pg P)) ec (by rw[show xs.map (λa=>D.int (pg P a))=(xs.map (pg P)).map D.int by rw[zYB];rfl];exact zCL) (by rw[zXw];omega);unfold zJP;rw[es]
theorem neE (e:a=b):kNe (.dat (.int a)) (.dat (.int b)) M=some (.dat (.bl false),M):=by
 subst e;exact zT (zVI.mpr ⟨by simp,rfl⟩)
set_option maxHeartbeats 4000000 in
theorem zP7 (ns:Ye) (h:ns.length<=63):∃ M',zGN [.ref 0] [.fro (ns.map D.int)]=some (.bl true,M'):=by
 suffices hh:Ok (zGN [.ref 0] [.fro (ns.map D.int)]) λd _=>d=.bl true by
  obtain ⟨d,M',e,rfl⟩:=hh;exact ⟨M',e⟩
 unfold zGN;rw[zr];unfold zRB;rw[zH,zS];refine zAl.mpr (zE (zY rfl) ?_);refine Ok.mono (zRf h) ?_;rintro d M1 ⟨rfl,g1,e0⟩;rw[zJ,zN];rw[zH,zBE];have el:fB zAv (zU (zC 0) zk) [some (.ref 0),some (.ref 1),none,none,none,none,none,none,none,none,none,none,none,none] M1=some (.dat (.int (ns.map D.int).length),M1):=zCi (x:=.dat (.ref 0)) rfl (zS9 e0);rw[zXw]at el;have emin:fB zJQ (zU (fC (.int 4)) (zU (fOp zAX (fC (.int 1)) (fB zAv (zU (zC 0) zk))) zk)) [some (.ref 0),some (.ref 1),none,none,none,none,none,none,none,none,none,none,none,none] M1=some (.dat (.int (if 1+(ns.length:Int)<4 then 1+(ns.length:Int) else 4)),M1):=zSm rfl (zL rfl el rfl);refine ⟨_,_,_,zCk emin (by split <;> omega) (by split <;> omega),?_⟩;refine zMD (n:=(if 1+(ns.length:Int)<4 then 1+(ns.length:Int) else 4).toNat) (I:=λi σ M'=>(∃ y2 y3 y4 y5 y6 y7 y8 y9 y10 y11 y12 y13,σ=[some (.ref 0),some (.ref 1),y2,y3,y4,y5,y6,y7,y8,y9,y10,y11,y12,y13])/\Gen M' 1 2) ?_ ?_ _ _ ⟨⟨_,_,_,_,_,_,_,_,_,_,_,_,rfl⟩,g1⟩
 .rintro i σ M' hi ⟨⟨y2,y3,y4,y5,y6,y7,y8,y9,y10,y11,y12,y13,rfl⟩,g⟩;refine ⟨_,rfl,?_⟩;rw[zH,zS];refine zBT.mpr (zAl.mpr (zE (zg rfl (zg rfl (zY rfl))) ?_));refine Ok.mono (zOO g (by decide) (by decide) (by decide) (by decide)) ?_;rintro d M3 ⟨zA,l,p,rfl,m,hR,hL,hp,nw3⟩;have hR':zA.length<=26:=by omega
  have hL':l<=12:=by omega
  refine zFH.mpr (zSO (d:=mD zA) zu at0 ?_);rw[zJ,zN];simp only[List.set_cons_succ,List.set_cons_zero];have est:=zJB m hR' hL' (M:=M3);rw[show zBx (zBe (λp=>∃ k,Rch zA l (· ∈ zAM zA l) p k) zA.length)=stN zA l from rfl]at est;have pr:=zKR m;have hK:=zUs (zA:=zA) (l:=l);have hNl:=zB7 (zA:=zA) (l:=l);have fm:=zMP m pr hNl;have hfl:=zEi zA (stN zA l) (stK zA l);have ef:=zOa m hR' hL' pr (by omega) hNl (M:=M3);have es2:=zJB fm (by omega) hL' (M:=M3);rw[show zBx (zBe (λp=>∃ k,Rch (zA2 zA (stN zA l) (stK zA l)) l (· ∈ zAM (zA2 zA (stN zA l) (stK zA l)) l) p k) (zA2 zA (stN zA l) (stK zA l)).length)=stN (zA2 zA (stN zA l) (stK zA l)) l from rfl,zPa m]at es2;have hrm:zF (zA2 zA (stN zA l) (stK zA l))=(List.range (stK zA l)).map λ(k:Nat)=>(k:Int):=by unfold zF;rw[hfl]
  rw[<-hrm]at es2;obtain ⟨w1,s1,q1⟩:=zDZ m _ 0 (zXt _) (zDT m);obtain ⟨w2,s2,q2⟩:=zDZ fm _ 0 (zXt _) (zDT fm);obtain ⟨c1,c2,c3⟩:=zMk m q1 q2;have el1:=zEs m hR' hL' q1 (M:=M3);have el2:=zEs fm (by omega) hL' q2 (M:=M3);have hw2:=zAj q2;have sT:=m.broR w1 (zDT m) (zAj q1);have hTl:=zGp sT;have hrl:(zF (zA2 zA (stN zA l) (stK zA l))).length<=1000:=by rw[hrm];simp;omega
  generalize zA2 zA (stN zA l) (stK zA l)=F at ef es2 el2 c1 hfl hrl;generalize stN zA l=N at est ef c2 c3 hNl;refine zA4 (zh (zY (d:=mD zA) rfl) est) ?_;simp only[List.set_cons_succ,List.set_cons_zero];refine zA4 (zh (zg (d:=mD zA) rfl (zY (d:=tI N) rfl)) ef) ?_;simp only[List.set_cons_succ,List.set_cons_zero];have eL5:=zCi (f:=zC 5) (σ:=[some (.ref 0),some (.ref 1),some (.int (i:Nat)),some (mD zA),some (tI N),some (mD F),y6,y7,y8,y9,y10,y11,y12,y13]) (M:=M3) (x:=.dat (mD F)) rfl zu;rw[zXw]at eL5;refine zFQ (ntT (k:=true) (zh (zg (d:=tI (zF F)) (zh (zY (d:=mD F) rfl) es2) (zY (d:=tI (zF F)) (zMb (by omega) eL5))) (zTL 3 _ hrl _))) ?_;rw[zH,zGx];refine zE (zh (zY (d:=mD zA) rfl) el1) ?_;rw[zJ];generalize broR zA (zF zA) w1=T1 at c1 c2 c3 sT hTl el1;refine ⟨[some (.ref 0),some (.ref 1),some (.int (i:Nat)),some (mD zA),some (tI N),some (mD F),some (.int T1.length),some (tI w1),some (tI T1),y9,y10,y11,y12,y13],rfl,?_⟩;rw[zN,zH,zGx];refine zE (zh (zY (d:=mD F) rfl) el2) ?_;rw[zJ];generalize broR F (zF F) w2=U2 at c1 el2;refine ⟨[some (.ref 0),some (.ref 1),some (.int (i:Nat)),some (mD zA),some (tI N),some (mD F),some (.int T1.length),some (tI w1),some (tI T1),some (.int U2.length),some (tI w2),some (tI U2),y12,y13],rfl,?_⟩;rw[zN];rw[c1];refine zFQ (zMx (ntT (k:=true) (zh (zg (d:=.int T1.length) rfl (zY (d:=.int T1.length) rfl)) (zR5 4 _ _))) (zv (zL (y:=.dat (.int T1.length)) (zNx hNl (fi:=zt (zC 8)) (xs:=T1) (zCz rfl) trivial sT.mem (by omega)) rfl (neE (by rw[c2]))))) ?_;have eL3:=zCi (f:=zC 3) (σ:=[some (.ref 0),some (.ref 1),some (.int (i:Nat)),some (mD zA),some (tI N),some (mD F),some (.int T1.length),some (tI w1),some (tI T1),some (.int T1.length),some (tI w2),some (tI U2),y12,y13]) (M:=M3) (x:=.dat (mD zA)) rfl zu;rw[zXw]at eL3;have er:=zEl eL3 (by omega) (by omega);rw[show (zA.length:Int).toNat=zA.length by omega]at er;have ec:=zAa (own:=[12]) (g:=gN 12) (te:=zP zCd (zD (toD (zC 3)) (zD (toD (zC 12)) (zD (toD (zC 10)) zI)))) (List.range zA.length) (λ(k:Nat)=>D.int k) (λ(k:Nat)=>D.int (zAg zA (k:Int) w2)) er trivial (by rw[zZk];omega) λk hk=>⟨[some (.ref 0),some (.ref 1),some (.int (i:Nat)),some (mD zA),some (tI N),some (mD F),some (.int T1.length),some (tI w1),some (tI T1),some (.int T1.length),some (tI w2),some (tI U2),some (.int (k:Int)),y13],rfl,zh (zg (d:=mD zA) rfl (zg (d:=.int (k:Int)) rfl (zY (d:=tI w2) rfl))) (zSy m (by omega) (by have:=zYR.mp hk;omega) hw2)⟩;rw[show (List.range zA.length).map (λ(k:Nat)=>D.int (zAg zA (k:Int) w2))=((zF zA).map λa=>zAg zA a w2).map D.int by unfold zF;rw[zYB,zYB];rfl]at ec;rw[zH,zS];refine zE ec (zd ?_);rw[zN];simp only[List.set_cons_succ,List.set_cons_zero];have hrl2:(zF zA).length=zA.length:=by unfold zF;simp
  have hin:∀ a∈(zF zA).map (λa=>zAg zA a w2),0<=a/\a<(zA.length:Int):=λa ha=>by
   obtain ⟨b,hb,rfl⟩:=zX4.mp ha;exact zF6 m w2 (zA0.mp hb) hw2
  generalize hL2:(zF zA).map (λa=>zAg zA a w2)=L2 at c3 hin;have hL2l:L2.length<=1000:=by rw[<-hL2,zXw];omega
  have nw4:=nw3.gen.lst (L2.map D.int) (zm _ _);have e13:=zc M3 (MO.lst (L2.map D.int));generalize M3++[MO.lst (L2.map D.int)]=M4 at nw4 e13 ⊢;generalize M3.length=j13 at e13 ⊢;refine zR8 (zMx (zv (zL (y:=.dat (.int T1.length)) (zNx hNl (fi:=zt (zC 13)) (xs:=L2) (zBm (x:=.dat (.ref j13)) rfl (zf e13)) (.inl e13) hin hL2l) rfl (neE (by rw[c3])))) (zv (zL (x:=.dat (.int T1.length)) (y:=.dat (.int T1.length)) ?_ rfl (neE rfl)))) ?_
  .have:=zCi (f:=zC 11) (σ:=[some (.ref 0),some (.ref 1),some (.int (i:Nat)),some (mD zA),some (tI N),some (mD F),some (.int T1.length),some (tI w1),some (tI T1),some (.int T1.length),some (tI w2),some (tI U2),y12,some (.ref j13)]) (M:=M4) (x:=.dat (tI U2)) rfl zu;rw[zXw,c1]at this;exact this
  exact ⟨⟨_,_,_,_,_,_,_,_,_,_,_,_,rfl⟩,nw4.gen⟩
 .rintro σ M' ⟨⟨y2,y3,y4,y5,y6,y7,y8,y9,y10,y11,y12,y13,rfl⟩,g⟩;rw[zN];exact zAK rfl rfl
end Lad
set_option maxHeartbeats 4000000
namespace Lad
open PySem PySem.Spec PyProof.Rows L2 L3 Law Lac
-- the text by places
noncomputable def top (i:Nat):Stmt:=PySem.Challenge.pw_bringhome_k49_whole_folded_by_what_is_st.main.body.getD i (.Pass ⟨0,0,0,0⟩)
noncomputable abbrev zEO:Stmt:=top 1
noncomputable abbrev zF4:Stmt:=top 3
noncomputable abbrev zHe:Stmt:=top 4
noncomputable abbrev zFi:Stmt:=top 5
noncomputable abbrev zE5:Stmt:=top 7
noncomputable abbrev zEM:Stmt:=top 8
noncomputable abbrev zDq:Stmt:=top 9
noncomputable abbrev zGG:Stmt:=top 10
noncomputable abbrev zCo:Stmt:=top 11
noncomputable abbrev zE4:Stmt:=top 12
noncomputable abbrev zKF:Stmt:=top 13
noncomputable abbrev zF3:Stmt:=top 14
noncomputable abbrev zKQ:Stmt:=top 15
noncomputable abbrev zDc:Stmt:=top 17
noncomputable abbrev zHK:Stmt:=top 18
noncomputable abbrev zEP:Stmt:=top 19
noncomputable abbrev zCt:Stmt:=top 21
noncomputable abbrev zDj:Stmt:=top 22
noncomputable abbrev zCm:Stmt:=top 23
noncomputable abbrev zHJ:Stmt:=top 24
noncomputable abbrev zFj:Stmt:=top 26
noncomputable abbrev zKn:Stmt:=top 27
noncomputable abbrev zDo:Stmt:=top 28
noncomputable abbrev zEK:Stmt:=top 30
noncomputable abbrev zE1:Stmt:=top 31
noncomputable abbrev zDk:Stmt:=top 32
noncomputable abbrev zDE:Stmt:=top 33
noncomputable abbrev zDm:Stmt:=top 34
noncomputable abbrev zCl:Stmt:=top 35
noncomputable abbrev zD0:Stmt:=top 36
noncomputable abbrev zGC:Stmt:=top 37
noncomputable abbrev zFJ:Stmt:=top 38
noncomputable abbrev zQn:Stmt:=top 39
structure Txt (K:Yb) (mg:Yh) where
  d_all_rooms:Df K mg "all_rooms" zEO ["machine"]
  d_stepped:Df K mg "stepped" zF4 ["machine", "rooms", "letter"]
  d_walked:Df K mg "walked" zHe ["machine", "rooms", "word"]
  d_brought:Df K mg "brought" zFi ["machine", "rooms", "word"]
  d_pairs_of:Df K mg "pairs_of" zE5 ["rooms"]
  d_ways_back:Df K mg "ways_back" zEM ["machine"]
  d_lengths_to:Df K mg "lengths_to" zDq ["machine", "goals"]
  d_lengths:Df K mg "lengths" zGG ["machine"]
  d_first_letter:Df K mg "first_letter" zCo ["machine", "pair", "found"]
  d_rungs_to:Df K mg "rungs_to" zE4 ["machine", "found"]
  d_rungs:Df K mg "rungs" zKF ["machine"]
  d_climbed:Df K mg "climbed" zF3 ["machine", "steps", "pair"]
  d_apart:Df K mg "apart" zKQ ["machine"]
  d_class_rows:Df K mg "class_rows" zDc ["machine", "parting"]
  d_folded:Df K mg "folded" zHK ["machine", "parting"]
  d_parted_by:Df K mg "parted_by" zEP ["marks"]
  d_pairs_across:Df K mg "pairs_across" zCt ["machine", "parting"]
  d_parted_but:Df K mg "parted_but" zDj ["machine", "found"]
  d_stable_shown:Df K mg "stable_shown" zCm ["machine"]
  d_stable:Df K mg "stable" zHJ ["machine"]
  d_nearest:Df K mg "nearest" zFj ["ways", "rooms"]
  d_quick:Df K mg "quick" zKn ["machine", "rooms"]
  d_least_many:Df K mg "least_many" zDo ["machine"]
  d_law_begin:Df K mg "_law_begin" zEK ["_law_script"]
  d_law_next:Df K mg "_law_next" zE1 ["_law_state", "_law_many"]
  d_law_column:Df K mg "_law_column" zDk ["_law_state", "_law_many", "_law_way"]
  d_law_machine:Df K mg "_law_machine" zDE ["_law_state", "_law_most", "_law_letters"]
  d_law_copies:Df K mg "_law_copies" zDm ["_law_state", "_law_most", "_law_letters"]
  d_law_numbered:Df K mg "_law_numbered" zCl ["_law_classes"]
  d_law_either:Df K mg "_law_either" zD0 ["_law_state", "_law_most", "_law_letters"]
  d_law_led:Df K mg "_law_led" zGC ["_law_machine_here", "_law_room", "_law_word"]
  d_law_is:Df K mg "_law_is" zFJ ["_law_found", "_law_due"]
  d_law:Df K mg "law" zQn ["_law_script"]
  z_tuple:mg "tuple" = none
  z_range:mg "range" = none
  z_len:mg "len" = none
  z_sorted:mg "sorted" = none
  z_min:mg "min" = none
  z_enumerate:mg "enumerate" = none
  z_max:mg "max" = none
  z_list:mg "list" = none
  z_isinstance:mg "isinstance" = none
  z_bool:mg "bool" = none
  z_all:mg "all" = none
  z_int:mg "int" = none
  z_zip:mg "zip" = none
  z_set:mg "set" = none
  kinds:Kinds K
section
variable {P:Ym} {w:Yo} {K:Yb} {mg:Yh} {base:Heap}
theorem zB1 {X:Cx} {scope sc:Y0} {own:Yj} {N ps:Yk} (_:FnScope N ps sc) (hk:scope.kind=.function) (hs:X.env.scope=sc) (hN:X.N=N) (h1:zFg sc scope=true) (h2:zGs N scope own=true):CompIn X scope own:=zF1 hk hs hN h1 h2
theorem zOj {X:Cx} {scope sc sd:Y0} {own:Yj} {N ps:Yk} (_:FnScope N ps sd) (hk:scope.kind=.function) (hs:X.env.scope=sc) (hN:X.N=N) (h1:zFg sc scope=true) (h2:zGs N scope own=true):CompIn X scope own:=zF1 hk hs hN h1 h2
set_option hygiene false in
local macro_rules | `(tactic| decreasing_trivial)=> `(tactic| repeat' first
  |refine zCA (pv _)
  |refine zA5 ?_
  |refine zEm ?_ ?_ (zO rfl)
  |refine zFs ?_
  |refine zKX
  |refine zGm ?_ ?_
  |refine zL4
  |refine zWh
  |refine zH2 ?_
  |refine zW2 (by first|exact zLr T|exact zJb T|exact zLo T|exact zMO T|exact zIV T|exact zH4 T|exact zLE T|exact zNK T|exact zMq T|exact zMt T|exact zNP T|exact zOF T|exact zO6 T|exact zIF T|exact zIR T|exact zJ6 T|exact zPj T|exact zKb T|exact zGX T|exact zIh T|exact zIT T|exact zGh T|exact zRa T|exact zIL T|exact zGl T|exact zQm T|exact zGd T|exact zQ3 T|exact zJd T|exact zIZ T|exact zOk T|exact zMd T) (hr.mono (by omega)) rfl ?_ ?_ (by decide) (zO rfl) (zBY rfl)
  |refine zQo sc.nd rfl
  |refine zGr ?_ ?_ (zO rfl)
  |refine zLq ?_
  |refine zJm
  |refine zUm ?_
  |refine zXh ?_ ?_
  |refine zQe
  |refine zSE ?_ ?_ ?_
  |refine zPz rfl T.z_len ?_ (zO rfl) rfl
  |refine zKL
  |refine zUS (zHE hr) ?_ ?_
  |refine zIC ?_ ?_
  |refine zWf ?_
  |refine zUi ?_ ?_
  |refine zTc rfl T.z_tuple ?_ (zO rfl) rfl
  |refine zV1 ?_
  |refine zJi (zBi (by decide)) (zB1 sc rfl rfl rfl (by decide +kernel) (by decide +kernel)) rfl ?_ ⟨λ_ _ _ _ _=>?_,λ_ _ _ _ _=>?_,λ_ _ _ _ _=>?_⟩
  |refine zWp zRi PassesOwn.never rfl ?_ ?_ ?_
  |refine zWo
  |refine zWy hr.units0 ?_ ?_
  |refine zOM rfl T.z_range ?_ ?_ (zHj rfl)
  |refine zVr ?_
  |refine zUY ?_
  |refine zWC ?_ ?_
  |refine zQq ?_ ?_
  |refine zOT sc.nd rfl (by first|exact Or.inl rfl|exact Or.inr rfl) (by first|exact .inl rfl|exact .inr rfl) rfl (zBi (by decide)) (zB1 sc rfl rfl rfl (by decide +kernel) (by decide +kernel)) rfl ?_ ⟨λ_ _ _ _ _=>?_,λ_ _ _ _ _=>?_,λ_ _ _ _ _=>?_⟩
  |refine zSv
  |refine zTa ?_
  |refine zTE ?_ ?_ ?_
  |refine zNl
  |refine zQz rfl ?_
  |refine zPL (zHE hr) ?_ ?_
  |refine zTu hr.units0 ?_ ?_
  |refine zW5 ?_ ?_
  |refine zWM ?_ ?_
  |refine zUg (zHE hr) ?_ ?_ ?_
  |refine zWi
  |refine zJi (zBi (by decide)) (zOj sc rfl rfl rfl (by rfl) (by decide +kernel)) rfl ?_ ⟨λ_ _ _ _ _=>?_,λ_ _ _ _ _=>?_,λ_ _ _ _ _=>?_⟩
  |refine zVy ?_ ?_
  |refine zWG ?_ ?_
  |refine zWL ?_
  |refine zVb (zHE hr) ?_ ?_
  |refine zJi (zJC (K:=K) (by decide) (by decide)) (zB1 sc rfl rfl rfl (by decide +kernel) (by decide +kernel)) rfl ?_ ⟨λ_ _ _ _ _=>?_,λ_ _ _ _ _=>?_,λ_ _ _ _ _=>?_⟩
  |refine zSY _ PassesOwn.never ?_ ?_
  |refine zPu ?_
  |refine zVY rfl rfl T.z_list rfl T.z_range ?_ (zO rfl) rfl (zO rfl) rfl
  |refine zVM ?_ ?_
  |refine zU1 rfl rfl T.z_tuple rfl T.z_range ?_ (zO rfl) rfl (zO rfl) rfl
  |refine zRq ?_ ?_ ?_
  |refine zWx ?_ ?_
  |refine zTk rfl T.z_enumerate ?_ (zO rfl) rfl
  |refine zS3 ?_
  |refine zVg rfl rfl T.z_min ?_ (zO rfl) rfl
  |refine zTA ?_
  |refine zWR
  |refine zTh ?_ ?_ ?_
  |refine zT0 (zQ4 (K:=K)) ?_ ?_
  |refine zWJ ?_ ?_
  |refine zSF (zHE hr) ?_ ?_ ?_ ⟨rfl,rfl,rfl,rfl⟩
  |refine zRC ?_
  |refine zT0 (zSq (K:=K)) ?_ ?_
  |refine zTf rfl rfl T.z_set ?_ (zO rfl) rfl
  |refine zVE rfl T.z_len ?_ (zO rfl) rfl
  |refine zUQ (zBi (by decide)) (zB1 sc rfl rfl rfl (by decide +kernel) (by decide +kernel)) rfl ?_ ⟨λ_ _ _ _ _=>?_,λ_ _ _ _ _=>?_,λ_ _ _ _ _=>?_⟩
  |refine zR9 rfl rfl T.z_sorted ?_ (zO rfl) rfl
  |refine zSn (by decide) (zBi (by decide)) (zBi (by decide)) (zB1 sc rfl rfl rfl (by decide +kernel) (by decide +kernel)) rfl ?_ ⟨λ_ _ _ _ _=>?_,λ_ _ _ _ _=>?_,λ_ _ _ _ _=>?_,λ_ _ _ _ _=>?_,λ_ _ _ _ _=>?_,λ_ _ _ _ _=>?_,λ_ _ _ _ _ _=>rfl⟩
  |refine zSc
  |refine zUl rfl T.z_len ?_ (zO rfl) rfl
  |refine zWF ?_ ?_
  |refine zW3 ?_ ?_
  |refine zTZ ?_ ?_ ?_ ?_
  |refine zR2 ?_ ?_
  |refine zRk ?_ ?_
  |refine zSK
  |refine zUI rfl rfl T.z_max ?_ (zO rfl) rfl
  |refine zSi ?_ ?_
  |refine zUj rfl (zV8 3 (by decide) hr) rfl T.z_min ?_ (zO rfl) rfl
  |refine zWu ?_ ?_
  |refine zV3 ?_ ?_
  |refine zMl sc.nd rfl (by first|exact Or.inl rfl|exact Or.inr rfl) (by first|exact .inl rfl|exact .inr rfl) rfl (zHE hr) (zBi (by decide)) (zB1 sc rfl rfl rfl (by decide +kernel) (by decide +kernel)) rfl ?_ ⟨λ_ _ _ _ _=>?_,λ_ _ _ _ _=>?_,λ_ _ _ _ _=>?_⟩ λ_ _ _ _ _=>?_
  |refine zWV ?_ ?_
  |refine zSs (zHE hr) (zBi (by decide)) (zB1 sc rfl rfl rfl (by decide +kernel) (by decide +kernel)) rfl ?_ ⟨λ_ _ _ _ _=>?_,λ_ _ _ _ _=>?_,λ_ _ _ _ _=>?_⟩ λ_ _ _ _ _=>?_
  |refine zUn rfl T.z_list ?_ (zO rfl) rfl
  |refine zTr ?_ ?_
  |refine zVw rfl rfl T.z_min ?_ (zO rfl) (zBY rfl)
  |refine zXO sc.nd rfl ?_
  |refine zU0 (zTt ?_ ?_)
  |refine zU0 (zVW ?_ ?_)
  |refine zKo ?_)
noncomputable abbrev zKy:List Str:=["machine"]
theorem zKA:FnScope zKy ["machine"] (zQ zEO):=⟨rfl,rfl,rfl,by decide +kernel,rfl,by decide +kernel,by decide +kernel⟩
theorem zJb (T:Txt K mg):Od P w base 1 T.d_all_rooms zAD:=by
  unfold zAD;have sc:=zKA;exact zw (n:=1) T.d_all_rooms.F sc rfl (λcdv A outer s H E hr=>by
    unfold zET;decreasing_trivial)
noncomputable abbrev zOz:List Str:=["machine", "rooms", "letter", "room"]
theorem zNI:FnScope zOz ["machine", "rooms", "letter"] (zQ zF4):=⟨rfl,rfl,rfl,by decide +kernel,rfl,by decide +kernel,by decide +kernel⟩
theorem zMO (T:Txt K mg):Od P w base 1 T.d_stepped zA1:=by
  unfold zA1;have sc:=zNI;exact zCW (zw (n:=3) T.d_stepped.F sc rfl (λcdv A outer s H E hr=>by
    unfold zFp;decreasing_trivial))
noncomputable abbrev zMy:List Str:=["rooms", "one", "other"]
theorem zLX:FnScope zMy ["rooms"] (zQ zE5):=⟨rfl,rfl,rfl,by decide +kernel,rfl,by decide +kernel,by decide +kernel⟩
theorem zLo (T:Txt K mg):Od P w base 1 T.d_pairs_of zAE:=by
  unfold zAE;have sc:=zLX;exact zw (n:=1) T.d_pairs_of.F sc rfl (λcdv A outer s H E hr=>by
    unfold zE3;decreasing_trivial)
noncomputable abbrev zKm:List Str:=["machine", "parting", "goal", "row"]
theorem zIf:FnScope zKm ["machine", "parting"] (zQ zDc):=⟨rfl,rfl,rfl,by decide +kernel,rfl,by decide +kernel,by decide +kernel⟩
theorem zIR (T:Txt K mg):Od P w base 1 T.d_class_rows zBI:=by
  unfold zBI;have sc:=zIf;exact zw (n:=2) T.d_class_rows.F sc rfl (λcdv A outer s H E hr=>by
    unfold zDz;decreasing_trivial)
noncomputable abbrev zLA:List Str:=["marks", "numbers", "mark"]
theorem zKh:FnScope zLA ["marks"] (zQ zEP):=⟨rfl,rfl,rfl,by decide +kernel,rfl,by decide +kernel,by decide +kernel⟩
theorem zJ6 (T:Txt K mg):Od P w base 1 T.d_parted_by zCF:=by
  unfold zCF;have sc:=zKh;exact zw (n:=1) T.d_parted_by.F sc rfl (λcdv A outer s H E hr=>by
    unfold zEL;decreasing_trivial)
noncomputable abbrev zL1:List Str:=["_law_script", "_law_seed", "_law_cell"]
theorem zKD:FnScope zL1 ["_law_script"] (zQ zEK):=⟨rfl,rfl,rfl,by decide +kernel,rfl,by decide +kernel,by decide +kernel⟩
theorem zJd (T:Txt K mg):Od P w base 1 T.d_law_begin zCG:=by
  unfold zCG;have sc:=zKD;exact zw (n:=1) T.d_law_begin.F sc rfl (λcdv A outer s H E hr=>by
    unfold zD9;decreasing_trivial)
noncomputable abbrev zNN:List Str:=["_law_state", "_law_many", "_law_digit", "_law_mixed"]
theorem zLi:FnScope zNN ["_law_state", "_law_many"] (zQ zE1):=⟨rfl,rfl,rfl,by decide +kernel,rfl,by decide +kernel,by decide +kernel⟩
theorem zLr (T:Txt K mg):Od P w base 1 T.d_law_next ze:=by
  unfold ze;have sc:=zLi;exact zw (n:=2) T.d_law_next.F sc rfl (λcdv A outer s H E hr=>by
    unfold zE6;decreasing_trivial)
noncomputable abbrev zHG:List Str:=["_law_classes", "_law_known", "_law_own"]
theorem zGZ:FnScope zHG ["_law_classes"] (zQ zCl):=⟨rfl,rfl,rfl,by decide +kernel,rfl,by decide +kernel,by decide +kernel⟩
theorem zGh (T:Txt K mg):Od P w base 1 T.d_law_numbered zAn:=by
  unfold zAn;have sc:=zGZ;exact zJ1 (zw (n:=1) T.d_law_numbered.F sc rfl (λcdv A outer s H E hr=>by
    unfold zCu;decreasing_trivial))
noncomputable abbrev zPi:List Str:=["_law_machine_here", "_law_room", "_law_word", "_law_letter"]
theorem zME:FnScope zPi ["_law_machine_here", "_law_room", "_law_word"] (zQ zGC):=⟨rfl,rfl,rfl,by decide +kernel,rfl,by decide +kernel,by decide +kernel⟩
theorem zMd (T:Txt K mg):Od P w base 1 T.d_law_led zCd:=by
  unfold zCd;have sc:=zME;exact zw (n:=3) T.d_law_led.F sc rfl (λcdv A outer s H E hr=>by
    unfold zGA;decreasing_trivial)
noncomputable abbrev zRy:List Str:=["machine", "rooms", "word", "sets", "letter"]
theorem zOP:FnScope zRy ["machine", "rooms", "word"] (zQ zHe):=⟨rfl,rfl,rfl,by decide +kernel,rfl,by decide +kernel,by decide +kernel⟩
theorem zPj (T:Txt K mg):Od P w base 2 T.d_walked zED:=by
  unfold zED;have sc:=zOP;exact zCW (zw (n:=3) T.d_walked.F sc rfl (λcdv A outer s H E hr=>by
    unfold zH1;decreasing_trivial))
noncomputable abbrev zLj:List Str:=["machine", "sources", "pair", "letter", "goal"]
theorem zKB:FnScope zLj ["machine"] (zQ zEM):=⟨rfl,rfl,rfl,by decide +kernel,rfl,by decide +kernel,by decide +kernel⟩
theorem zKb (T:Txt K mg):Od P w base 2 T.d_ways_back zCB:=by
  unfold zCB;have sc:=zKB;exact zw (n:=1) T.d_ways_back.F sc rfl (λcdv A outer s H E hr=>by
    unfold zEU;decreasing_trivial)
noncomputable abbrev zH3:List Str:=["machine", "pair", "found", "goals", "letter", "goal"]
theorem zGb:FnScope zH3 ["machine", "pair", "found"] (zQ zCo):=⟨rfl,rfl,rfl,by decide +kernel,rfl,by decide +kernel,by decide +kernel⟩
theorem zGX (T:Txt K mg):Od P w base 2 T.d_first_letter zAP:=by
  unfold zAP;have sc:=zGb;exact zw (n:=3) T.d_first_letter.F sc rfl (λcdv A outer s H E hr=>by
    unfold zCg;decreasing_trivial)
noncomputable abbrev zOH:List Str:=["machine", "steps", "pair", "word", "here", "letter"]
theorem zMR:FnScope zOH ["machine", "steps", "pair"] (zQ zF3):=⟨rfl,rfl,rfl,by decide +kernel,rfl,by decide +kernel,by decide +kernel⟩
theorem zMq (T:Txt K mg):Od P w base 2 T.d_climbed zBG:=by
  unfold zBG;have sc:=zMR;exact zw (n:=3) T.d_climbed.F sc rfl (λcdv A outer s H E hr=>by
    unfold zEb;decreasing_trivial)
noncomputable abbrev zRn:List Str:=["machine", "parting", "rows", "number"]
theorem zPd:FnScope zRn ["machine", "parting"] (zQ zHK):=⟨rfl,rfl,rfl,by decide +kernel,rfl,by decide +kernel,by decide +kernel⟩
theorem zOk (T:Txt K mg):Od P w base 2 T.d_folded zEF:=by
  unfold zEF;have sc:=zPd;exact zCW (zw (n:=2) T.d_folded.F sc rfl (λcdv A outer s H E hr=>by
    unfold zHb;decreasing_trivial))
noncomputable abbrev zG7:List Str:=["machine", "parting", "one", "other"]
theorem zGc:FnScope zG7 ["machine", "parting"] (zQ zCt):=⟨rfl,rfl,rfl,by decide +kernel,rfl,by decide +kernel,by decide +kernel⟩
theorem zGl (T:Txt K mg):Od P w base 2 T.d_pairs_across zBA:=by
  unfold zBA;have sc:=zGc;exact zw (n:=2) T.d_pairs_across.F sc rfl (λcdv A outer s H E hr=>by
    unfold zCx;decreasing_trivial)
noncomputable abbrev zJr:List Str:=["machine", "found", "rooms", "one", "room"]
theorem zIN:FnScope zJr ["machine", "found"] (zQ zDj):=⟨rfl,rfl,rfl,by decide +kernel,rfl,by decide +kernel,by decide +kernel⟩
theorem zIL (T:Txt K mg):Od P w base 2 T.d_parted_but zBw:=by
  unfold zBw;have sc:=zIN;exact zw (n:=2) T.d_parted_but.F sc rfl (λcdv A outer s H E hr=>by
    unfold zDx;decreasing_trivial)
noncomputable abbrev zPU:List Str:=["ways", "rooms", "found", "pair"]
theorem zMg:FnScope zPU ["ways", "rooms"] (zQ zFj):=⟨rfl,rfl,rfl,by decide +kernel,rfl,by decide +kernel,by decide +kernel⟩
theorem zMt (T:Txt K mg):Od P w base 2 T.d_nearest zCa:=by
  unfold zCa;have sc:=zMg;exact zw (n:=2) T.d_nearest.F sc rfl (λcdv A outer s H E hr=>by
    unfold zF5;decreasing_trivial)
noncomputable abbrev zKK:List Str:=["_law_state", "_law_many", "_law_way", "_law_column_here", "_law_room", "_law_one", "_law_other", "_law_goal", "_law_made", "_law_left"]
theorem zIe:FnScope zKK ["_law_state", "_law_many", "_law_way"] (zQ zDk):=⟨rfl,rfl,rfl,by decide +kernel,rfl,by decide +kernel,by decide +kernel⟩
theorem zIh (T:Txt K mg):Od P w base 2 T.d_law_column zAh:=by
  unfold zAh;have sc:=zIe;exact zw (n:=3) T.d_law_column.F sc rfl (λcdv A outer s H E hr=>by
    unfold zDa;decreasing_trivial)
noncomputable abbrev zOI:List Str:=["machine", "rooms", "word"]
theorem zMn:FnScope zOI ["machine", "rooms", "word"] (zQ zFi):=⟨rfl,rfl,rfl,by decide +kernel,rfl,by decide +kernel,by decide +kernel⟩
theorem zNP (T:Txt K mg):Od P w base 3 T.d_brought zCZ:=by
  unfold zCZ;have sc:=zMn;exact zCW (zw (n:=3) T.d_brought.F sc rfl (λcdv A outer s H E hr=>by
    unfold zFr;decreasing_trivial))
noncomputable abbrev zJ3:List Str:=["machine", "goals", "sources", "level", "found", "goal", "behind", "pair"]
theorem zIO:FnScope zJ3 ["machine", "goals"] (zQ zDq):=⟨rfl,rfl,rfl,by decide +kernel,rfl,by decide +kernel,by decide +kernel⟩
theorem zIV (T:Txt K mg):Od P w base 3 T.d_lengths_to zBL:=by
  unfold zBL;have sc:=zIO;exact zw (n:=2) T.d_lengths_to.F sc rfl (λcdv A outer s H E hr=>by
    unfold zDe;decreasing_trivial)
noncomputable abbrev zMj:List Str:=["machine", "found", "pairs", "pair"]
theorem zK9:FnScope zMj ["machine", "found"] (zQ zE4):=⟨rfl,rfl,rfl,by decide +kernel,rfl,by decide +kernel,by decide +kernel⟩
theorem zLE (T:Txt K mg):Od P w base 3 T.d_rungs_to zBf:=by
  unfold zBf;have sc:=zK9;exact zw (n:=2) T.d_rungs_to.F sc rfl (λcdv A outer s H E hr=>by
    unfold zE9;decreasing_trivial)
noncomputable abbrev zIJ:List Str:=["_law_state", "_law_most", "_law_letters", "_law_many", "_law_count", "_law_sort", "_law_columns", "_law_letter", "_law_way", "_law_column_here", "_law_room"]
theorem zH0:FnScope zIJ ["_law_state", "_law_most", "_law_letters"] (zQ zDE):=⟨rfl,rfl,rfl,by decide +kernel,rfl,by decide +kernel,by decide +kernel⟩
theorem zH4 (T:Txt K mg):Od P w base 3 T.d_law_machine zAz:=by
  unfold zAz;have sc:=zH0;exact zJ1 (zw (n:=3) T.d_law_machine.F sc rfl (λcdv A outer s H E hr=>by
    unfold zDC;decreasing_trivial))
noncomputable abbrev zOu:List Str:=["machine", "room"]
theorem zMN:FnScope zOu ["machine"] (zQ zGG):=⟨rfl,rfl,rfl,by decide +kernel,rfl,by decide +kernel,by decide +kernel⟩
theorem zNK (T:Txt K mg):Od P w base 4 T.d_lengths zB0:=by
  unfold zB0;have sc:=zMN;exact zw (n:=1) T.d_lengths.F sc rfl (λcdv A outer s H E hr=>by
    unfold zFw;decreasing_trivial)
noncomputable abbrev zKl:List Str:=["_law_state", "_law_most", "_law_letters", "_law_base", "_law_many", "_law_owners", "_law_room", "_law_turn", "_law_rows", "_law_own", "_law_row", "_law_goal", "_law_copies_here"]
theorem zIK:FnScope zKl ["_law_state", "_law_most", "_law_letters"] (zQ zDm):=⟨rfl,rfl,rfl,by decide +kernel,rfl,by decide +kernel,by decide +kernel⟩
theorem zIT (T:Txt K mg):Od P w base 4 T.d_law_copies zBn:=by
  unfold zBn;have sc:=zIK;exact zw (n:=3) T.d_law_copies.F sc rfl (λcdv A outer s H E hr=>by
    unfold zDg;decreasing_trivial)
noncomputable abbrev zSf:List Str:=["machine"]
theorem zRm:FnScope zSf ["machine"] (zQ zKF):=⟨rfl,rfl,rfl,by decide +kernel,rfl,by decide +kernel,by decide +kernel⟩
theorem zQm (T:Txt K mg):Od P w base 5 T.d_rungs zFT:=by
  unfold zFT;have sc:=zRm;exact zw (n:=1) T.d_rungs.F sc rfl (λcdv A outer s H E hr=>by
    unfold zKY;decreasing_trivial)
noncomputable abbrev zTJ:List Str:=["machine", "found", "pair"]
theorem zRZ:FnScope zTJ ["machine"] (zQ zKQ):=⟨rfl,rfl,rfl,by decide +kernel,rfl,by decide +kernel,by decide +kernel⟩
theorem zRa (T:Txt K mg):Od P w base 5 T.d_apart zFX:=by
  unfold zFX;have sc:=zRZ;exact zCW (zw (n:=1) T.d_apart.F sc rfl (λcdv A outer s H E hr=>by
    unfold zJg;decreasing_trivial))
noncomputable abbrev zJ5:List Str:=["_law_state", "_law_most", "_law_letters", "_law_machine_here", "_law_owners", "_law_few", "_law_room"]
theorem zId:FnScope zJ5 ["_law_state", "_law_most", "_law_letters"] (zQ zD0):=⟨rfl,rfl,rfl,by decide +kernel,rfl,by decide +kernel,by decide +kernel⟩
theorem zIZ (T:Txt K mg):Od P w base 5 T.d_law_either zBr:=by
  unfold zBr;have sc:=zId;exact zJ1 (zw (n:=3) T.d_law_either.F sc rfl (λcdv A outer s H E hr=>by
    unfold zDl;decreasing_trivial))
noncomputable abbrev zLm:List Str:=["_law_found", "_law_due", "_law_one", "_law_other"]
theorem zFu:FnScope zLm ["_law_found", "_law_due"] (zQ zFJ):=⟨rfl,rfl,rfl,by decide +kernel,rfl,by decide +kernel,by decide +kernel⟩
theorem zG5 (T:Txt K mg):∀ n:Nat,FnOk P w K mg base CX0 (n+0) T.d_law_is.f T.d_law_is.fd ["_law_found", "_law_due"] (spF K 2 (zAs n))
  |0=>zSG
  |n+1=>by
    have hrec:=zG5 T n;unfold zAs;rw[show n+1+0=(n+0)+1 by omega];exact zw (n:=2) T.d_law_is.F zFu rfl (λcdv A outer s H E hr=>by
      unfold zFI;exact (zGm (zSE (zKo (zJN T.kinds (by decide) rfl T.z_isinstance rfl T.z_tuple (by rfl) (by decide) (by decide) (zCA (pv 1)) (zO rfl) (zO rfl) (zBY rfl))) (zGm (zSE (zU0 (zTt (zRC (zKo (zJN T.kinds (by decide) rfl T.z_isinstance rfl T.z_tuple (by rfl) (by decide) (by decide) (zCA (pv 0)) (zO rfl) (zO rfl) (zBY rfl)))) (zPu (zTu hr.units0 (zPz rfl T.z_len (zGr (zCA (pv 0)) zJm (zO rfl)) (zO rfl) rfl) (zPz rfl T.z_len (zGr (zCA (pv 1)) zJm (zO rfl)) (zO rfl) rfl))))) (zH2 (zLq zWi)) zKL)
    (zH2 (zLq (zWK rfl rfl T.z_all (zGr (zJi (zJC (i:=2) (j:=3) (by decide) (by decide)) (zF1 (sc:=zQ zFJ) (N:=zLm) rfl rfl rfl (by decide +kernel) (by decide +kernel)) rfl (zVA rfl T.z_zip (zEm (zA5 (zCA (pv 0))) (zEm (zA5 (zCA (pv 1))) zKX (zO rfl)) (zO rfl)) (zR7 rfl rfl) (zHj rfl)) ⟨λ_ _ _ _ _=>(zQz rfl (zIC (zQo (i:=2) zFu.nd rfl) (zIC (zQo (i:=3) zFu.nd rfl) zNl))),λ_ _ _ _ _=>zQe,λ_ _ _ _ _=>(zW2 hrec (hr.mono (by omega)) rfl (zEm (zA5 (zCA (pv 2))) (zEm (zA5 (zCA (pv 3))) zKX (zO rfl)) (zO rfl)) (zFs (zFs zL4)) (by decide) (zO rfl) (zBY rfl))⟩) zJm (zO rfl)) (zO rfl) rfl)))) zKL)
    (zGm (zSE (zKo (zJN T.kinds (by decide) rfl T.z_isinstance rfl T.z_bool (by rfl) (by decide) (by decide) (zCA (pv 1)) (zO rfl) (zO rfl) (zBY rfl))) (zH2 (zLq (zNB (zJN T.kinds (by decide) rfl T.z_isinstance rfl T.z_bool (by rfl) (by decide) (by decide) (zCA (pv 0)) (zO rfl) (zO rfl) (zBY rfl)) (zPq (zWn hr.units0 (zCA (pv 0)) (zCA (pv 1))))))) zKL)
    (zH2 (zLq (zNB (zJN T.kinds (by decide) rfl T.z_isinstance rfl T.z_int (by rfl) (by decide) (by decide) (zCA (pv 0)) (zO rfl) (zO rfl) (zBY rfl)) (zNB (zUr (zJN T.kinds (by decide) rfl T.z_isinstance rfl T.z_bool (by rfl) (by decide) (by decide) (zCA (pv 0)) (zO rfl) (zO rfl) (zBY rfl))) (zPq (zWn hr.units0 (zCA (pv 0)) (zCA (pv 1)))))))))))
theorem zO6 (T:Txt K mg):Od P w base 5 T.d_law_is zHP:=zG5 T 5
noncomputable abbrev zHW:List Str:=["machine", "found", "parting", "steps", "pair"]
theorem zGf:FnScope zHW ["machine"] (zQ zCm):=⟨rfl,rfl,rfl,by decide +kernel,rfl,by decide +kernel,by decide +kernel⟩
theorem zGd (T:Txt K mg):Od P w base 6 T.d_stable_shown zAm:=by
  unfold zAm;have sc:=zGf;exact zCW (zw (n:=1) T.d_stable_shown.F sc rfl (λcdv A outer s H E hr=>by
    unfold zCh;decreasing_trivial))
noncomputable abbrev zTH:List Str:=["machine", "rooms", "ways", "here", "word", "steps", "pair", "part"]
theorem zRx:FnScope zTH ["machine", "rooms"] (zQ zKn):=⟨rfl,rfl,rfl,by decide +kernel,rfl,by decide +kernel,by decide +kernel⟩
theorem zQ3 (T:Txt K mg):Od P w base 6 T.d_quick zFf:=by
  unfold zFf;have sc:=zRx;exact zCW (zw (n:=2) T.d_quick.F sc rfl (λcdv A outer s H E hr=>by
    unfold zJ9;decreasing_trivial))
noncomputable abbrev zQW:List Str:=["machine"]
theorem zO7:FnScope zQW ["machine"] (zQ zHJ):=⟨rfl,rfl,rfl,by decide +kernel,rfl,by decide +kernel,by decide +kernel⟩
theorem zOF (T:Txt K mg):Od P w base 7 T.d_stable zDU:=by
  unfold zDU;have sc:=zO7;exact zCW (zw (n:=1) T.d_stable.F sc rfl (λcdv A outer s H E hr=>by
    unfold zG8;decreasing_trivial))
noncomputable abbrev zJ8:List Str:=["machine", "rooms", "word", "kept"]
theorem zIc:FnScope zJ8 ["machine"] (zQ zDo):=⟨rfl,rfl,rfl,by decide +kernel,rfl,by decide +kernel,by decide +kernel⟩
theorem zIF (T:Txt K mg):Od P w base 7 T.d_least_many zBK:=by
  unfold zBK;have sc:=zIc;exact zCW (zw (n:=1) T.d_least_many.F sc rfl (λcdv A outer s H E hr=>by
    unfold zDp;decreasing_trivial))
noncomputable abbrev zWl:List Str:=["_law_script", "_law_state", "_law_turn", "_law_machine_here", "_law_parting", "_law_small", "_law_many", "_law_word", "_law_kept", "_law_fewer", "_law_other", "_law_alone", "_law_room", "_law_left"]
theorem zVK:FnScope zWl ["_law_script"] (zQ zQn):=⟨rfl,rfl,rfl,by decide +kernel,rfl,by decide +kernel,by decide +kernel⟩
theorem zVC (T:Txt K mg):Od P w base 8 T.d_law zGN:=by
  unfold zGN;have sc:=zVK;exact zw (n:=1) T.d_law.F sc rfl (λcdv A outer s H E hr=>by
    unfold zRB;decreasing_trivial)
end
theorem zVD {l:PySem.W.OpenLaw} {w:World} {K:PySem.W.Frag} {h:Heap} {mg:Str->Option Value} {fa:Addr} (X:K.In h) (G:h.Ns mainGlobals mg) (hfa:mg "law" = some (.ref fa))
    (g1:Dg K "all_rooms" zEO) (g2:Dg K "stepped" zF4) (g3:Dg K "walked" zHe) (g4:Dg K "brought" zFi) (g5:Dg K "pairs_of" zE5) (g6:Dg K "ways_back" zEM) (g7:Dg K "lengths_to" zDq) (g8:Dg K "lengths" zGG) (g9:Dg K "first_letter" zCo) (g10:Dg K "rungs_to" zE4) (g11:Dg K "rungs" zKF) (g12:Dg K "climbed" zF3) (g13:Dg K "apart" zKQ) (g14:Dg K "class_rows" zDc) (g15:Dg K "folded" zHK) (g16:Dg K "parted_by" zEP) (g17:Dg K "pairs_across" zCt) (g18:Dg K "parted_but" zDj) (g19:Dg K "stable_shown" zCm) (g20:Dg K "stable" zHJ) (g21:Dg K "nearest" zFj) (g22:Dg K "quick" zKn) (g23:Dg K "least_many" zDo) (g24:Dg K "_law_begin" zEK) (g25:Dg K "_law_next" zE1) (g26:Dg K "_law_column" zDk) (g27:Dg K "_law_machine" zDE) (g28:Dg K "_law_copies" zDm) (g29:Dg K "_law_numbered" zCl) (g30:Dg K "_law_either" zD0) (g31:Dg K "_law_led" zGC) (g32:Dg K "_law_is" zFJ) (g33:Dg K "law" zQn) (z1:Zn K "tuple") (z2:Zn K "range") (z3:Zn K "len") (z4:Zn K "sorted") (z5:Zn K "min") (z6:Zn K "enumerate") (z7:Zn K "max") (z8:Zn K "list") (z9:Zn K "isinstance") (z10:Zn K "bool") (z11:Zn K "all") (z12:Zn K "int") (z13:Zn K "zip") (z14:Zn K "set") (y1:Ki K "NoneType" "int" false) (y2:Ki K "NoneType" "bool" false) (y3:Ki K "NoneType" "str" false) (y4:Ki K "NoneType" "tuple" false) (y5:Ki K "bool" "int" true) (y6:Ki K "bool" "bool" true) (y7:Ki K "bool" "str" false) (y8:Ki K "bool" "tuple" false) (y9:Ki K "int" "int" true) (y10:Ki K "int" "bool" false) (y11:Ki K "int" "str" false) (y12:Ki K "int" "tuple" false) (y13:Ki K "str" "int" false) (y14:Ki K "str" "bool" false) (y15:Ki K "str" "str" true) (y16:Ki K "str" "tuple" false) (y17:Ki K "list" "int" false) (y18:Ki K "list" "bool" false) (y19:Ki K "list" "str" false) (y20:Ki K "list" "tuple" false) (y21:Ki K "tuple" "int" false) (y22:Ki K "tuple" "bool" false) (y23:Ki K "tuple" "str" false) (y24:Ki K "tuple" "tuple" true) (y25:Ki K "dict" "int" false) (y26:Ki K "dict" "bool" false) (y27:Ki K "dict" "str" false) (y28:Ki K "dict" "tuple" false) :
    ∃ fd:FuncData,(∀ (s:Shared) (v:Value),BindsTo s fd ⟨[v],[]⟩ [("_law_script", v)]) /\ ∀ base:Heap,K.In base->base.Ns mainGlobals mg->FnOk l.prog w K mg base CX0 8 fa fd ["_law_script"] (spF K 1 zGN):=by
  have e:=hfa.symm.trans (PySem.W.mg_of X G g33.a);cases e;have kinds:Kinds K:=⟨by
    intro t T ht hT;simp only[zXz,zYI,zY8]at ht hT;rcases ht with rfl|rfl|rfl|rfl|rfl|rfl|rfl <;> rcases hT with rfl|rfl|rfl|rfl <;> assumption⟩
  let T:Txt K mg:=⟨g1.df X G λ_ _ _ _ _ _=>zF0 λ_=>rfl,g2.df X G λ_ _ _ _ _ _=>zII λ_ _ _=>rfl,g3.df X G λ_ _ _ _ _ _=>zII λ_ _ _=>rfl,g4.df X G λ_ _ _ _ _ _=>zII λ_ _ _=>rfl,g5.df X G λ_ _ _ _ _ _=>zF0 λ_=>rfl,g6.df X G λ_ _ _ _ _ _=>zF0 λ_=>rfl,g7.df X G λ_ _ _ _ _ _=>zIP λ_ _=>rfl,g8.df X G λ_ _ _ _ _ _=>zF0 λ_=>rfl,g9.df X G λ_ _ _ _ _ _=>zII λ_ _ _=>rfl,g10.df X G λ_ _ _ _ _ _=>zIP λ_ _=>rfl,g11.df X G λ_ _ _ _ _ _=>zF0 λ_=>rfl,g12.df X G λ_ _ _ _ _ _=>zII λ_ _ _=>rfl,g13.df X G λ_ _ _ _ _ _=>zF0 λ_=>rfl,g14.df X G λ_ _ _ _ _ _=>zIP λ_ _=>rfl,g15.df X G λ_ _ _ _ _ _=>zIP λ_ _=>rfl,g16.df X G λ_ _ _ _ _ _=>zF0 λ_=>rfl,g17.df X G λ_ _ _ _ _ _=>zIP λ_ _=>rfl,g18.df X G λ_ _ _ _ _ _=>zIP λ_ _=>rfl,g19.df X G λ_ _ _ _ _ _=>zF0 λ_=>rfl,g20.df X G λ_ _ _ _ _ _=>zF0 λ_=>rfl,g21.df X G λ_ _ _ _ _ _=>zIP λ_ _=>rfl,g22.df X G λ_ _ _ _ _ _=>zIP λ_ _=>rfl,g23.df X G λ_ _ _ _ _ _=>zF0 λ_=>rfl,g24.df X G λ_ _ _ _ _ _=>zF0 λ_=>rfl,g25.df X G λ_ _ _ _ _ _=>zIP λ_ _=>rfl,g26.df X G λ_ _ _ _ _ _=>zII λ_ _ _=>rfl,g27.df X G λ_ _ _ _ _ _=>zII λ_ _ _=>rfl,g28.df X G λ_ _ _ _ _ _=>zII λ_ _ _=>rfl,g29.df X G λ_ _ _ _ _ _=>zF0 λ_=>rfl,g30.df X G λ_ _ _ _ _ _=>zII λ_ _ _=>rfl,g31.df X G λ_ _ _ _ _ _=>zII λ_ _ _=>rfl,g32.df X G λ_ _ _ _ _ _=>zIP λ_ _=>rfl,g33.df X G λ_ _ _ _ _ _=>zF0 λ_=>rfl,zYm X G z1,zYm X G z2,zYm X G z3,zYm X G z4,zYm X G z5,zYm X G z6,zYm X G z7,zYm X G z8,zYm X G z9,zYm X G z10,zYm X G z11,zYm X G z12,zYm X G z13,zYm X G z14,kinds⟩;refine ⟨T.d_law.fd,λs v=> .of_eq rfl,λbase _ _=>?_⟩;exact zVC (P:=l.prog) (w:=w) (base:=base) T
theorem zXk {l:PySem.W.OpenLaw} {q:Ym} {loose:Yk} {XP:(Str->Option Value)->Heap->Prop} {YP:World->Heap->Prop} {d:DefRec} {K:Params->PySem.W.Frag} (hn:l.most=some 63) (hdf:d.params.defaults=[])
    (hY:∀ (w:Yo) (h:Heap),YP w h->(K w.params).In h) (hL:∀ w:World,zJ0 (K w.params)=true)
    (F:∀ (w:Yo) (mg:Yh) (fa:Yt) (h:Heap),(K w.params).In h->h.Ns mainGlobals mg->mg d.name=some (.ref fa) ->
      ∃ fd:FuncData,(∀ (s:Shared) (u:Value),BindsTo s fd ⟨[u],[]⟩ [("_law_script", u)]) /\ ∀ base:Heap,(K w.params).In base->base.Ns mainGlobals mg->FnOk l.prog w (K w.params) mg base CX0 8 fa fd ["_law_script"] (spF (K w.params) 1 zGN)) :
    PySem.W.WalkO q loose XP YP l.row.toRowW d [] (λf vs=>PySem.call f vs) :=
  L2.zSz (n:=63) (k:=8) (x := "_law_script") (CX:=λ_=>CX0) (sp:=λw=>spF (K w.params) 1 zGN) hn (by decide) hdf ⟨rfl,by decide,by decide⟩ hY F
    (λw H a ns hl hO hS=>zON (hL w) hO hS (zP7 ns hl)) λ_ _ _ _ _ z=>z
end Lad
open PySem PySem.W PyProof.Rows
set_option maxRecDepth 100000 in
set_option maxHeartbeats 0 in
theorem PySem.Challenge.cw_bringhome_k49_whole_folded_by_what_is_st_holds : PySem.Challenge.rw_bringhome_k49_whole_folded_by_what_is_st.Holds := by
  w_on;o_law;k_head;(case hw=>w_witness2);k_fill;refine Lad.zXk (l:=PySem.Challenge.rw_bringhome_k49_whole_folded_by_what_is_st) rfl rfl (λw h Y=>PySem.W.kIn_of Y) (λw=>by rfl) ?F
  case F=>
    intro w mg fa h KX G hmg;refine' Lad.zVD KX G hmg ?_ ?_ ?_ ?_ ?_ ?_ ?_ ?_ ?_ ?_ ?_ ?_ ?_ ?_ ?_ ?_ ?_ ?_ ?_ ?_ ?_ ?_ ?_ ?_ ?_ ?_ ?_ ?_ ?_ ?_ ?_ ?_ ?_ ?_ ?_ ?_ ?_ ?_ ?_ ?_ ?_ ?_ ?_ ?_ ?_ ?_ ?_ ?_ ?_ ?_ ?_ ?_ ?_ ?_ ?_ ?_ ?_ ?_ ?_ ?_ ?_ ?_ ?_ ?_ ?_ ?_ ?_ ?_ ?_ ?_ ?_ ?_ ?_ ?_ ?_;all_goals first|exact ⟨_,by k_is,by k_is,by k_is,by k_is⟩|(unfold L3.Zn;k_is)|(unfold L3.Ki;kit_is)|k_is
