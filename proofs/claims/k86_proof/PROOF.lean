import PyProof.Rows.All
import Wide.All
import OpenK.AllK
import Wide.FinOn
import Lean
import PyProof.EqAt
import PyProof.EqKinds
import PyProof.TupleCall
import PyProof.NeKinds
import PyProof.ZipIter
import PyProof.ListRange
import PyProof.TupleOfSeq
import PyProof.ConsumeWalk
import PyProof.IsRules
import PyProof.SetKind
import PyProof.SetRoads
import PyProof.Rows.SetFrom
import PyProof.Draws
import PyProof.EnumMake
import PyProof.DictCompW
import PyProof.ListMulRoad
import PyProof.Rows.SeqMore2
import PyProof.WalkInts
import PyProof.DictRoadsH
import PyProof.DictItems
import KE.KDictList
import KE.KDictOf
import PyProof.AttrMissHeap
import PyProof.SliceList
import KE.KRevIter
import PySem.Challenge.RW_bringhome_k86_whole_pairs_folded_togethe
section
open PySem
abbrev Ya:=List (List Int)
abbrev Yb:=W.Frag
abbrev Yc:=Value->Shared->Prop
abbrev Yd:=List (Addr × Obj)
abbrev Ye:=List Int
abbrev Yf:=List Value
abbrev Yg:=List Addr
abbrev Yh:=Str->Option Value
abbrev Yi:=List Expr
abbrev Yj:=List Nat
abbrev Yk:=List Str
abbrev Yl:=Shared
abbrev Ym:=Program
abbrev Yn:=Around
abbrev Yo:=World
abbrev Yp:=Array Value
abbrev Yq:=List Int->Prop
abbrev Yr:=Value->Nat
abbrev Ys:=Option Int
abbrev Yt:=Addr
abbrev Yu:=Value
abbrev Yv:=List (Str × Addr)
abbrev Yw:=Array (Int × Value)
abbrev Yx:=Result->Shared->Prop
abbrev Yy:=List Stmt
abbrev Yz:=FuncData
abbrev Y0:=Scope
abbrev Y1:=List Int->List (List Int)
abbrev Y2:=Value->Value->Sem Value
end
namespace PySem.W.Fast
def tw6401940322205653606:=0
def tw14539967418258723268:=0
def tw10452218603015603435:=0
def tw2505965552041464896:=0
def tw5216866648667921418:=0
def tw4803258278824378392:=0
def tw17021989568469288103:=0
def tw13629719760796328597:=0
def tw17193807578290107048:=0
def tw4619727874666233041:=0
def tw5871042441808897780:=0
def tw2818900840778040901:=0
def tw8022109592439085751:=0
def tw1245361664952384084:=0
def tw9769665076229038414:=0
def tw6603434918550991360:=0
def tw3754622145017235170:=0
def tw6750886587556158359:=0
def tw10246792700929799424:=0
def tw14356726560133920639:=0
def tw9558038503786720082:=0
def tw9024535172891420883:=0
def tw2930008918403294718:=0
def tw7892596269331285519:=0
def tw17848067393488825643:=0
def tw12328368103590935693:=0
def tw13571255504291018969:=0
def tw8894140517629162518:=0
def tw5149672542834085566:=0
def tw5728802102737831924:=0
def tw15702186426756275411:=0
def tw8896912793080915158:=0
def tw9945098686444702730:=0
def tw14426190786035261315:=0
def tw6204234281304361235:=0
def tw1465833879214853934:=0
def tw4175636834847196690:=0
def tw840091406738718890:=0
def tw11731696927170475900:=0
def tw17025739589442705232:=0
def tw10319191897077353654:=0
end PySem.W.Fast
section
open PySem PySem.Spec PyProof.Rows
theorem zVO:type_of% @wpAny_bind:=@wpAny_bind
theorem zVP:type_of% @Heap.get?_push_of_some:=@Heap.get?_push_of_some
theorem zVQ:type_of% @wpAny_pure:=@wpAny_pure
theorem zVR:type_of% @List.getElem?_eq_some_iff:=@List.getElem?_eq_some_iff
theorem zVS:type_of% @List.getElem?_eq_getElem:=@List.getElem?_eq_getElem
theorem zVT:type_of% @List.getD_eq_getElem?_getD:=@List.getD_eq_getElem?_getD
theorem zVU:type_of% @Nat.le_refl:=@Nat.le_refl
theorem zVV:type_of% @List.getElem?_append_left:=@List.getElem?_append_left
theorem zVW:type_of% @List.size_toArray:=@List.size_toArray
theorem zVX:type_of% @List.length_map:=@List.length_map
theorem zVY:type_of% @Heap.get?_push_size:=@Heap.get?_push_size
theorem zVZ:type_of% @Heap.lt_size:=@Heap.lt_size
theorem zVa:type_of% @List.mem_cons:=@List.mem_cons
theorem zVb:type_of% @List.mem_cons_of_mem:=@List.mem_cons_of_mem
theorem zVc:type_of% @List.mem_cons_self:=@List.mem_cons_self
theorem zVd:type_of% @if_pos:=@if_pos
theorem zVe:type_of% @List.length_append:=@List.length_append
theorem zVf:type_of% @List.mem_map:=@List.mem_map
theorem zVg:type_of% @if_neg:=@if_neg
theorem zVh:type_of% @List.map_cons:=@List.map_cons
theorem zVi:type_of% @List.mem_append_right:=@List.mem_append_right
theorem zVj:type_of% @Nat.ne_of_lt:=@Nat.ne_of_lt
theorem zVk:type_of% @Bool.false_ne_true:=@Bool.false_ne_true
theorem zVl:type_of% @List.getElem?_map:=@List.getElem?_map
theorem zVm:type_of% @List.map_map:=@List.map_map
theorem zVn:type_of% @Nat.lt_of_lt_of_le:=@Nat.lt_of_lt_of_le
theorem zVo:type_of% @List.mem_append:=@List.mem_append
theorem zVp:type_of% @Nat.le_trans:=@Nat.le_trans
theorem zVq:type_of% @List.mem_singleton:=@List.mem_singleton
theorem zVr:type_of% @wpAny_newObj_type:=@wpAny_newObj_type
theorem zVs:type_of% @List.getElem?_set_ne:=@List.getElem?_set_ne
theorem zVt:type_of% @List.not_mem_nil:=@List.not_mem_nil
theorem zVu:type_of% @wpAny_mono:=@wpAny_mono
theorem zVv:type_of% @List.length_cons:=@List.length_cons
theorem zVw:type_of% @List.getElem_mem:=@List.getElem_mem
theorem zVx:type_of% @decide_eq_false:=@decide_eq_false
theorem zVy:type_of% @Bool.and_eq_true:=@Bool.and_eq_true
theorem zVz:type_of% @List.all_eq_true:=@List.all_eq_true
theorem zV0:type_of% @wpAny_callSpecial?_slot:=@wpAny_callSpecial?_slot
theorem zV1:type_of% @wpAny_call_entry:=@wpAny_call_entry
theorem zV2:type_of% @List.mem_range:=@List.mem_range
theorem zV3:type_of% @wpAny_field:=@wpAny_field
theorem zV4:type_of% @Heap.size_push:=@Heap.size_push
theorem zV5:type_of% @Heap.get?_update_other:=@Heap.get?_update_other
theorem zV6:type_of% @Nat.lt_irrefl:=@Nat.lt_irrefl
theorem zV7:type_of% @Array.length_toList:=@Array.length_toList
theorem zV8:type_of% @List.append_nil:=@List.append_nil
theorem zV9:type_of% @Array.getElem?_eq_getElem:=@Array.getElem?_eq_getElem
theorem zWA:type_of% @Nat.zero_le:=@Nat.zero_le
theorem zWB:type_of% @Heap.get?_update_self:=@Heap.get?_update_self
theorem zWD:type_of% @Nat.lt_succ_of_lt:=@Nat.lt_succ_of_lt
theorem zWE:type_of% @wpAny_seqItems:=@wpAny_seqItems
theorem zWG:type_of% @List.map_append:=@List.map_append
theorem zWH:type_of% @wpAny_holding:=@wpAny_holding
theorem zWI:type_of% @List.getElem?_set_self:=@List.getElem?_set_self
theorem zWJ:type_of% @Around.under_plainId:=@Around.under_plainId
theorem zWK:type_of% @of_decide_eq_true:=@of_decide_eq_true
theorem zWL:type_of% @Nat.lt_succ_self:=@Nat.lt_succ_self
theorem zWM:type_of% @wpAny_standAt:=@wpAny_standAt
theorem zWN:type_of% @PySem.W.mg_none_of:=@PySem.W.mg_none_of
theorem zWO:type_of% @Option.some.inj:=@Option.some.inj
theorem zWP:type_of% @Bool.false_eq_true:=@Bool.false_eq_true
theorem zWQ:type_of% @PySem.mem_of_lookup:=@PySem.mem_of_lookup
theorem zWR:type_of% @Heap.SameBut.update:=@Heap.SameBut.update
theorem zWS:type_of% @List.cons.inj:=@List.cons.inj
theorem zWU:type_of% @List.append_assoc:=@List.append_assoc
theorem zWW:type_of% @decide_eq_true:=@decide_eq_true
theorem zWY:type_of% @List.getElem?_append_right:=@List.getElem?_append_right
theorem zWZ:type_of% @List.mem_filter:=@List.mem_filter
theorem zWb:type_of% @decide_eq_true_eq:=@decide_eq_true_eq
theorem zWc:type_of% @List.nodup_append:=@List.nodup_append
theorem zWd:type_of% @List.mem_append_left:=@List.mem_append_left
theorem zWe:type_of% @wpAny_setField_rec:=@wpAny_setField_rec
theorem zWf:type_of% @Obj.data_mapFields:=@Obj.data_mapFields
theorem zWi:type_of% @List.nodup_cons:=@List.nodup_cons
theorem zWj:type_of% @or_false:=@or_false
theorem zWl:type_of% @wpAny_rule:=@wpAny_rule
theorem zWm:type_of% @List.length_take:=@List.length_take
theorem zWt:type_of% @Nat.ne_of_gt:=@Nat.ne_of_gt
theorem zWw:type_of% @PyProof.Rows.slot_tuple_getitem:=@PyProof.Rows.slot_tuple_getitem
theorem zWx:type_of% @List.getElem?_set:=@List.getElem?_set
theorem zW0:type_of% @Nat.mul_le_mul:=@Nat.mul_le_mul
theorem zW3:type_of% @Array.getElem?_toList:=@Array.getElem?_toList
theorem zW6:type_of% @Nat.le_succ:=@Nat.le_succ
theorem zW9:type_of% @wpAny_setField:=@wpAny_setField
theorem zXA:type_of% @List.find?_cons:=@List.find?_cons
theorem zXI:type_of% @wpAny_comprehension_free:=@wpAny_comprehension_free
theorem zXL:type_of% @List.length_range:=@List.length_range
theorem zXR:type_of% @List.getElem_of_mem:=@List.getElem_of_mem
theorem zXT:type_of% @List.lookup_cons:=@List.lookup_cons
theorem zXi:type_of% @List.length_filter_le:=@List.length_filter_le
theorem zXr:type_of% @List.length_drop:=@List.length_drop
theorem zX8:type_of% @Int.toNat_natCast:=@Int.toNat_natCast
theorem zYK:type_of% @Nat.le_of_lt:=@Nat.le_of_lt
theorem zYa:type_of% @List.length_pos_of_mem:=@List.length_pos_of_mem
end
set_option Elab.async false
set_option linter.all false
set_option maxRecDepth 100000
set_option genSizeOf false
set_option genInjectivity false
noncomputable section
namespace L2
open PySem PySem.Spec PyProof.Rows
abbrev Key:=Sum Int Str
def zHb:Key->Value->Bool
 |.inl k,v=>Value.isInt k v
 |.inr x,v=>Value.isStrOf x v
def zVD (w:Yo):Key->Int
 |.inl k=>hashInt k
 |.inr x=>hashStr w x
theorem zAW:∀ {k:Key} {v:Yu},zHb k v=true->(∃ i t,k=Sum.inl i/\v=Value.int i t)\/(∃ x t,k=Sum.inr x/\v=Value.str x t)
 |.inl i,v,h=>by
  obtain ⟨t,e⟩:=Value.isInt_shape (k:=i) (v:=v) h;exact .inl ⟨i,t,rfl,e⟩
 |.inr x,v,h=>by
  obtain ⟨t,e⟩:=Value.isStrOf_shape (x:=x) (v:=v) h;exact .inr ⟨x,t,rfl,e⟩
theorem zMy (i:Int) (t:Tok):zHb (.inl i) (.int i t)=true:=by simp[zHb,Value.isInt]
theorem zM6 (x:Str) (t:Tok):zHb (.inr x) (.str x t)=true:=by simp[zHb,Value.isStrOf]
theorem zS0 (a b:Int):decide ((Sum.inl a:Key)=Sum.inl b)=(a==b):=by
 by_cases e:a=b
 .subst e;simp
 .have h:¬ (Sum.inl a:Key)=Sum.inl b:=λq=>e (Sum.inl.inj q);rw[zVx h];exact (beq_eq_false_iff_ne.mpr e).symm
theorem zSw (a b:Str):decide ((Sum.inr a:Key)=Sum.inr b)=decide (a=b):=by
 by_cases e:a=b
 .subst e;simp
 .have h:¬ (Sum.inr a:Key)=Sum.inr b:=λq=>e (Sum.inr.inj q);rw[zVx h,zVx e]
theorem zSU (a:Int) (b:Str):decide ((Sum.inl a:Key)=Sum.inr b)=false:=zVx (λq=>nomatch q)
theorem zR6 (a:Str) (b:Int):decide ((Sum.inr a:Key)=Sum.inl b)=false:=zVx (λq=>nomatch q)
def zAE (prog:Ym) (w:Yo):PySem.KeyKind prog w Key where
 is:=zHb
 hash:=zVD w
 inj:=λv a b ha hb=>by
  rcases zAW ha with ⟨i,t,rfl,rfl⟩|⟨x,t,rfl,rfl⟩
  .rcases zAW hb with ⟨j,u,rfl,e⟩|⟨y,u,rfl,e⟩
   .injection e with e1 _;rw[e1]
   .exact nomatch e
  .rcases zAW hb with ⟨j,u,rfl,e⟩|⟨y,u,rfl,e⟩
   .exact nomatch e
   .injection e with e1 _;rw[e1]
 byValue:=λk v h=>by
  rcases zAW h with ⟨i,t,rfl,rfl⟩|⟨x,t,rfl,rfl⟩ <;> rfl
 pyHash:=λhv h=>by
  rcases zAW hv with ⟨i,t,rfl,rfl⟩|⟨x,t,rfl,rfl⟩
  .exact wpAny_pyHash_int h
  .exact wpAny_pyHash_str h
 eqBool:=λhu hv h=>by
  rcases zAW hu with ⟨i,t,rfl,rfl⟩|⟨x,t,rfl,rfl⟩
  .rcases zAW hv with ⟨j,u,rfl,rfl⟩|⟨y,u,rfl,rfl⟩
   .rw[zS0]at h;exact wpAny_eqBool_int h
   .rw[zSU]at h;exact SeqAt.EqAt.int_str i t y u _ _ _ _ h
  .rcases zAW hv with ⟨j,u,rfl,rfl⟩|⟨y,u,rfl,rfl⟩
   .rw[zR6]at h;exact SeqAt.EqAt.str_int x t j u _ _ _ _ h
   .rw[zSw]at h;exact wpAny_eqBool_str h
 «strs»:=λk x t v h=>by
  rcases zAW h with ⟨i,u,rfl,e⟩|⟨y,u,rfl,e⟩
  .exact nomatch e
  .injection e with e1 _
   subst e1
   cases v <;> rfl
theorem zJd (prog:Ym) (w:Yo) (i:Int) (t:Tok):(zAE prog w).is (.inl i) (.int i t)=true:=zMy i t
theorem zJb (prog:Ym) (w:Yo) (x:Str) (t:Tok):(zAE prog w).is (.inr x) (.str x t)=true:=zM6 x t
set_option genInjectivity true in
inductive V where
 |non|bl (b:Bool)|int (i:Int)|str (x:Str)|byt (b:Array UInt8)|flt (b:UInt64)|ref (a:Yt)|ty (n:String)
 deriving DecidableEq
def zn:V->Value->Prop
 |.non,u=>u=Value.none
 |.bl b,u=>u=Value.bool b
 |.int i,u=>∃ t,u=Value.int i t
 |.str x,u=>∃ t,u=Value.str x t
 |.byt b,u=>∃ t,u=Value.bytes b t
 |.flt b,u=>∃ t,u=Value.float b t
 |.ref a,u=>u=Value.ref a
 |.ty n,u=>u=Value.type n
abbrev zZ:List V->List Value->Prop:=Paired zn
theorem zZ.length {xs:List V} {us:Yf} (r:zZ xs us):xs.length=us.length:=Paired.length r
theorem zZ.get:∀ {xs:List V} {us:Yf} {i:Nat} {x:V},zZ xs us->xs[i]?=some x -> ∃ u,us[i]?=some u/\zn x u
 |_,_,_,_,.nil,e=>by simp at e
 |_,_,0,_,.cons r _,e=>by simp at e;subst e;exact ⟨_,rfl,r⟩
 |_,_,i+1,x,.cons _ t,e=>by
  obtain ⟨u,h1,h2⟩:=zZ.get (i:=i) (x:=x) t (by simpa using e);exact ⟨u,by simpa using h1,h2⟩
theorem zZ.set {x:V} {u:Yu} (r:zn x u):∀ {xs:List V} {us:Yf} (i:Nat),zZ xs us->zZ (xs.set i x) (us.set i u)
 |_,_,_,.nil=> .nil
 |_,_,0,.cons _ t=> .cons r t
 |_,_,i+1,.cons q t=> .cons q (zZ.set r i t)
theorem zZ.append:∀ {xs ys:List V} {us ws:Yf},zZ xs us->zZ ys ws->zZ (xs++ys) (us++ws)
 |_,_,_,_,.nil,s=>s
 |_,_,_,_,.cons r t,s=> .cons r (zZ.append t s)
theorem zZ.take:∀ {xs:List V} {us:Yf} (n:Nat),zZ xs us->zZ (xs.take n) (us.take n)
 |_,_,0,_=> .nil
 |_,_,_+1,.nil=> .nil
 |_,_,n+1,.cons r t=> .cons r (zZ.take n t)
theorem zZ.drop:∀ {xs:List V} {us:Yf} (n:Nat),zZ xs us->zZ (xs.drop n) (us.drop n)
 |_,_,0,r=>r
 |_,_,_+1,.nil=> .nil
 |_,_,n+1,.cons _ t=>zZ.drop n t
def zFQ:Option V->Option Value->Prop
 |some v,some u=>zn v u
 |none,none=>True
 |_,_=>False
def KV {κ:Type}:List (κ × V)->List (κ × Value)->Prop:=Paired λ(p:κ × V) (q:κ × Value)=>p.1=q.1/\zn p.2 q.2
def kV:Key->V
 |.inl i=> .int i
 |.inr x=> .str x
set_option genInjectivity true in
inductive HO where
 |lst (xs:List V)
 |tup (xs:List V)
 |dK (kvs:List (Key × V))|dT (kvs:List (List Key × V))
 |set (S:Int->Bool) (n:Nat)
 |ins (C dx:Yt) (fs:List (Str × V))
 |own (x:Yt)
 |xd (fs:List (Str × V))
 |met (f x:Yt)
 |rng (lo hi:Int)
 |frz (o:Obj) (u:HO)
 |tbl (ps:Yp)
 |ext (φ:Heap->Prop)
abbrev Hp:=Addr->Option HO
def upd (H:Hp) (a:Yt) (o:HO):Hp:=λb=>if b=a then some o else H b
theorem zj {H:Hp} {a:Yt} {o:HO}:upd H a o a=some o:=by unfold upd;rw[zVd rfl]
theorem zT {H:Hp} {a b:Yt} {o:HO} (h:b≠a):upd H a o b=H b:=by unfold upd;rw[zVg h]
theorem zGm {H:Hp} {a b:Yt} {o u:HO} (h:H a=some o) (h':H b=some u) (d:o≠u):a≠b:=by
 intro e;subst e;rw[h]at h';exact d (zWO h')
theorem zk {H:Hp} {a b:Yt} {o:HO} (h:H a=some o) (h':H b=none):a≠b:=by
 intro e;subst e;rw[h]at h';cases h'
def zCD (h:Heap) (a:Addr) (items:Array Value):Prop:=∃ o,h.get? a=some o/\o.cls=.type "tuple" /\ (∃ n,o.data=.seq items n)/\o.dict=none
theorem zCD.tup {h:Heap} {a:Yt} {items:Yp} (x:zCD h a items):IsTup h a items:=let ⟨o,e,c,d,_⟩:=x;⟨o,e,c,d⟩
theorem zCD.lt {h:Heap} {a:Yt} {items:Yp} (x:zCD h a items):a<h.objs.size:=let ⟨_,e,_⟩:=x;zVZ e
theorem zCD.new (h:Heap) (items:Array Value):zCD (h.push { cls:=.type "tuple", data:=.seq items }) h.objs.size items:=⟨_,zVY _ rfl,rfl,⟨_,rfl⟩,rfl⟩
section
variable (P:Ym) (w:Yo)
def zAT (H:Hp) (h:Heap) (a:Yt):HO->Prop
 |.lst xs=>xs.length<=sizeLine /\ ∃ (its:List Value) (n:Nat),zZ xs its/\h.get? a=some { cls:=.type "list", data:=.seq its.toArray n }
 |.tup xs=>xs.length<=sizeLine /\ ∃ its:List Value,zZ xs its/\zCD h a its.toArray
 |.dK kvs=>kvs.length<=sizeLine/\(a==sysModules)=false /\ ∃ vs,KV kvs vs/\h.DictOf (zAE P w) a vs
 |.dT kvs=>kvs.length<=sizeLine/\(a==sysModules)=false /\ ∃ xs:List (List Key × Addr × Value),
   Paired (λ(p:List Key × V) (q:List Key × Addr × Value)=>p.1=q.1/\H q.2.1=some (.tup (p.1.map kV))/\zn p.2 q.2.2) kvs xs /\
   ∃ o es ep,h.get? a=some o/\o.ExactDict/\o.data=.dict es ep/\es.toList=xs.map (entryOfKey (tupleKind (zAE P w)))/\(xs.map (·.1)).Nodup
 |.set S n=>h.SetOf (intKind P w) a S n
 |.ins C dx fs=>H dx=some (.own a)/\fs.length<=1000/\dx≠a/\h.get? a=some (PySem.W.instObj C dx) /\
   ∃ mA,h.Ns1 dx mA/\(∀ f,zFQ (fs.lookup f) (mA f))/\PySem.Within mA (fs.map (·.1))
 |.own _=>∃ o,h.get? a=some o
 |.xd fs=>∃ mA,h.Ns1 a mA /\ ∀ f,zFQ (fs.lookup f) (mA f)
 |.rng lo hi=>∃ t u v,h.get? a=some { cls:=.type "range", data:=.fields #[.int lo t,.int hi u,.int 1 v] }
 |.frz o u=>h.get? a=some o/\zAT H h a u
 |.tbl ps=>h.get? a=some { cls:=.none,data:=.fields ps }
 |.met f x=>h.get? a=some (PySem.W.methodObj (.ref f) (.ref x))
 |.ext φ=>φ h/\(∃ o,h.get? a=some o) /\ ∀ h1 h2:Heap,φ h1->(∀ o,h1.get? a=some o->h2.get? a=some o)->φ h2
def HOk (H:Hp) (h:Heap):Prop:=∀ a o,H a=some o->zAT P w H h a o
end
section
variable {P:Ym} {w:Yo} {H H':Hp} {h h':Heap} {a:Yt} {o:HO}
theorem zAT.lt (x:zAT P w H h a o):a<h.objs.size:=by
 cases o with
 |lst xs=>obtain ⟨_,_,_,_,e⟩:=x;exact zVZ e
 |tup xs=>obtain ⟨_,_,_,p⟩:=x;exact p.lt
 |dK kvs=>obtain ⟨_,_,_,_,o,_,_,e,_⟩:=x;exact zVZ e
 |dT kvs=>obtain ⟨_,_,_,_,o,_,_,e,_⟩:=x;exact zVZ e
 |set S n=>obtain ⟨o,_,_,_,e,_⟩:=x;exact zVZ e
 |ins C dx fs=>obtain ⟨_,_,_,e,_⟩:=x;exact zVZ e
 |own y=>obtain ⟨_,e⟩:=x;exact zVZ e
 |xd fs=>obtain ⟨_,⟨_,_,_,e,_⟩,_⟩:=x;exact zVZ e
 |rng lo hi=>obtain ⟨_,_,_,e⟩:=x;exact zVZ e
 |frz ob u=>obtain ⟨e,_⟩:=x;exact zVZ e
 |tbl ps=>exact zVZ (show h.get? a=some _ from x)
 |met f y=>exact zVZ (show h.get? a=some _ from x)
 |ext φ=>obtain ⟨_,⟨_,e⟩,_⟩:=x;exact zVZ e
theorem Paired.mapP {α β:Type} {F G:α->β->Prop}:∀ {l₁:List α} {l₂:List β},Paired F l₁ l₂->(∀ a b,F a b->G a b)->Paired G l₁ l₂
 |_,_,.nil,_=> .nil
 |_,_,.cons r t,f=> .cons (f _ _ r) (Paired.mapP t f)
theorem zAT.stay (x:zAT P w H h a o) (k:∀ b u,(b=a\/H b=some (.own a))->h.get? b=some u->h'.get? b=some u)
  (ho:∀ b,H b=some (.own a)->H' b=some (.own a)) (ht:∀ b xs,H b=some (.tup xs)->H' b=some (.tup xs)):zAT P w H' h' a o:=by
 induction o with
 |lst xs=>obtain ⟨z,its,n,r,e⟩:=x;exact ⟨z,its,n,r,k _ _ (.inl rfl) e⟩
 |tup xs=>obtain ⟨z,its,r,ob,e,c⟩:=x;exact ⟨z,its,r,ob,k _ _ (.inl rfl) e,c⟩
 |dK kvs=>obtain ⟨z,y,vs,r,ob,es,ep,e,c⟩:=x;exact ⟨z,y,vs,r,ob,es,ep,k _ _ (.inl rfl) e,c⟩
 |dT kvs=>
  obtain ⟨z,y,xs,r,ob,es,ep,e,c⟩:=x;exact ⟨z,y,xs,Paired.mapP r λp q z=>⟨z.1,ht _ _ z.2.1,z.2.2⟩,ob,es,ep,k _ _ (.inl rfl) e,c⟩
 |set S n=>obtain ⟨ob,es,ep,t,e,c⟩:=x;exact ⟨ob,es,ep,t,k _ _ (.inl rfl) e,c⟩
 |ins C dx fs=>
  obtain ⟨d,z,ne,e,mA,⟨od,es,ep,e2,c⟩,r⟩:=x;exact ⟨ho _ d,z,ne,k _ _ (.inl rfl) e,mA,⟨od,es,ep,k _ _ (.inr d) e2,c⟩,r⟩
 |own y=>obtain ⟨ob,e⟩:=x;exact ⟨ob,k _ _ (.inl rfl) e⟩
 |xd fs=>obtain ⟨mA,⟨od,es,ep,e,c⟩,r⟩:=x;exact ⟨mA,⟨od,es,ep,k _ _ (.inl rfl) e,c⟩,r⟩
 |rng lo hi=>obtain ⟨t,u,v,e⟩:=x;exact ⟨t,u,v,k _ _ (.inl rfl) e⟩
 |frz ob u ih=>obtain ⟨e,q⟩:=x;exact ⟨k _ _ (.inl rfl) e,ih q⟩
 |tbl ps=>
  have e:h.get? a=some { cls:=.none,data:=.fields ps }:=x;show h'.get? a=some { cls:=.none,data:=.fields ps };exact k a _ (.inl rfl) e
 |met f y=>
  have e:h.get? a=some (PySem.W.methodObj (.ref f) (.ref y)):=x;show h'.get? a=some (PySem.W.methodObj (.ref f) (.ref y));exact k a _ (.inl rfl) e
 |ext φ=>obtain ⟨p,⟨o,e⟩,st⟩:=x;exact ⟨st _ _ p λo q=>k _ _ (.inl rfl) q,⟨o,k _ _ (.inl rfl) e⟩,st⟩
theorem HOk.lt (x:HOk P w H h) (e:H a=some o):a<h.objs.size:=(x a o e).lt
theorem HOk.fresh (x:HOk P w H h) (e:h.objs.size<=a):H a=none:=by
 cases q:H a with
 |none=>rfl
 |some u=>exact absurd (zVn (x.lt q) e) (zV6 _)
theorem HOk.kept (x:HOk P w H h) (k:∀ b u,h.get? b=some u->h'.get? b=some u):HOk P w H h':=λa o e=>
 (x a o e).stay (λb u _ q=>k b u q) (λ_ q=>q) λ_ _ q=>q
theorem HOk.laid (x:HOk P w H h) (k:∀ b u,h.get? b=some u->h'.get? b=some u) (hp:h.objs.size<=a) (new:zAT P w (upd H a o) h' a o):HOk P w (upd H a o) h':=λb u e=>by
 have hn:=x.fresh hp;by_cases hb:b=a
 .subst hb;rw[zj]at e;cases e;exact new
 .rw[zT hb]at e;exact (x b u e).stay (λc v _ q=>k c v q) (λc q=>by rw[zT (zk q hn)];exact q) λc xs q=>by rw[zT (zk q hn)];exact q
end
def Rd (H:Hp) (a:Yt) (u:HO):Prop:=H a=some u \/ ∃ o,H a=some (.frz o u)
theorem Rd.ok {P:Ym} {w:Yo} {H:Hp} {h:Heap} {a:Yt} {u:HO} (r:Rd H a u) (x:HOk P w H h):zAT P w H h a u:=by
 rcases r with r|⟨o,r⟩
 .exact x a u r
 .obtain ⟨_,q⟩:=x a _ r;exact q
def Mut:Option HO->Prop
 |some (.lst _)=>True
 |some (.dK _)=>True
 |some (.dT _)=>True
 |some (.set _ _)=>True
 |some (.ins _ _ _)=>True
 |some (.ext _)=>True
 |_=>False
section
variable {P:Ym} {w:Yo} {H:Hp} {h h':Heap} {x e:Yt} {o':HO}
theorem HOk.write (ok:HOk P w H h) (mu:Mut (H x)) (he:e=x\/H e=some (.own x)) (k:∀ b u,b≠e->h.get? b=some u->h'.get? b=some u) (heo:∃ u,h'.get? e=some u)
  (new:zAT P w (upd H x o') h' x o'):HOk P w (upd H x o') h':=λb u q=>by
 have nown:∀ c y,H c=some (.own y)->c≠x:=λc y r z=>by subst z;rw[r]at mu;exact mu
 have ntup:∀ c xs,H c=some (.tup xs)->c≠x:=λc xs r z=>by subst z;rw[r]at mu;exact mu
 by_cases hb:b=x
 .subst hb;rw[zj]at q;cases q;exact new
 .rw[zT hb]at q;by_cases hbe:b=e
  .have q':H b=some (.own x):=by
    rcases he with z|z
    .exact absurd (hbe.trans z) hb
    .rw[hbe];exact z
   rw[q]at q';cases q';obtain ⟨v,hv⟩:=heo;exact ⟨v,by rw[hbe];exact hv⟩
  .refine (ok b u q).stay (λc v hc r=>k c v ?_ r) (λc r=>by rw[zT (nown c b r)];exact r) λc xs r=>by rw[zT (ntup c xs r)];exact r
   rcases hc with rfl|hc
   .exact hbe
   .rintro rfl;rcases he with z|z
    .exact nown c b hc z
    .rw[hc]at z;cases z;exact hb rfl
end
structure Un (fs ex:Yg) (H H':Hp) (h h':Heap):Prop where
 keep:∀ b o,h.get? b=some o->H b=none->b∉fs->b∉ex->h'.get? b=some o
 slot:∀ b o,h.get? b=some o->H b=none->b∈fs->b∉ex -> ∃ sl,h'.get? b=some { o with slots:=sl }
 free:∀ b o,h.get? b=some o->H b=none->b∉ex->H' b=none
 there:∀ b o,h.get? b=some o->b∉ex -> ∃ o',h'.get? b=some o'
 tups:∀ b xs,H b=some (.tup xs)->H' b=some (.tup xs)
 frzs:∀ b o u,H b=some (.frz o u)->H' b=some (.frz o u)
 tbls:∀ b ps,H b=some (.tbl ps) -> ∃ more,H' b=some (.tbl (ps++more))
section
variable {fs fs' ex ex':Yg} {H H1 H2:Hp} {h h1 h2 h':Heap} {a x e:Yt} {o:HO}
theorem Un.any (u:Un fs ex H H1 h h1) {b:Yt} {ob:Obj} (q:h.get? b=some ob) (n:H b=none) (hx:b∉ex):∃ sl,h1.get? b=some { ob with slots:=sl }:=by
 by_cases hb:b∈fs
 .exact u.slot b ob q n hb hx
 .exact ⟨ob.slots,u.keep b ob q n hb hx⟩
theorem Un.kept (k:∀ b u,h.get? b=some u->h'.get? b=some u):Un fs ex H H h h' :=
 ⟨λb ob q _ _ _=>k b ob q,λb ob q _ _ _=>⟨ob.slots,k b ob q⟩,λ_ _ _ n _=>n,λb ob q _=>⟨ob,k b ob q⟩,λ_ _ q=>q,λ_ _ _ q=>q,λ_ ps q=>⟨#[],by rw[q];simp⟩⟩
theorem Un.refl:Un fs ex H H h h:=Un.kept λ_ _ q=>q
theorem Un.laid (k:∀ b u,h.get? b=some u->h'.get? b=some u) (hp:h.objs.size<=a) (hn:H a=none):Un fs ex H (upd H a o) h h' where
 keep:=λb u q _ _ _=>k b u q;slot:=λb u q _ _ _=>⟨u.slots,k b u q⟩;free:=λb u q n _=>by rw[zT (zVj (zVn (zVZ q) hp))];exact n
 there:=λb u q _=>⟨u,k b u q⟩;tups:=λb xs q=>by rw[zT (zk q hn)];exact q
 frzs:=λb u xs q=>by rw[zT (zk q hn)];exact q
 tbls:=λb ps q=>⟨#[],by rw[zT (zk q hn),q];simp⟩
theorem Un.write (mu:Mut (H x)) (he:e=x\/H e=some (.own x)) (k:∀ b u,b≠e->h.get? b=some u->h'.get? b=some u) (heo:∃ u,h'.get? e=some u):Un fs ex H (upd H x o) h h':=by
 have hx:∀ b,H b=none->b≠x:=λb n z=>by subst z;rw[n]at mu;exact mu
 have hb:∀ b,H b=none->b≠e:=λb n z=>by
  subst z;rcases he with r|r
  .exact hx b n r
  .rw[n]at r;cases r
 have hm:∀ b u,H b=some u -> ¬ Mut (some u)->b≠x:=λb u q nm z=>by subst z;rw[q]at mu;exact nm mu
 refine ⟨λb u q n _ _=>k b u (hb b n) q,λb u q n _ _=>⟨u.slots,k b u (hb b n) q⟩,λb u q n _=>by rw[zT (hx b n)];exact n,λb u q _=>?_,
  λb xs q=>by rw[zT (hm b _ q λz=>z)];exact q,λb u xs q=>by rw[zT (hm b _ q λz=>z)];exact q,λb ps q=>⟨#[],by rw[zT (hm b _ q λz=>z),q];simp⟩⟩
 by_cases hbe:b=e
 .subst hbe;exact heo
 .exact ⟨u,k b u hbe q⟩
end
def trk (h:Heap) (H:Hp):List Addr:=(List.range h.objs.size).filter λa=>(H a).isSome
def zII (h:Heap) (H:Hp):Heap:=PySem.W.hideAll h (trk h H)
theorem zNW (h:Heap) (H:Hp):(zII h H).objs.size=h.objs.size:=PySem.W.hideAll_size _ _
theorem zN2 {h:Heap} {H:Hp} {b:Yt} {o:Obj} (e:h.get? b=some o) (n:H b=none):(zII h H).get? b=some o :=
 PySem.W.hideAll_get _ e λhm=>by
  have q:(H b).isSome=true:=(zWZ.mp hm).2;rw[n]at q;simp at q
theorem zQN {h:Heap} {H:Hp} {b:Yt} {o:Obj} (e:(zII h H).get? b=some o):h.get? b=some o/\H b=none:=by
 have e':h.get? b=some o:=PySem.W.of_hideAll (trk h H) e;refine ⟨e',?_⟩;cases q:H b with
 |none=>rfl
 |some x=>
  have hm:b∈trk h H:=zWZ.mpr ⟨zV2.mpr (zVZ e'),by simp[q]⟩;have z:(zII h H).get? b=none:=PySem.W.hideAll_none (trk h H) hm;rw[z]at e;cases e
structure Mod (K:Yb) (mg:Yh) (base:Heap):Prop where
 kin:K.In base
 glob:base.Ns mainGlobals mg
 blt:∃ mb,base.Ns builtinsNs mb /\ ∀ x:Str,x ≠ "__name__" -> mb x=bootBuiltins x
 nolimit:base.NoLimit
structure Cx where
 prog:Program
 w:World
 K:PySem.W.Frag
 mg:Str->Option Value
 base:Heap
 A:Around
 N:List Str
 s₀:Shared
 H₀:Hp
 env:Env
 outer:List Env
 stack:List Env
 ex:List Addr
 fn:Str->Bool
 calm:Bool
 pn:List (Addr × Obj)
 xe:Value->Shared->Prop
def frs (l:List Env):List Addr:=l.filterMap (·.frame)
abbrev Cx.fs (X:Cx):List Addr:=frs X.outer
def Vis (sc:Y0) (x:Str):Prop:=sc.names.lookup x=some .local\/sc.names.lookup x=some .cell\/sc.names.lookup x=some .free
def Loc (sc:Y0) (x:Str):Prop:=sc.names.lookup x=some .local\/sc.names.lookup x=some .cell
def zUr (env:Env) (h:Heap) (m:Yh) (x:Str) (u:Yu):Prop :=
 (env.kindOf x=some .local/\m x=some u)\/((env.kindOf x=some .cell\/env.kindOf x=some .free) /\ ∃ c,env.cells.lookup x=some c/\h.IsCell c (some u))
structure Cx.Ok (X:Cx):Prop where
 mod:Mod X.K X.mg X.base
 kind:X.env.scope.kind=.function
 glob:X.env.globals=mainGlobals
 blt:X.env.builtins=builtinsNs
 above:X.s₀.heap.objs.size<=X.env.locals
 inj:∀ x y c,X.env.cells.lookup x=some c->X.env.cells.lookup y=some c->x=y
 has:∀ x,(X.env.kindOf x=some .cell\/X.env.kindOf x=some .free) -> ∃ c,X.env.cells.lookup x=some c
 cab:∀ x c,X.fn x=true->X.env.cells.lookup x=some c->X.s₀.heap.objs.size<=c
 hd:X.calm=true->X.A.handled=none
 frames:X.A.frames=some X.stack
 stk:X.stack=X.outer\/(X.stack=X.env::X.outer/\X.env.frame=some X.env.locals)
 exf:∀ b∈X.ex,b≠X.env.locals /\ ∀ x c,X.env.cells.lookup x=some c->c≠b
 bs:∀ b o,X.base.get? b=some o->X.s₀.heap.get? b=some o/\X.H₀ b=none
 bsz:X.base.objs.size<=X.s₀.heap.objs.size
 noex:∀ b o,X.base.get? b=some o->b∉X.ex
 exfs:∀ b∈X.ex,b∉X.fs
 funs:X.s₀.heap.FunFrames X.base X.outer
 frf:∀ b∈X.fs,X.H₀ b=none
structure Inv (X:Cx) (zB:Yd) (σ:List (Option V)) (H:Hp) (s:Yl):Prop where
 ok:X.Ok
 os:s.os=X.s₀.os
 bare:AllBare s.gens
 base:Un X.fs X.ex X.H₀ H X.s₀.heap s.heap
 loc:∃ m,s.heap.Ns X.env.locals m /\ ∀ (i:Nat) (x:Str) (v:V),X.N[i]?=some x->σ[i]?=some (some v)->Vis X.env.scope x -> ∃ u,zn v u/\zUr X.env s.heap m x u
 cell:∀ x c,X.env.cells.lookup x=some c -> ∃ v,s.heap.IsCell c v
 free:H X.env.locals=none
 freeC:∀ x c,X.env.cells.lookup x=some c->H c=none
 pin:∀ p∈X.pn++zB,s.heap.get? p.1=some p.2/\H p.1=none/\p.1≠X.env.locals/\p.1∉X.fs /\ ∀ v,p.2.data≠.cell v
 hok:HOk X.prog X.w H s.heap
 len:σ.length=X.N.length
section
variable {X:Cx} {zB:Yd} {σ:List (Option V)} {H H':Hp} {s:Yl} {h':Heap}
theorem Cx.Ok.nofr (ok:X.Ok) {b:Yt} {o:Obj} (e:X.base.get? b=some o):b∉X.fs:=λhb=>by
 have:=(ok.funs.mem hb).1;rw[e]at this;cases this
theorem Inv.bs (I:Inv X zB σ H s):∀ b o,X.base.get? b=some o->s.heap.get? b=some o/\H b=none:=λb o e=>
 ⟨I.base.keep b o (I.ok.bs b o e).1 (I.ok.bs b o e).2 (I.ok.nofr e) (I.ok.noex b o e),I.base.free b o (I.ok.bs b o e).1 (I.ok.bs b o e).2 (I.ok.noex b o e)⟩
theorem Inv.bk (I:Inv X zB σ H s):∀ b o,X.base.get? b=some o->s.heap.get? b=some o:=λb o e=>(I.bs b o e).1
theorem Inv.mod (I:Inv X zB σ H s):Mod X.K X.mg X.base:=I.ok.mod
theorem Inv.kIn (I:Inv X zB σ H s):X.K.In s.heap:=I.ok.mod.kin.keeps I.bk
theorem Inv.lt (I:Inv X zB σ H s):X.env.locals<s.heap.objs.size:=let ⟨_,hn,_⟩:=I.loc;hn.lt
theorem Inv.sz (I:Inv X zB σ H s):X.s₀.heap.objs.size<=s.heap.objs.size:=zVp I.ok.above (zYK I.lt)
theorem Inv.nofs (I:Inv X zB σ H s) {a:Yt} (h:s.heap.objs.size<=a):a∉X.fs:=λhb=>by
 obtain ⟨_,o,ho,_⟩:=I.ok.funs.mem hb;exact absurd (zVn (zVZ ho) (zVp I.sz h)) (zV6 _)
theorem Inv.cne (I:Inv X zB σ H s):∀ x c,X.env.cells.lookup x=some c->c≠X.env.locals:=λx c e z=>by
 obtain ⟨v,o,ho,hd⟩:=I.cell x c e;obtain ⟨m,⟨o',es,ep,ho',hd',_⟩,_⟩:=I.loc;rw[z,ho']at ho;cases ho;rw[hd']at hd;cases hd
theorem Inv.funs (I:Inv X zB σ H s):s.heap.FunFrames X.base X.outer:=by
 have all:∀ (l:List Env),(∀ b∈frs l,b∈X.fs)->X.s₀.heap.FunFrames X.base l->s.heap.FunFrames X.base l:=by
  intro l;induction l with
  |nil=>intro _ _;trivial
  |cons env r ih=>
   intro hs hl;obtain ⟨hk,⟨L,o,hf,hn,ho,hd⟩,hr⟩:=hl;have hL:L∈X.fs:=hs L (by unfold frs;rw[List.filterMap_cons,hf];exact zVc);obtain ⟨sl,e⟩:=I.base.slot L o ho (I.ok.frf L hL) hL λz=>I.ok.exfs L z hL;exact ⟨hk,⟨L,_,hf,hn,e,hd⟩,ih (λb hb=>hs b (by unfold frs;rw[List.filterMap_cons,hf];exact zVb _ hb)) hr⟩
 exact all X.outer (λ_ hb=>hb) I.ok.funs
theorem Inv.stack (I:Inv X zB σ H s):s.heap.FunFrames X.base X.stack:=by
 rcases I.ok.stk with e|⟨e,hf⟩
 .rw[e];exact I.funs
 .rw[e];obtain ⟨m,hn,_⟩:=I.loc;refine .cons (by rw[I.ok.kind];decide) hf hn ?_ I.funs;exact Heap.get?_none_of_le (zVp I.ok.bsz I.ok.above)
theorem Inv.stkSub (I:Inv X zB σ H s):∀ b∈frs X.stack,b∈X.env.locals::X.fs:=λb hb=>by
 rcases I.ok.stk with e|⟨e,hf⟩
 .rw[e]at hb;exact zVb _ hb
 .rw[e]at hb;unfold frs at hb;rw[List.filterMap_cons,hf]at hb;exact hb
theorem Inv.stkFree (I:Inv X zB σ H s):∀ b∈frs X.stack,H b=none:=λb hb=>by
 rcases zVa.mp (I.stkSub b hb)with e|hb
 .rw[e];exact I.free
 .obtain ⟨_,o,ho,_⟩:=I.ok.funs.mem hb;exact I.base.free b o ho (I.ok.frf b hb) λz=>I.ok.exfs b z hb
theorem Inv.step {g':Array GenState} {t':Nat} {d':Drawn} {ch:Yg} (I:Inv X zB σ H s)
  (hch:∀ b∈ch,(b∈X.ex\/X.s₀.heap.objs.size<=b)/\b≠X.env.locals/\(∀ x c,X.env.cells.lookup x=some c->c≠b) /\ ∀ p∈X.pn++zB,p.1≠b)
  (keep:∀ b o,b≠X.env.locals->b∉X.fs->b∉ch->s.heap.get? b=some o->H b=none->h'.get? b=some o)
  (slot:∀ b o,b≠X.env.locals->b∈X.fs->b∉ch->s.heap.get? b=some o->H b=none -> ∃ sl,h'.get? b=some { o with slots:=sl }) (free:∀ b o,b∉ch->s.heap.get? b=some o->H b=none->H' b=none)
  (there:∀ b o,b∉ch->s.heap.get? b=some o -> ∃ o',h'.get? b=some o')
  (tups:∀ b xs,H b=some (.tup xs)->H' b=some (.tup xs)) (frzs:∀ b o u,H b=some (.frz o u)->H' b=some (.frz o u)) (tbls:∀ b ps,H b=some (.tbl ps) -> ∃ more,H' b=some (.tbl (ps++more)))
  (ns:∀ m,s.heap.Ns X.env.locals m->h'.Ns X.env.locals m) (hok:HOk X.prog X.w H' h') (hg:AllBare g') :
  Inv X zB σ H' { s with heap:=h',gens:=g',drawn:=d',toks:=t' }:=by
 have neL:∀ b o,X.s₀.heap.get? b=some o->b≠X.env.locals:=λb o e=>zVj (zVn (zVZ e) I.ok.above);have neC:∀ b o,X.s₀.heap.get? b=some o->b∉X.ex->b∉ch:=λb o e hx hb=>by
  rcases (hch b hb).1 with z|z
  .exact hx z
  .exact absurd (zVn (zVZ e) z) (zV6 _)
 have cellK:∀ x c,X.env.cells.lookup x=some c -> ∀ v,s.heap.IsCell c v->h'.IsCell c v:=λx c e v ⟨o,ho,hd⟩=>by
  have nch:c∉ch:=λz=>(hch c z).2.2.1 x c e rfl;by_cases hc:c∈X.fs
  .obtain ⟨sl,q⟩:=slot c o (I.cne x c e) hc nch ho (I.freeC x c e);exact ⟨_,q,hd⟩
  .exact ⟨o,keep c o (I.cne x c e) hc nch ho (I.freeC x c e),hd⟩
 refine ⟨I.ok,I.os,hg,⟨λb o e n hb hx=>?_,λb o e n hb hx=>?_,λb o e n hx=>?_,λb o e hx=>?_,λb xs e=>tups b xs (I.base.tups b xs e),λb o xs e=>frzs b o xs (I.base.frzs b o xs e),λb ps e=>?_⟩,?_,λx c e=>?_,?_,λx c e=>?_,λp hp=>?_,hok,I.len⟩
 .exact keep b o (neL b o e) hb (neC b o e hx) (I.base.keep b o e n hb hx) (I.base.free b o e n hx)
 .obtain ⟨sl,e1⟩:=I.base.slot b o e n hb hx;obtain ⟨sl',e2⟩:=slot b _ (neL b o e) hb (neC b o e hx) e1 (I.base.free b o e n hx);exact ⟨sl',e2⟩
 .obtain ⟨o',e1⟩:=I.base.there b o e hx;exact free b o' (neC b o e hx) e1 (I.base.free b o e n hx)
 .obtain ⟨o',e1⟩:=I.base.there b o e hx;exact there b o' (neC b o e hx) e1
 .obtain ⟨m1,e1⟩:=I.base.tbls b ps e;obtain ⟨m2,e2⟩:=tbls b _ e1;exact ⟨m1++m2,by rw[e2,Array.append_assoc]⟩
 .obtain ⟨m,hn,hl⟩:=I.loc;refine ⟨m,ns m hn,λi x v e1 e2 e3=>?_⟩;obtain ⟨u,r,l⟩:=hl i x v e1 e2 e3;refine ⟨u,r,?_⟩;rcases l with l|⟨k,c,e,z⟩
  .exact .inl l
  .exact .inr ⟨k,c,e,cellK x c e _ z⟩
 .obtain ⟨v,z⟩:=I.cell x c e;exact ⟨v,cellK x c e v z⟩
 .obtain ⟨m,⟨o,_,_,ho,_⟩,_⟩:=I.loc;exact free _ o (λz=>(hch _ z).2.1 rfl) ho I.free
 .obtain ⟨v,o,ho,hd⟩:=I.cell x c e;exact free c o (λz=>(hch c z).2.2.1 x c e rfl) ho (I.freeC x c e)
 .obtain ⟨e,n,ne,nf,d⟩:=I.pin p hp;have nch:p.1∉ch:=λz=>(hch p.1 z).2.2.2 p hp rfl;exact ⟨keep p.1 p.2 ne nf nch e n,free p.1 p.2 nch e n,ne,nf,d⟩
theorem Inv.un {t':Nat} (I:Inv X zB σ H s) (u:Un X.fs [] H H' s.heap h') (hok:HOk X.prog X.w H' h'):Inv X zB σ H' { s with heap:=h',toks:=t' }:=by
 obtain ⟨m,⟨o,es,ep,ho,r⟩,_⟩:=id I.loc;obtain ⟨sl,hL⟩:=u.any ho I.free (by simp);exact I.step (g':=s.gens) (d':=s.drawn) (ch:=[]) (λ_ z=>nomatch z) (λb o _ hb _ e n=>u.keep b o e n hb (by simp)) (λb o _ hb _ e n=>u.slot b o e n hb (by simp)) (λb o _ e n=>u.free b o e n (by simp)) (λb o _ e=>u.there b o e (by simp)) u.tups u.frzs u.tbls (λm' hm=>by
  obtain ⟨o',es',ep',ho',r'⟩:=hm;rw[ho]at ho';cases ho';exact ⟨_,es',ep',hL,r'⟩) hok I.bare
theorem Inv.call {g':Array GenState} {t':Nat} {d':Drawn} {ch:Yg} (I:Inv X zB σ H s) (u:Un (frs X.stack) ch H H' s.heap h') (hok:HOk X.prog X.w H' h') (hg:AllBare g')
  (hch:∀ b∈ch,(b∈X.ex\/X.s₀.heap.objs.size<=b)/\b≠X.env.locals/\(∀ x c,X.env.cells.lookup x=some c->c≠b) /\ ∀ p∈X.pn++zB,p.1≠b) :
  Inv X zB σ H' { s with heap:=h',gens:=g',drawn:=d',toks:=t' }:=by
 obtain ⟨m,⟨o,es,ep,ho,r⟩,_⟩:=id I.loc;obtain ⟨sl,hL⟩:=u.any ho I.free λz=>(hch _ z).2.1 rfl;exact I.step (ch:=ch) hch (λb o hL hb hc e n=>u.keep b o e n (λz=>(zVa.mp (I.stkSub b z)).elim hL hb) hc) (λb o _ _ hc e n=>u.any e n hc) (λb o hc e n=>u.free b o e n hc) (λb o hc e=>u.there b o e hc) u.tups u.frzs u.tbls (λm' hm=>by
  obtain ⟨o',es',ep',ho',r'⟩:=hm;rw[ho]at ho';cases ho';exact ⟨_,es',ep',hL,r'⟩) hok hg
theorem Inv.turned {t':Nat} {it:Yt} (I:Inv X zB σ H s) (k:∀ b o,b≠it->s.heap.get? b=some o->h'.get? b=some o) (hn:H it=none) (hL:it≠X.env.locals)
  (h1:it∈X.ex\/X.s₀.heap.objs.size<=it) (h2:∀ x c,X.env.cells.lookup x=some c->c≠it) (h3:∀ p∈X.pn++zB,p.1≠it):Inv X zB σ H { s with heap:=h',toks:=t' }:=by
 have nit:∀ b u,H b=some u->b≠it:=λb u e z=>by rw[z,hn]at e;cases e
 refine I.step (g':=s.gens) (d':=s.drawn) (ch:=[it]) (λb hb=>?_) (λb o _ _ hc e _=>k b o (λz=>hc (by simp[z])) e) (λb o _ _ hc e _=>⟨o.slots,k b o (λz=>hc (by simp[z])) e⟩) (λ_ _ _ _ n=>n)
  (λb o hc e=>⟨o,k b o (λz=>hc (by simp[z])) e⟩) (λ_ _ e=>e) (λ_ _ _ e=>e) (λb ps e=>⟨#[],by rw[e];simp⟩) (λm hm=>?_) (λb u e=>?_) I.bare
 .have e:b=it:=by simpa using hb
  subst e;exact ⟨h1,hL,h2,h3⟩
 .obtain ⟨o,es,ep,ho,r⟩:=hm;exact ⟨o,es,ep,k _ o (Ne.symm hL) ho,r⟩
 .refine (I.hok b u e).stay (λc v hc q=>k c v ?_ q) (λ_ q=>q) λ_ _ q=>q;rcases hc with z|z
  .rw[z];exact nit b u e
  .exact nit c _ z
theorem Inv.tok (I:Inv X zB σ H s) (t:Nat):Inv X zB σ H { s with toks:=t }:=I.un (h':=s.heap) (t':=t) Un.refl I.hok
theorem Inv.kept {t':Nat} (I:Inv X zB σ H s) (k:∀ b u,s.heap.get? b=some u->h'.get? b=some u):Inv X zB σ H { s with heap:=h',toks:=t' }:=I.un (Un.kept k) (I.hok.kept k)
theorem Inv.laid {a:Yt} {o:HO} {t':Nat} (I:Inv X zB σ H s) (k:∀ b u,s.heap.get? b=some u->h'.get? b=some u) (hp:s.heap.objs.size<=a) (new:zAT X.prog X.w (upd H a o) h' a o) :
  Inv X zB σ (upd H a o) { s with heap:=h',toks:=t' }:=I.un (Un.laid k hp (I.hok.fresh hp)) (I.hok.laid k hp new)
theorem Inv.write {x e:Yt} {o:HO} {t':Nat} (I:Inv X zB σ H s) (mu:Mut (H x)) (he:e=x\/H e=some (.own x)) (k:∀ b u,b≠e->s.heap.get? b=some u->h'.get? b=some u) (heo:∃ u,h'.get? e=some u)
  (new:zAT X.prog X.w (upd H x o) h' x o):Inv X zB σ (upd H x o) { s with heap:=h',toks:=t' }:=I.un (Un.write mu he k heo) (I.hok.write mu he k heo new)
theorem Inv.weak {σ':List (Option V)} (I:Inv X zB σ H s) (hl:σ'.length=σ.length) (w:∀ (i:Nat) v,σ'[i]?=some (some v)->σ[i]?=some (some v)):Inv X zB σ' H s :=
 ⟨I.ok,I.os,I.bare,I.base,let ⟨m,hn,hl'⟩:=I.loc;⟨m,hn,λi x v e1 e2 e3=>hl' i x v e1 (w i v e2) e3⟩,I.cell,I.free,I.freeC,I.pin,I.hok,hl.trans I.len⟩
theorem Inv.pins_of {pins':Yd} (I:Inv X zB σ H s) (h:∀ p∈pins',s.heap.get? p.1=some p.2/\H p.1=none/\p.1≠X.env.locals/\p.1∉X.fs /\ ∀ v,p.2.data≠.cell v):Inv X pins' σ H s :=
 ⟨I.ok,I.os,I.bare,I.base,I.loc,I.cell,I.free,I.freeC,λp hp=>(zVo.mp hp).elim (λz=>I.pin p (zWd _ z)) (h p),I.hok,I.len⟩
theorem zJQ {N:Yk} (hN:N.Nodup) {i j:Nat} {x:Str} (a:N[i]?=some x) (b:N[j]?=some x):i=j:=by
 obtain ⟨h1,e1⟩:=zVR.mp a;obtain ⟨h2,e2⟩:=zVR.mp b;exact (List.getElem_inj hN).mp (e1.trans e2.symm)
theorem zNE {M:Model} {A:Yn} {E:Yc} {i:Nat} {x:Str} {v:V} {u:Yu} {Q:Unit->Shared->Prop} (I:Inv X zB σ H s) (hN:X.N.Nodup) (hi:X.N[i]?=some x) (hx:Loc X.env.scope x) (r:zn v u)
  (h:∀ s',Inv X zB (σ.set i (some v)) H s'->(∃ a,Heap.SameBut a s.heap s'.heap/\(a=X.env.locals\/X.env.cells.lookup x=some a))->Q () s') (hf:X.fn x=true\/X.env.scope.names.lookup x=some .local:=by first|exact .inl rfl|exact .inr rfl|assumption):wpAny M A (storeName X.env x u) Q E s:=by
 obtain ⟨m,hn,hl⟩:=id I.loc;have hcls:(X.env.scope.kind == .class||(X.env.scope.kind == .module&&X.env.locals != X.env.globals))=false:=by rw[I.ok.kind];rfl
 have hiσ:i<σ.length:=by rw[I.len];exact (zVR.mp hi).1
 have cne:=I.cne;have tracked:∀ {a:Yt} {h':Heap},(∃ o,s.heap.get? a=some o/\H a=none)->Heap.SameBut a s.heap h'->HOk X.prog X.w H h':=λ{a h'} ha hs b ob e=>by
  obtain ⟨_,_,hfree⟩:=ha;refine (I.hok b ob e).stay (λc w' hc q=>(hs.2 c ?_).trans q) (λ_ q=>q) λ_ _ q=>q;rintro rfl;rcases hc with rfl|hc
  .rw[hfree]at e;cases e
  .rw[hfree]at hc;cases hc
 rcases hx with hk|hk
 .refine wpAny_storeName_local hk hn (λh' hn' hs=>?_) hcls;obtain ⟨oL,_,_,hoL,_⟩:=id hn;refine h _ ⟨I.ok,I.os,I.bare,⟨λb o e n hb hx=>?_,λb o e n hb hx=>?_,I.base.free,λb o e hx=>?_,I.base.tups,I.base.frzs,I.base.tbls⟩,⟨_,hn',λj y v' e1 e2 e3=>?_⟩,λy c e=>?_,I.free,I.freeC,λp hp=>?_,tracked ⟨oL,hoL,I.free⟩ hs,by simpa using I.len⟩ ⟨_,hs,.inl rfl⟩
  .exact (hs.2 b (zVj (zVn (zVZ e) I.ok.above))).trans (I.base.keep b o e n hb hx)
  .obtain ⟨sl,e1⟩:=I.base.slot b o e n hb hx;exact ⟨sl,(hs.2 b (zVj (zVn (zVZ e) I.ok.above))).trans e1⟩
  .obtain ⟨o',e1⟩:=I.base.there b o e hx;exact ⟨o',(hs.2 b (zVj (zVn (zVZ e) I.ok.above))).trans e1⟩
  .by_cases hj:j=i
   .subst hj;rw[hi]at e1;cases e1;rw[zWI hiσ]at e2;cases e2;exact ⟨u,r,.inl ⟨hk,by simp⟩⟩
   .rw[zVs (Ne.symm hj)]at e2;obtain ⟨u',r',q⟩:=hl j y v' e1 e2 e3;refine ⟨u',r',?_⟩;rcases q with ⟨k,e⟩|⟨k,c,e,z⟩
    .refine .inl ⟨k,?_⟩;have:y≠x:=λe=>hj (zJQ hN e1 (e▸hi));simp[this,e]
    .exact .inr ⟨k,c,e,z.sameBut hs (cne y c e)⟩
  .obtain ⟨w',z⟩:=I.cell y c e;exact ⟨w',z.sameBut hs (cne y c e)⟩
  .obtain ⟨e,n,ne,nf,d⟩:=I.pin p hp;exact ⟨(hs.2 p.1 ne).trans e,n,ne,nf,d⟩
 .have hfn:X.fn x=true:=by
   rcases hf with z|z
   .exact z
   .rw[z]at hk;cases hk
  obtain ⟨c,hc⟩:=I.ok.has x (.inl hk);obtain ⟨w',z⟩:=I.cell x c hc;refine wpAny_storeName_cell I.ok.kind hk hc z (λh' hc' hs=>?_);obtain ⟨oc,hoc,hocd⟩:=id z;refine h { s with heap:=h' } ⟨I.ok,I.os,I.bare,⟨λb o e n hb hx=>?_,λb o e n hb hx=>?_,I.base.free,λb o e hx=>?_,I.base.tups,I.base.frzs,I.base.tbls⟩,⟨m,hn.sameBut hs (Ne.symm (cne x c hc)),λj y v' e1 e2 e3=>?_⟩,λy c' e=>?_,I.free,I.freeC,λp hp=>?_,tracked ⟨oc,hoc,I.freeC x c hc⟩ hs,by simpa using I.len⟩ ⟨c,hs,.inr hc⟩
  .exact (hs.2 b (zVj (zVn (zVZ e) (I.ok.cab x c hfn hc)))).trans (I.base.keep b o e n hb hx)
  .obtain ⟨sl,e1⟩:=I.base.slot b o e n hb hx;exact ⟨sl,(hs.2 b (zVj (zVn (zVZ e) (I.ok.cab x c hfn hc)))).trans e1⟩
  .obtain ⟨o',e1⟩:=I.base.there b o e hx;exact ⟨o',(hs.2 b (zVj (zVn (zVZ e) (I.ok.cab x c hfn hc)))).trans e1⟩
  .by_cases hj:j=i
   .subst hj;rw[hi]at e1;cases e1;rw[zWI hiσ]at e2;cases e2;exact ⟨u,r,.inr ⟨.inl hk,c,hc,hc'⟩⟩
   .rw[zVs (Ne.symm hj)]at e2;obtain ⟨u',r',q⟩:=hl j y v' e1 e2 e3;refine ⟨u',r',?_⟩;rcases q with q|⟨k,c',e,z'⟩
    .exact .inl q
    .refine .inr ⟨k,c',e,z'.sameBut hs ?_⟩;rintro rfl;exact hj (zJQ hN e1 (I.ok.inj _ _ _ e hc▸hi))
  .by_cases hcc:c'=c
   .subst hcc;exact ⟨_,hc'⟩
   .obtain ⟨w2,z2⟩:=I.cell y c' e;exact ⟨w2,z2.sameBut hs hcc⟩
  .obtain ⟨e,n,ne,nf,d⟩:=I.pin p hp;refine ⟨(hs.2 p.1 ?_).trans e,n,ne,nf,d⟩;intro q;rw[q,hoc]at e;have q':oc=p.2:=zWO e;exact d w' (by rw[<-q'];exact hocd)
theorem zJf {M:Model} {A:Yn} {E:Yc} {i:Nat} {x:Str} {v:V} {u:Yu} {Q:Unit->Shared->Prop} (I:Inv X zB σ H s) (hN:X.N.Nodup) (hi:X.N[i]?=some x) (hx:Loc X.env.scope x) (r:zn v u)
  (h:∀ s',Inv X zB (σ.set i (some v)) H s'->Q () s') (hf:X.fn x=true\/X.env.scope.names.lookup x=some .local:=by first|exact .inl rfl|exact .inr rfl|assumption):wpAny M A (storeName X.env x u) Q E s :=
 zNE I hN hi hx r (λs' I' _=>h s' I') hf
theorem Inv.call' {s':Yl} {ch:Yg} (I:Inv X zB σ H s) (ho:s'.os=s.os) (u:Un (frs X.stack) ch H H' s.heap s'.heap) (hok:HOk X.prog X.w H' s'.heap) (hg:AllBare s'.gens)
  (hch:∀ b∈ch,(b∈X.ex\/X.s₀.heap.objs.size<=b)/\b≠X.env.locals/\(∀ x c,X.env.cells.lookup x=some c->c≠b) /\ ∀ p∈X.pn++zB,p.1≠b):Inv X zB σ H' s':=by
 obtain ⟨h',g',d',t',o'⟩:=s';have e:o'=s.os:=ho;subst e;exact I.call (g':=g') (t':=t') (d':=d') u hok hg hch
end
abbrev XK:=Value->Option Addr->Hp->Prop
abbrev St:=List (Option V)
abbrev VK:=V->Hp->Prop
abbrev TE:=St->Hp->VK->Prop
abbrev TT:=St->Hp->(Bool->Hp->Prop)->Prop
abbrev TA:=St->Hp->(List V->Hp->Prop)->Prop
structure Ends where
 nx:St->Hp->Prop
 rt:VK
 bk:St->Hp->Prop:=λ_ _=>False
 ct:St->Hp->Prop:=λ_ _=>False
abbrev TS:=Ends->St->Hp->Prop
def EP (X:Cx) (zB:Yd) (σ:St) (Q:VK) (u:Yu) (s':Yl):Prop:=∃ v H',Inv X zB σ H' s'/\zn v u/\Q v H'
def TP (X:Cx) (zB:Yd) (σ:St) (Q:Bool->Hp->Prop) (b:Bool) (s':Yl):Prop:=∃ H',Inv X zB σ H' s'/\Q b H'
def AP (X:Cx) (zB:Yd) (σ:St) (Q:List V->Hp->Prop) (us:Yf) (s':Yl):Prop:=∃ vs H',Inv X zB σ H' s'/\zZ vs us/\Q vs H'
def SP (X:Cx) (zB:Yd) (D:Ends) (f:Flow) (s':Yl):Prop :=
 match f with
 |.next=>∃ σ' H',Inv X zB σ' H' s'/\D.nx σ' H'
 |.brk=>∃ σ' H',Inv X zB σ' H' s'/\D.bk σ' H'
 |.cont=>∃ σ' H',Inv X zB σ' H' s'/\D.ct σ' H'
 |.ret u=>∃ v σ' H',Inv X zB σ' H' s'/\zn v u/\D.rt v H'
def PE (X:Cx) (e:Expr) (t:TE):Prop :=
 ∀ (zB:Yd) (s:Yl) (σ:St) (H:Hp) (Q:VK),Inv X zB σ H s->t σ H Q->wpAny (model X.prog X.w) X.A (eval e X.env) (EP X zB σ Q) X.xe s
def PT (X:Cx) (e:Expr) (t:TT):Prop :=
 ∀ (zB:Yd) (s:Yl) (σ:St) (H:Hp) (Q:Bool->Hp->Prop),Inv X zB σ H s->t σ H Q->wpAny (model X.prog X.w) X.A (isTrue e X.env (eval e X.env)) (TP X zB σ Q) X.xe s
def PW (X:Cx) (e:Expr) (t:TT):Prop :=
 ∀ (whole:Sem Value) (zB:Yd) (s:Yl) (σ:St) (H:Hp) (Q:Bool->Hp->Prop),Inv X zB σ H s->t σ H Q->wpAny (model X.prog X.w) X.A (isTrue e X.env whole) (TP X zB σ Q) X.xe s
theorem PW.pt {X:Cx} {e:Expr} {t:TT} (h:PW X e t):PT X e t:=h _
def PA (X:Cx) (es:Yi) (t:TA):Prop :=
 ∀ (pos:Pos) (zB:Yd) (s:Yl) (σ:St) (H:Hp) (Q:List V->Hp->Prop),Inv X zB σ H s->t σ H Q->wpAny (model X.prog X.w) X.A (spliced (backTo pos (starEach es X.env))) (AP X zB σ Q) X.xe s
def PS (X:Cx) (st:Stmt) (t:TS):Prop :=
 ∀ (zB:Yd) (s:Yl) (σ:St) (H:Hp) (D:Ends),Inv X zB σ H s->t D σ H->wpAny (model X.prog X.w) X.A (exec st X.env) (SP X zB D) X.xe s
def PSs (X:Cx) (st:Yy) (t:TS):Prop :=
 ∀ (zB:Yd) (s:Yl) (σ:St) (H:Hp) (D:Ends),Inv X zB σ H s->t D σ H->wpAny (model X.prog X.w) X.A (execs st X.env) (SP X zB D) X.xe s
theorem thn {α:Type} {t:Sem α} {Q Q':α->Shared->Prop} {M:Model} {A:Yn} {E:Yc} {s:Yl} (h:wpAny M A t Q E s) (hQ:∀ a s,Q a s->Q' a s):wpAny M A t Q' E s:=zVu h hQ λ_ _ x=>x
section
variable {X:Cx}
def zRx (i:Nat):TE:=λσ H Q=>∃ v,σ[i]?=some (some v)/\Q v H
def tC (v:V):TE:=λ_ H Q=>Q v H
theorem zSr {i:Nat} {x:Str} {pos:Pos} (hN:X.N[i]?=some x) (hv:Vis X.env.scope x) (hd:(x==("__debug__" : Str))=false:=by decide) (hcd:(x==("__classdict__" : Str))=false:=by decide):PE X (.Name x pos) (zRx i):=by
 intro zB s σ H Q I h;obtain ⟨v,e,h⟩:=h;obtain ⟨m,hn,hl⟩:=I.loc;obtain ⟨u,r,l⟩:=hl i x v hN e hv;have fin:EP X zB σ Q u s:=⟨v,H,I,r,h⟩;rcases l with ⟨hk,hm⟩|⟨hk,c,hc,hcell⟩
 .exact wpAny_Name (wpAny_loadName_local I.ok.kind hk hn hm fin) hd
 .rcases hk with hk|hk
  .exact wpAny_Name (wpAny_loadName_cell I.ok.kind hk hc hcell fin) hd
  .exact wpAny_Name (wpAny_loadName_free I.ok.kind hk hc hcell fin hcd) hd
theorem zSS {i j pos}:PE X (.Constant (.int i) j pos) (tC (.int i)):=λ_ _ _ H _ I h=>wpAny_Constant_int ⟨.int i,H,I.tok _,⟨_,rfl⟩,h⟩
theorem zTk {b j pos}:PE X (.Constant (.bool b) j pos) (tC (.bl b)):=λ_ _ _ H _ I h=>Constant_bool ⟨.bl b,H,I,rfl,h⟩
theorem zSZ {j pos}:PE X (.Constant .none j pos) (tC .non):=λ_ _ _ H _ I h=>Constant_none ⟨.non,H,I,rfl,h⟩
def Gl (X:Cx) (x:Str):Prop:=X.env.kindOf x=some .globalImplicit
theorem zQA {E:Yc} {zB:Yd} {s:Yl} {σ:St} {H:Hp} {x:Str} {u:Yu} {pos:Pos} {Q:Yc} (I:Inv X zB σ H s) (hg:Gl X x) (hm:X.mg x=some u) (h:Q u s)
  (hd:(x==("__debug__" : Str))=false:=by decide):wpAny (model X.prog X.w) X.A (eval (.Name x pos) X.env) Q E s :=
 Calls.Name_function_global I.ok.kind hg (Calls.loadGlobal_global (by rw[I.ok.glob];exact I.mod.glob.keeps I.bk) hm h) hd
theorem zD7 {E:Yc} {zB:Yd} {s:Yl} {σ:St} {H:Hp} {x:Str} {u:Yu} {pos:Pos} {Q:Yc} (I:Inv X zB σ H s) (hg:Gl X x) (hm:X.mg x=none) (hv:bootBuiltins x=some u) (h:Q u s)
  (hn:x ≠ "__name__" := by decide) (hd:(x==("__debug__" : Str))=false:=by decide):wpAny (model X.prog X.w) X.A (eval (.Name x pos) X.env) Q E s:=by
 obtain ⟨mb,h1,h2⟩:=I.mod.blt;exact Calls.Name_function_global I.ok.kind hg (Calls.loadGlobal_builtin (by rw[I.ok.glob];exact I.mod.glob.keeps I.bk) hm (by rw[I.ok.blt];exact h1.keeps I.bk) ((h2 x hn).trans hv) h) hd
variable {a b:Expr} {ta tb:TE} {pos:Pos}
def PC (X:Cx) (op:CmpOp) (a b:Expr) (t:TE):Prop :=
 ∀ (zB:Yd) (s:Yl) (σ:St) (H:Hp) (Q:VK),Inv X zB σ H s->t σ H Q ->
  wpAny (model X.prog X.w) X.A (eval a X.env) (λv s₁=>wpAny (model X.prog X.w) X.A (eval b X.env) (λu s₂=>wpAny (model X.prog X.w) X.A (compareOp op v u) (EP X zB σ Q) X.xe s₂) X.xe s₁) X.xe s
def tB (t:TE):TT:=λσ H Q=>t σ H λx H1=>∃ c,x=.bl c/\Q c H1
theorem zOj {op:CmpOp} {t:TE} (h:PC X op a b t) (h1:behindInMarks op b=false:=by first|exact nobehind _ (by decide) (by decide)|rfl):PT X (.Compare a [op] [b] pos) (tB t):=by
 intro zB s σ H Q I hw;refine wpAny_isTrue_Compare1 (thn (h zB s σ H _ I hw) λv s1 h1=>thn h1 λu s2 h2=>thn h2 λc s3 ⟨x,H1,I1,r1,q1⟩=>?_) h1;obtain ⟨d,rfl,q⟩:=q1;cases r1;exact wpAny_truthy_bool ⟨H1,I1,q⟩
variable {tA tB':TT} {rest:Yi}
def zU1 (t u:TT):TT:=λσ H Q=>t σ H λc H1=>if c=true then u σ H1 Q else Q false H1
def tOr (t u:TT):TT:=λσ H Q=>t σ H λc H1=>if c=true then Q true H1 else u σ H1 Q
theorem zQL (ha:PT X a tA):PW X (.BoolOp .And [a] pos) tA:=by
 intro wh zB s σ H Q I h;refine isTrue_and (thn (ha zB s σ H Q I h) λc s1 e=>?_);cases c with
 |true=>exact isTrue_and_nil e
 |false=>exact e
theorem zSc (ha:PT X a tA):PW X (.BoolOp .Or [a] pos) tA:=by
 intro wh zB s σ H Q I h;refine isTrue_or (thn (ha zB s σ H Q I h) λc s1 e=>?_);cases c with
 |false=>exact isTrue_or_nil e
 |true=>exact e
theorem zSu (ha:PT X a tA) (hb:PW X (.BoolOp .And (b::rest) pos) tB'):PW X (.BoolOp .And (a::b::rest) pos) (zU1 tA tB'):=by
 intro wh zB s σ H Q I h;refine isTrue_and (thn (ha zB s σ H _ I h) λc s1 ⟨H1,I1,q1⟩=>?_);cases c with
 |true=>exact hb wh zB s1 σ H1 Q I1 q1
 |false=>exact ⟨H1,I1,q1⟩
theorem zUW (ha:PT X a tA) (hb:PW X (.BoolOp .Or (b::rest) pos) tB'):PW X (.BoolOp .Or (a::b::rest) pos) (tOr tA tB'):=by
 intro wh zB s σ H Q I h;refine isTrue_or (thn (ha zB s σ H _ I h) λc s1 ⟨H1,I1,q1⟩=>?_);cases c with
 |true=>exact ⟨H1,I1,q1⟩
 |false=>exact hb wh zB s1 σ H1 Q I1 q1
def tIf (t:TT) (ta tb:TE):TE:=λσ H Q=>t σ H λc H1=>if c=true then ta σ H1 Q else tb σ H1 Q
theorem zPz {c:Expr} (hc:PT X c tA) (ha:PE X a ta) (hb:PE X b tb):PE X (.IfExp c a b pos) (tIf tA ta tb):=by
 intro zB s σ H Q I h;refine wpAny_IfExp (thn (hc zB s σ H _ I h) λd s1 ⟨H1,I1,q1⟩=>?_);cases d with
 |true=>exact ha zB s1 σ H1 Q I1 q1
 |false=>exact hb zB s1 σ H1 Q I1 q1
end
def SqL (K:Yb) (H:Hp) (a:Yt) (xs:List V):Prop :=
 Rd H a (.lst xs) \/
  ∃ (o:Obj) (its:Array Value) (n:Nat),K.lookup a=some o/\o.cls=.type "list" /\ o.dict=none/\o.data=.seq its n/\its.size<=sizeLine/\zZ xs its.toList
def SqT (K:Yb) (H:Hp) (a:Yt) (xs:List V):Prop :=
 Rd H a (.tup xs) \/
  ∃ (o:Obj) (its:Array Value) (n:Nat),K.lookup a=some o/\o.cls=.type "tuple" /\ o.data=.seq its n/\its.size<=sizeLine/\zZ xs its.toList
def zVN:Value->Option V
 |.none=>some .non
 |.bool b=>some (.bl b)
 |.int i _=>some (.int i)
 |.str x _=>some (.str x)
 |.bytes b _=>some (.byt b)
 |.float b _=>some (.flt b)
 |.ref a=>some (.ref a)
 |.type n=>some (.ty n)
 |_=>none
theorem zn.abs {x:V} {u:Yu} (r:zn x u):zVN u=some x:=by
 cases x with
 |non=>cases r;rfl
 |bl _=>cases r;rfl
 |int _=>obtain ⟨t,rfl⟩:=r;rfl
 |str _=>obtain ⟨t,rfl⟩:=r;rfl
 |byt _=>obtain ⟨t,rfl⟩:=r;rfl
 |flt _=>obtain ⟨t,rfl⟩:=r;rfl
 |ref _=>cases r;rfl
 |ty _=>cases r;rfl
theorem zn.inj {x y:V} {u:Yu} (r:zn x u) (q:zn y u):x=y:=zWO (r.abs.symm.trans q.abs)
theorem zZ.inj:∀ {xs ys:List V} {us:Yf},zZ xs us->zZ ys us->xs=ys
 |_,_,_,.nil,.nil=>rfl
 |_,_,_,.cons r t,.cons r' t'=>by rw[r.inj r',zZ.inj t t']
section
variable {X:Cx} {zB:Yd} {σ:St} {H:Hp} {s:Yl} {a:Yt} {xs ys:List V}
theorem SqL.of {K:Yb} (h:H a=some (.lst xs)):SqL K H a xs:=.inl (.inl h)
theorem SqT.of {K:Yb} (h:H a=some (.tup xs)):SqT K H a xs:=.inl (.inl h)
theorem Inv.list (I:Inv X zB σ H s) (h:SqL X.K H a xs):∃ its:List Value,zZ xs its/\PlainL s.heap a its.toArray/\xs.length<=sizeLine:=by
 rcases h with h|⟨o,its,n,hk,hc,hd,hs,hz,r⟩
 .obtain ⟨z,its,n,r,e⟩:=h.ok I.hok;exact ⟨its,r,⟨_,n,e,rfl,rfl,rfl⟩,z⟩
 .refine ⟨its.toList,r,⟨o,n,I.kIn a o hk,hc,hd,by simpa using hs⟩,?_⟩;have e:=r.length;simp only[zV7]at e;omega
theorem Inv.tuple (I:Inv X zB σ H s) (h:SqT X.K H a xs):∃ its:List Value,zZ xs its/\IsTup s.heap a its.toArray/\xs.length<=sizeLine:=by
 rcases h with h|⟨o,its,n,hk,hc,hs,hz,r⟩
 .obtain ⟨z,its,r,p⟩:=h.ok I.hok;exact ⟨its,r,p.tup,z⟩
 .refine ⟨its.toList,r,⟨o,I.kIn a o hk,hc,n,by simpa using hs⟩,?_⟩;have e:=r.length;simp only[zV7]at e;omega
theorem Inv.list_inj (I:Inv X zB σ H s) (h:SqL X.K H a xs) (h':SqL X.K H a ys):xs=ys:=by
 obtain ⟨its,r,⟨o,n,e,_,_,d⟩,_⟩:=I.list h;obtain ⟨its',r',⟨o',n',e',_,_,d'⟩,_⟩:=I.list h';rw[e]at e';cases e';rw[d]at d';injection d' with d1 _
 have:its=its':=by simpa using congrArg Array.toList d1
 subst this;exact r.inj r'
theorem Inv.tuple_inj (I:Inv X zB σ H s) (h:SqT X.K H a xs) (h':SqT X.K H a ys):xs=ys:=by
 obtain ⟨its,r,⟨o,e,_,n,d⟩,_⟩:=I.tuple h;obtain ⟨its',r',⟨o',e',_,n',d'⟩,_⟩:=I.tuple h';rw[e]at e';cases e';rw[d]at d';injection d' with d1 _
 have:its=its':=by simpa using congrArg Array.toList d1
 subst this;exact r.inj r'
end
abbrev Cx.wish (X:Cx) (E:Yc):Cx:={ X with xe:=E }
abbrev Cx.nox (X:Cx):Cx:=X.wish λ_ _=>False
theorem Cx.Ok.wish {X:Cx} (ok:X.Ok) (E:Yc):(X.wish E).Ok :=
 ⟨ok.mod,ok.kind,ok.glob,ok.blt,ok.above,ok.inj,ok.has,ok.cab,ok.hd,ok.frames,ok.stk,ok.exf,ok.bs,ok.bsz,ok.noex,ok.exfs,ok.funs,ok.frf⟩
theorem Cx.Ok.unwish {X:Cx} {E:Yc} (ok:(X.wish E).Ok):X.Ok :=
 ⟨ok.mod,ok.kind,ok.glob,ok.blt,ok.above,ok.inj,ok.has,ok.cab,ok.hd,ok.frames,ok.stk,ok.exf,ok.bs,ok.bsz,ok.noex,ok.exfs,ok.funs,ok.frf⟩
section
variable {X:Cx} {zB:Yd} {σ:St} {H:Hp} {s:Yl} {E:Yc}
theorem Inv.wish (I:Inv X zB σ H s) (E:Yc):Inv (X.wish E) zB σ H s:=⟨I.ok.wish E,I.os,I.bare,I.base,I.loc,I.cell,I.free,I.freeC,I.pin,I.hok,I.len⟩
theorem Inv.unwish (I:Inv (X.wish E) zB σ H s):Inv X zB σ H s:=⟨I.ok.unwish,I.os,I.bare,I.base,I.loc,I.cell,I.free,I.freeC,I.pin,I.hok,I.len⟩
theorem SP.unwish {D:Ends} {f:Flow} {s':Yl} (h:SP (X.wish E) zB D f s'):SP X zB D f s':=by
 cases f with
 |next=>obtain ⟨σ',H',I,q⟩:=h;exact ⟨σ',H',I.unwish,q⟩
 |brk=>obtain ⟨σ',H',I,q⟩:=h;exact ⟨σ',H',I.unwish,q⟩
 |cont=>obtain ⟨σ',H',I,q⟩:=h;exact ⟨σ',H',I.unwish,q⟩
 |ret u=>obtain ⟨v,σ',H',I,r,q⟩:=h;exact ⟨v,σ',H',I.unwish,r,q⟩
theorem PSs.nox {st:Yy} {t:TS} (h:PSs X.nox st t):PSs X st t:=λzB s σ H D I hw=>
 zVu (h zB s σ H D (I.wish _) hw) (λ_ _ q=>q.unwish) λ_ _ z=>False.elim z
end
section
variable {X:Cx} {st:Stmt} {rest:Yy} {t u:TS} {e:Expr} {te:TE} {pos:Pos}
def zTs:TS:=λD σ H=>D.nx σ H
def zU3 (t u:TS):TS:=λD σ H=>t { D with nx:=u D } σ H
theorem zRW:PSs X [] zTs:=λ_ _ σ H _ I h=>wpAny_execs_nil ⟨σ,H,I,h⟩
theorem zPm (h1:PS X st t) (h2:PSs X rest u):PSs X (st::rest) (zU3 t u):=by
 intro zB s σ H D I h;refine wpAny_execs_cons (thn (h1 zB s σ H { D with nx:=u D } I h) λf s1 q=>?_);cases f with
 |next=>
  obtain ⟨σ',H',I',q⟩:=q;exact h2 zB s1 σ' H' D I' q
 |ret v=>exact q
 |brk=>exact q
 |cont=>exact q
theorem zQX (h1:PS X st t):PSs X [st] t:=by
 intro zB s σ H D I h;refine wpAny_execs_cons (thn (h1 zB s σ H D I h) λf s1 q=>?_);cases f with
 |next=>exact wpAny_execs_nil q
 |ret v=>exact q
 |brk=>exact q
 |cont=>exact q
theorem Inv.quiet {zB:Yd} {σ:St} {H:Hp} {s:Yl} (I:Inv X zB σ H s):interactive X.env=false:=by simp[interactive,I.ok.kind]
def zUi (te:TE):TS:=λD σ H=>te σ H λ_ H1=>D.nx σ H1
theorem zRM (he:PE X e te) (hs:swapsWith e none pos.line X.env=pure false:=by rfl):PS X (.Expr e pos) (zUi te):=by
 intro zB s σ H D I h;exact wpAny_Expr_any (thn (he zB s σ H _ I h) λv s1 ⟨x,H1,I1,r1,q1⟩=>⟨σ,H1,I1,q1⟩) I.quiet hs
def zVH (te:TE):TS:=λD σ H=>te σ H D.rt
theorem zSg (he:PE X e te):PS X (.Return (some e) pos) (zVH te):=by
 intro zB s σ H D I h;exact wpAny_Return_some (thn (he zB s σ H _ I h) λv s1 ⟨x,H1,I1,r1,q1⟩=>⟨x,σ,H1,I1,r1,q1⟩)
def zVE (c:TT) (t u:TS):TS:=λD σ H=>c σ H λb H1=>if b=true then t D σ H1 else u D σ H1
theorem zT8 {c:Expr} {a b:Yy} {tc:TT} (hc:PT X c tc) (ha:PSs X a t) (hb:PSs X b u):PS X (.If c a b pos) (zVE tc t u):=by
 intro zB s σ H D I h;refine wpAny_If (thn (hc zB s σ H _ I h) λd s1 ⟨H1,I1,q1⟩=>?_);cases d with
 |true=>exact ha zB s1 σ H1 D I1 q1
 |false=>exact hb zB s1 σ H1 D I1 q1
end
abbrev TG:=V->St->Hp->(St->Hp->Prop)->Prop
abbrev TGs:=List V->St->Hp->(St->Hp->Prop)->Prop
def PG (X:Cx) (target:Expr) (t:TG):Prop :=
 ∀ (zB:Yd) (s:Yl) (σ:St) (H:Hp) (v:V) (u:Yu) (Q:St->Hp->Prop),Inv X zB σ H s->zn v u->t v σ H Q ->
  wpAny (model X.prog X.w) X.A (assign target X.env u) (λ_ s'=>∃ σ' H',Inv X zB σ' H' s'/\Q σ' H') X.xe s
def PGs (X:Cx) (ts:Yi) (t:TGs):Prop :=
 ∀ (zB:Yd) (s:Yl) (σ:St) (H:Hp) (vs:List V) (us:Yf) (Q:St->Hp->Prop),Inv X zB σ H s->zZ vs us->t vs σ H Q ->
  wpAny (model X.prog X.w) X.A (assignInOrder ((assignEach ts X.env).map (·.2)) us) (λ_ s'=>∃ σ' H',Inv X zB σ' H' s'/\Q σ' H') X.xe s
abbrev zR4:=V->V->V->Hp->(Hp->Prop)->Prop
def zTy (X:Cx) (t:zR4):Prop :=
 ∀ (zB:Yd) (s:Yl) (σ:St) (H:Hp) (o i v:V) (ov iv u:Yu) (Q:Hp->Prop),Inv X zB σ H s->zn o ov->zn i iv->zn v u->t o i v H Q ->
  wpAny (model X.prog X.w) X.A (setItem ov iv u) (λ_ s'=>∃ H',Inv X zB σ H' s'/\Q H') X.xe s
section
variable {X:Cx} {pos:Pos}
def zBS (i:Nat):TG:=λv σ H Q=>Q (σ.set i (some v)) H
theorem zIZ {i:Nat} {x:Str} (hN:X.N.Nodup) (hi:X.N[i]?=some x) (hx:Loc X.env.scope x) (hf:X.fn x=true\/X.env.scope.names.lookup x=some .local:=by first|exact .inl rfl|exact .inr rfl|assumption):PG X (.Name x pos) (zBS i):=by
 intro zB s σ H v u Q I r h;exact wpAny_assign_Name (zJf I hN hi hx r (λs' I'=>⟨_,H,I',h⟩) hf)
def zOb:TGs:=λvs σ H Q=>vs=[]/\Q σ H
def zD3 (t:TG) (u:TGs):TGs:=λvs σ H Q=>∃ v r,vs=v::r/\t v σ H λσ' H'=>u r σ' H' Q
theorem zQq:PGs X [] zOb:=by
 intro zB s σ H vs us Q I r h;obtain ⟨e,h⟩:=h;subst e;cases r;exact assignInOrder_nil ⟨σ,H,I,h⟩
theorem zPt {e:Expr} {es:Yi} {t:TG} {u:TGs} (h1:PG X e t) (h2:PGs X es u)
  (hs:(assignEach (e::es) X.env).map (·.2)=assign e X.env::(assignEach es X.env).map (·.2):=by rfl):PGs X (e::es) (zD3 t u):=by
 intro zB s σ H vs us Q I r h;obtain ⟨v,vr,e1,h⟩:=h;subst e1;cases r with
 |cons r rr=>
  rw[hs];refine assignInOrder_cons (thn (h1 zB s σ H _ _ _ I r h) λ_ s1 ⟨σ1,H1,I1,q1⟩=>?_);exact h2 zB s1 σ1 H1 _ _ Q I1 rr q1
def zOp (K:Yb) (n:Nat) (t:TGs):TG:=λv σ H Q=>∃ a xs,v=.ref a/\SqT K H a xs/\xs.length=n/\t xs σ H Q
theorem zTS {es:Yi} {k:Nat} {t:TGs} {n:Nat} (hc:X.calm=true) (h:PGs X es t)
  (hn:(assignEach es X.env).length=n:=by rfl) (hst:(assignEach es X.env).findIdx? (·.1)=none:=by rfl):PG X (.Tuple es k pos) (zOp X.K n t):=by
 intro zB s σ H v u Q I r hw;obtain ⟨a,xs,e1,hq,hl,hw⟩:=hw;subst e1;cases r;obtain ⟨its,rv,ht,hz⟩:=I.tuple hq;refine assign_Tuple_tuple (I.ok.hd hc) ht (by simp[hn,<-hl,rv.length]) hst λh' hx=>?_;have I1:Inv X zB σ H { s with heap:=h' }:=I.kept (t':=s.toks) λb o e=>hx b o (zVj (zVZ e)) e;exact h zB _ σ H xs _ Q I1 (by simpa using rv) hw
def zU7 (to ti:TE) (t:zR4):TG:=λv σ H Q=>to σ H λo H1=>ti σ H1 λi H2=>t o i v H2 λH3=>Q σ H3
theorem zSC {o i:Expr} {to ti:TE} {t:zR4} (ho:PE X o to) (hi:PE X i ti) (hs:zTy X t)
  (ha:∀ v,assign (.Subscript o i pos) X.env v=(do
   let ov <- holding [v] (eval o X.env);let iv <- holding [v,ov] (eval i X.env);standAt pos;holding [v,ov,iv] (setItem ov iv v);release [v,ov,iv] []):=by intro _;rfl):PG X (.Subscript o i pos) (zU7 to ti t):=by
 intro zB s σ H v u Q I r h;rw[ha];refine zVO (zWH (thn (ho zB s σ H _ I h) λov s1 ⟨x,H1,I1,r1,q1⟩=>?_));refine zVO (zWH (thn (hi zB s1 σ H1 _ I1 q1) λiv s2 ⟨y,H2,I2,r2,q2⟩=>?_));refine zVO (zWM (zVO (zWH (thn (hs zB s2 σ H2 x y v ov iv u _ I2 r1 r2 r q2) λ_ s3 ⟨H3,I3,q3⟩=>?_))));exact wpAny_release ⟨σ,H3,I3,q3⟩
def zOE (te:TE) (g:TG):TS:=λD σ H=>te σ H λx H1=>g x σ H1 D.nx
theorem zOB {tg e:Expr} {te:TE} {g:TG} (he:PE X e te) (hg:PG X tg g) (hs:swapsWithSole [tg] e pos.line X.env=pure false:=by rfl) (hw:swappedStores [tg] e X.env=pure none:=by rfl)
  (h1:(assignEach [tg] X.env).map (·.2)=[assign tg X.env]:=by rfl):PS X (.Assign [tg] e pos) (zOE te g):=by
 intro zB s σ H D I h;refine wpAny_Assign_stores (thn (he zB s σ H _ I h) λv s1 ⟨x,H1,I1,r1,q1⟩=>?_) hs hw;rw[h1];exact thn (hg zB s1 σ H1 x v _ I1 r1 q1) λ_ s2 q=>q
theorem zSa {i:Nat} {x:Str} {e:Expr} {te:TE} {pos':Pos} (hN:X.N.Nodup) (hi:X.N[i]?=some x) (hx:Loc X.env.scope x) (he:PE X e te) (hs:swapsWith e (some (.Name x pos')) pos.line X.env=pure false:=by rfl) (hf:X.fn x=true\/X.env.scope.names.lookup x=some .local:=by first|exact .inl rfl|exact .inr rfl|assumption) :
  PS X (.Assign [.Name x pos'] e pos) (zOE te (zBS i)):=by
 intro zB s σ H D I h;refine wpAny_Assign_Name (thn (he zB s σ H _ I h) λv s1 ⟨y,H1,I1,r1,q1⟩=>?_) hs;exact zJf I1 hN hi hx r1 (λs2 I2=>⟨_,H1,I2,q1⟩) hf
def zOJ (c:TT) (tb:TS):TS:=λD σ H=>∃ W:Nat->St->Hp->Prop,(∃ m,W m σ H) /\ ∀ m σ H,W m σ H ->
 c σ H λb H1=>if b=true then ∃ N:St->Hp->Prop,(∀ σ' H',N σ' H' -> ∃ m',m'<m/\W m' σ' H')/\tb { D with nx:=N,ct:=N,bk:=D.nx } σ H1 else D.nx σ H1
theorem zPR {c:Expr} {body:Yy} {tc:TT} {tb:TS} (hp:PassesOwn (model X.prog X.w) X.A X.env X.xe) (hc:PT X c tc) (hb:PSs X body tb):PS X (.While c body [] pos) (zOJ tc tb):=by
 intro zB s σ H D I h;obtain ⟨W,⟨m0,w0⟩,turn⟩:=h;refine wpAny_While (codeAny_whileLoop (λn s'=>∃ σ' H',Inv X zB σ' H' s'/\W n σ' H') ?_ m0 ⟨σ,H,I,w0⟩);rintro n s1 ⟨σ1,H1,I1,w1⟩;refine wpAny_passesOwn hp (thn (hc zB s1 σ1 H1 _ I1 (turn n σ1 H1 w1)) λb s2 ⟨H2,I2,q2⟩=>?_);cases b with
 |true=>
  obtain ⟨N,hN,q2⟩:=q2;rw[zVd rfl];refine wpAny_passesOwn hp (thn (hb zB s2 σ1 H2 _ I2 q2) λf s3 q3=>?_);cases f with
  |next=>
   obtain ⟨σ3,H3,I3,n3⟩:=q3;obtain ⟨m',hm,w3⟩:=hN σ3 H3 n3;exact ⟨m',hm,σ3,H3,I3,w3⟩
  |cont=>
   obtain ⟨σ3,H3,I3,n3⟩:=q3;obtain ⟨m',hm,w3⟩:=hN σ3 H3 n3;exact ⟨m',hm,σ3,H3,I3,w3⟩
  |brk=>exact q3
  |ret v=>exact q3
 |false=>
  rw[zVg zVk];exact wpAny_execs_nil ⟨σ1,H2,I2,q2⟩
end
structure It where
 go:Nat->Hp->Prop
 yld:Nat->Hp->V->Hp->Prop
 stop:Nat->Hp->Prop
def zBr (X:Cx) (zB:Yd) (H:Hp) (b:Yt):Prop :=
 H b=none/\b≠X.env.locals/\b∉X.fs/\(b∈X.ex\/X.s₀.heap.objs.size<=b)/\(∀ x c,X.env.cells.lookup x=some c->c≠b) /\ ∀ p∈X.pn++zB,p.1≠b
theorem Inv.fpOk {X:Cx} {zB:Yd} {σ:St} {H H':Hp} {s:Yl} {b:Yt} (I:Inv X zB σ H s) (hb:s.heap.objs.size<=b) (hn:H' b=none):zBr X zB H' b:=by
 refine ⟨hn,zWt (zVn I.lt hb),I.nofs hb,.inr (zVp I.sz hb),λx c e z=>?_,λp hp z=>?_⟩
 .obtain ⟨v,q⟩:=I.cell x c e;exact absurd (zVn q.lt (by rw[z];exact hb)) (zV6 _)
 .exact absurd (zVn (zVZ (I.pin p hp).1) (by rw[z];exact hb)) (zV6 _)
structure Turn (P:Ym) (w:Yo) (K:Yb) (tg:Expr) (J:It) (fp:Yg) (it:Yt) (tn:Nat->Heap->Prop):Prop where
 mem:it∈fp
 obj:∀ i h,tn i h -> ∀ b∈fp,∃ o,h.get? b=some o /\ ∀ v,o.data≠.cell v
 keep:∀ i h h',tn i h->(∀ b∈fp,∀ o,h.get? b=some o->h'.get? b=some o)->tn i h'
 item:∀ (X:Cx),X.prog=P->X.w=w->X.K=K->X.calm=true -> ∀ (i:Nat) (zB:Yd) (s:Yl) (σ:St) (H:Hp) (E:Yc),Inv X zB σ H s->(∀ b∈fp,zBr X zB H b)->tn i s.heap->J.go i H ->
  wpAny (model P w) X.A (pyNext (.ref it)) (λr s1=>∃ u,r=some u /\
   wpAny (model P w) X.A (letOwnedTupleGo tg (.ref it) u) (λ_ s2=>∃ x H',Inv X zB σ H' s2/\zn x u/\J.yld i H x H'/\tn (i+1) s2.heap /\ ∀ b∈fp,H' b=none) E s1) E s
 done:∀ (X:Cx),X.prog=P->X.w=w->X.K=K->X.calm=true -> ∀ (i:Nat) (zB:Yd) (s:Yl) (σ:St) (H:Hp) (E:Yc),Inv X zB σ H s->(∀ b∈fp,zBr X zB H b)->tn i s.heap->J.stop i H ->
  wpAny (model P w) X.A (pyNext (.ref it)) (λr s1=>r=none/\Inv X zB σ H s1) E s
 self:∀ (A:Yn) (i:Nat) (s:Yl) (Q:Yc) (E:Yc),tn i s.heap->Q (.ref it) s->wpAny (model P w) A (pyIter (.ref it)) Q E s
abbrev TI:=St->Hp->(It->Hp->Prop)->Prop
def PIE (X:Cx) (zB:Yd) (σ:St) (tg:Expr) (R:It->Hp->Prop) (itv:Yu) (s2:Yl):Prop :=
 ∃ (it:Yt) (fp:Yg) (tn:Nat->Heap->Prop) (J:It) (H':Hp),itv=.ref it/\Inv X zB σ H' s2/\Turn X.prog X.w X.K tg J fp it tn/\tn 0 s2.heap/\(∀ b∈fp,zBr X zB H' b)/\R J H'
def PI (X:Cx) (tg iter:Expr) (wi:TI):Prop :=
  ∀ (zB:Yd) (s:Yl) (σ:St) (H:Hp) (R:It->Hp->Prop),Inv X zB σ H s->wi σ H R ->
    wpAny (model X.prog X.w) X.A (eval iter X.env) (λv s1=>wpAny (model X.prog X.w) X.A (pyIter v) (PIE X zB σ tg R) X.xe s1) X.xe s
theorem zNm {M:Model} {A:Yn} {E:Yc} {s:Yl} {tg:Expr} {it:Yt} {u:Yu} {o:Obj} {n:String} {vs:Yp} {Q:Unit->Shared->Prop} (ho:s.heap.get? it=some o) (hc:o.cls=.type n) (hd:o.data=.fields vs)
    (hn:["enumerate", "zip", "dict_itemiterator", "dict_reverseitemiterator", "odict_iterator", "itertools.zip_longest", "itertools.pairwise"].contains n=false) (hQ:Q () s):wpAny M A (letOwnedTupleGo tg (.ref it) u) Q E s:=by
  unfold letOwnedTupleGo
  cases tg <;> first
    |exact zVQ hQ
    | (cases u <;> first
        |exact zVQ hQ
        | (refine zVO (wpAny_load ho ?_)
           rw[hc,hd];show wpAny M A (if (["enumerate", "zip", "dict_itemiterator", "dict_reverseitemiterator", "odict_iterator", "itertools.zip_longest", "itertools.pairwise"].contains n&&vs[0]?==some (rawInt _))=true then _ else _) Q E s;rw[zVg (by intro h;rw[hn,Bool.false_and]at h;cases h)];exact zVQ hQ))
def Itl (K:Yb) (a:Yt):It :=
 ⟨λi H=>∃ xs x,SqL K H a xs/\xs[i]?=some x,λi H x H'=>H'=H /\ ∀ xs,SqL K H a xs->xs[i]?=some x,λi H=>∃ xs,SqL K H a xs/\xs.length<=i⟩
def Itt (K:Yb) (a:Yt):It :=
 ⟨λi H=>∃ xs x,SqT K H a xs/\xs[i]?=some x,λi H x H'=>H'=H /\ ∀ xs,SqT K H a xs->xs[i]?=some x,λi H=>∃ xs,SqT K H a xs/\xs.length<=i⟩
def Itr (lo:Int) (n:Nat):It:=⟨λi _=>i<n,λi H x H'=>H'=H/\x=.int (lo+i),λi _=>n<=i⟩
theorem zMZ {P:Ym} {w:Yo} {K:Yb} {tg:Expr} (a it:Yt):Turn P w K tg (Itl K a) [it] it (λi h=>h.IsListIter it a i) where
 mem:=by simp
 obj:=λi h st b hb=>by
  have e:b=it:=by simpa using hb
  subst e;obtain ⟨o,e,c,d⟩:=st;exact ⟨o,e,λv z=>by rw[d]at z;cases z⟩
 keep:=λi h h' st k=>st.at λo e=>k it (by simp) o e;item:=by
  intro X hP hw hK hc i zB s σ H E I hf st hg;subst hP hw hK;obtain ⟨xs,x,hq,hx⟩:=hg;obtain ⟨its,rv,p,hz⟩:=I.list hq;obtain ⟨u,hu,ru⟩:=rv.get hx;obtain ⟨f0,f1,f2,f3,f4,f5⟩:=hf it (by simp);refine wpAny_pyNext_list_item st p.isList (x:=u) (by simpa using hu) λh' st' sb=>?_;have I1:Inv X zB σ H { s with heap:=h' }:=I.turned (t':=s.toks) (λb o hb e=>(sb.2 b hb).trans e) f0 f1 f3 f4 f5;obtain ⟨o,e,c,d⟩:=id st';exact ⟨u,rfl,zNm (s:={ s with heap:=h' }) e c d (by decide) ⟨x,H,I1,ru,⟨rfl,λys hy=>by rw[I.list_inj hy hq];exact hx⟩,st',λb hb=>(hf b hb).1⟩⟩
 done:=by
  intro X hP hw hK hc i zB s σ H E I hf st hg;subst hP hw hK;obtain ⟨xs,hq,hx⟩:=hg;obtain ⟨its,rv,p,hz⟩:=I.list hq;obtain ⟨f0,f1,f2,f3,f4,f5⟩:=hf it (by simp);have hl:=rv.length;exact wpAny_pyNext_list_end (I.ok.hd hc) st p.isList (by simp;omega) λh' eb=>⟨rfl,I.turned (t':=s.toks) (λb o hb e=>eb b o hb e) f0 f1 f3 f4 f5⟩
 self:=λ_ _ _ _ _ st h=>wpAny_pyIter_listiter st h
theorem zLA {P:Ym} {w:Yo} {K:Yb} {tg:Expr} (a it:Yt):Turn P w K tg (Itt K a) [it] it (λi h=>h.IsTupleIter it a i) where
 mem:=by simp
 obj:=λi h st b hb=>by
  have e:b=it:=by simpa using hb
  subst e;obtain ⟨o,e,c,d⟩:=st;exact ⟨o,e,λv z=>by rw[d]at z;cases z⟩
 keep:=λi h h' st k=>st.at λo e=>k it (by simp) o e;item:=by
  intro X hP hw hK hc i zB s σ H E I hf st hg;subst hP hw hK;obtain ⟨xs,x,hq,hx⟩:=hg;obtain ⟨its,rv,p,hz⟩:=I.tuple hq;obtain ⟨u,hu,ru⟩:=rv.get hx;obtain ⟨f0,f1,f2,f3,f4,f5⟩:=hf it (by simp);refine wpAny_pyNext_tuple_item st (show s.heap.IsTuple a its.toArray from p) (x:=u) (by simpa using hu) λh' st' sb=>?_;have I1:Inv X zB σ H { s with heap:=h' }:=I.turned (t':=s.toks) (λb o hb e=>(sb.2 b hb).trans e) f0 f1 f3 f4 f5;obtain ⟨o,e,c,d⟩:=id st';exact ⟨u,rfl,zNm (s:={ s with heap:=h' }) e c d (by decide) ⟨x,H,I1,ru,⟨rfl,λys hy=>by rw[I.tuple_inj hy hq];exact hx⟩,st',λb hb=>(hf b hb).1⟩⟩
 done:=by
  intro X hP hw hK hc i zB s σ H E I hf st hg;subst hP hw hK;obtain ⟨xs,hq,hx⟩:=hg;obtain ⟨its,rv,p,hz⟩:=I.tuple hq;obtain ⟨f0,f1,f2,f3,f4,f5⟩:=hf it (by simp);have hl:=rv.length;exact wpAny_pyNext_tuple_end (I.ok.hd hc) st (show s.heap.IsTuple a its.toArray from p) (by simp;omega) λh' eb=>⟨rfl,I.turned (t':=s.toks) (λb o hb e=>eb b o hb e) f0 f1 f3 f4 f5⟩
 self:=λ_ _ _ _ _ st h=>wpAny_pyIter_tupleiter st h
theorem zKb {P:Ym} {w:Yo} {K:Yb} {tg:Expr} (it:Yt) (lo:Int) (n:Nat):Turn P w K tg (Itr lo n) [it] it (λi h=>IsRangeIter h it (lo+(i:Nat)*1) ((n:Int)-(i:Nat)) 1) where
 mem:=by simp
 obj:=λi h st b hb=>by
  have e:b=it:=by simpa using hb
  subst e;exact ⟨_,st,λv z=>by
   have z':Data.fields _=Data.cell v:=z;cases z'⟩
 keep:=λi h h' st k=>k it (by simp) _ st;item:=by
  intro X hP hw hK hc i zB s σ H E I hf st hg;subst hP hw hK;obtain ⟨f0,f1,f2,f3,f4,f5⟩:=hf it (by simp);have W:=Walks.range (prog:=X.prog) (w:=X.w) (I.ok.hd hc) it lo 1 n;refine W.item i s _ _ hg st λv h' tk hv st' kk=>?_;obtain ⟨t,rfl⟩:=hv;have I1:Inv X zB σ H { s with heap:=h',toks:=tk }:=I.turned (λb o hb e=>kk b o (by simpa using hb) e) f0 f1 f3 f4 f5;refine ⟨_,rfl,zNm (s:={ s with heap:=h',toks:=tk }) (n := "range_iterator") st' rfl rfl (by decide) ⟨.int (lo+i),H,I1,⟨t,?_⟩,⟨rfl,rfl⟩,st',λb hb=>(hf b hb).1⟩⟩;rw[Int.mul_one]
 done:=by
  intro X hP hw hK hc i zB s σ H E I hf st hg;subst hP hw hK;obtain ⟨f0,f1,f2,f3,f4,f5⟩:=hf it (by simp);exact wpAny_pyNext_range_end (I.ok.hd hc) st (by have:n<=i:=hg;omega) λh' eb=>⟨rfl,I.turned (t':=s.toks) (λb o hb e=>eb b o hb e) f0 f1 f3 f4 f5⟩
 self:=λ_ _ _ _ _ st h=>wpAny_pyIter_rangeiter st h
section
variable {X:Cx} {tg:Expr}
theorem zPW {zB:Yd} {σ:St} {H:Hp} {s:Yl} {R:It->Hp->Prop} {E:Yc} {lo hi:Int} {t u v:Tok} {tk:Nat} (I:Inv X zB σ H s) (h1 : -(2 ^ 62)<=lo) (h2:lo<2 ^ 62) (h3 : -(2 ^ 62)<=hi) (h4:hi<2 ^ 62)
  (q:R (Itr lo (hi-lo).toNat) H):wpAny (model X.prog X.w) X.A (pyIter (.ref s.heap.objs.size)) (PIE X zB σ tg R) E { s with heap:=s.heap.push { cls:=.type "range", data:=.fields #[.int lo t,.int hi u,.int 1 v] },toks:=tk }:=by
 refine wpAny_pyIter_range (IsRange.new ..) (small_one h1 h2 h3 h4) ?_;have I1:Inv X zB σ H { s with heap:=s.heap.push { cls:=.type "range", data:=.fields #[.int lo t,.int hi u,.int 1 v] },toks:=tk }:=I.kept λb o e=>zVP _ e
 refine ⟨(s.heap.push { cls:=.type "range", data:=.fields #[.int lo t,.int hi u,.int 1 v] }).objs.size,[(s.heap.push { cls:=.type "range", data:=.fields #[.int lo t,.int hi u,.int 1 v] }).objs.size],_,_,H,rfl,
  I1.kept (t':=tk) λb o e=>zVP _ e,zKb _ lo (hi-lo).toNat,?_,λb hb=>?_,q⟩
 .have e1:lo+((0:Nat):Int)*1=lo:=by simp
  have e2:(((hi-lo).toNat:Nat):Int)-((0:Nat):Int)=Builtin.Range.rangeSize lo hi 1:=by rw[rangeSize_one];split <;> omega
  show IsRangeIter _ _ (lo+((0:Nat):Int)*1) ((((hi-lo).toNat:Nat):Int)-((0:Nat):Int)) 1;rw[e1,e2];exact zVY _ rfl
 .have e:b=(s.heap.push { cls:=.type "range", data:=.fields #[.int lo t,.int hi u,.int 1 v] }).objs.size:=by simpa using hb
  subst e;exact I1.fpOk (zVU _) (I1.hok.fresh (zVU _))
def zUe (ta:TA):TI:=λσ H R=>ta σ H λvs H1=>∃ j:Int,vs=[.int j] /\ -(2 ^ 62)<=j/\j<2 ^ 62/\R (Itr 0 j.toNat) H1
theorem zNR {a:Expr} {ta:TA} {p pos:Pos} (hg:Gl X "range") (hm:X.mg "range" = none) (ha:PA X [a] ta) (hs:starEach [a] X.env=[(false,eval a X.env)]:=by rfl):PI X tg (.Call (.Name "range" p) [a] [] pos) (zUe ta):=by
 intro zB s σ H R I h;refine Call_ (zD7 I hg hm boot_range (PyProof.Rows.callWith_type1 (thn (ha pos zB s σ H _ I h) λus s1 ⟨vs,H1,I1,r1,q1⟩=>?_) hs rfl));obtain ⟨j,e,q1,q2,q⟩:=q1;subst e;cases r1 with
 |cons r rr=>
  cases rr;obtain ⟨t,rfl⟩:=r;exact call_range_1 (zPW I1 (by omega) (by omega) q1 q2 (by simpa using q))
def zUj (wi:TI) (g:TG) (tb:TS):TS:=λD σ H=>wi σ H λJ H1=>∃ W:Nat->Nat->St->Hp->Prop,(∃ m,W 0 m σ H1) /\ ∀ i m σ H,W i m σ H ->
 (J.stop i H/\D.nx σ H)\/(J.go i H /\ ∃ N:St->Hp->Prop,(∀ σ' H',N σ' H' -> ∃ m',m'<m/\W (i+1) m' σ' H') /\ ∀ x H',J.yld i H x H'->g x σ H' λσ2 H2=>tb { D with nx:=N,ct:=N,bk:=D.nx } σ2 H2)
def zCd (fp:Yg) (h:Heap):List (Addr × Obj):=fp.filterMap λb=>(h.get? b).map λo=>(b,o)
theorem zAN {fp:Yg} {h:Heap} {b:Yt} {o:Obj} (hb:b∈fp) (e:h.get? b=some o):(b,o)∈zCd fp h:=List.mem_filterMap.mpr ⟨b,hb,by rw[e];rfl⟩
theorem zHk {fp:Yg} {h:Heap} {p:Addr × Obj} (hp:p∈zCd fp h):p.1∈fp/\h.get? p.1=some p.2:=by
 obtain ⟨b,hb,e⟩:=List.mem_filterMap.mp hp;cases q:h.get? b with
 |none=>rw[q]at e;cases e
 |some o=>
  rw[q]at e;have e':(b,o)=p:=zWO e;subst e';exact ⟨hb,q⟩
theorem Inv.pinned {zB:Yd} {σ:St} {H:Hp} {s:Yl} {fp:Yg} (I:Inv X zB σ H s) (hf:∀ b∈fp,zBr X zB H b) (ho:∀ b∈fp,∃ o,s.heap.get? b=some o /\ ∀ v,o.data≠.cell v):Inv X (zB++zCd fp s.heap) σ H s :=
 I.pins_of λp hp=>(zVo.mp hp).elim (λz=>I.pin p (zVi _ z)) λz=>by
  obtain ⟨hb,e⟩:=zHk z;obtain ⟨f0,f1,f2,_⟩:=hf p.1 hb;obtain ⟨o,e',d⟩:=ho p.1 hb;rw[e]at e';cases e';exact ⟨e,f0,f1,f2,d⟩
theorem Inv.unpinned {zB pl:Yd} {σ:St} {H:Hp} {s:Yl} (I:Inv X (zB++pl) σ H s):Inv X zB σ H s:=I.pins_of λp hp=>I.pin p (zVi _ (zWd _ hp))
theorem zTK {iter:Expr} {body:Yy} {wi:TI} {g:TG} {tb:TS} {pos:Pos} (hp:PassesOwn (model X.prog X.w) X.A X.env X.xe) (hc:X.calm=true) (hi:PI X tg iter wi) (hg:PG X tg g) (hb:PSs X body tb)
  (hs:∀ x,foldedSetIterable iter X.env x=pure x:=by intro _;rfl):PS X (.For tg iter body [] pos) (zUj wi g tb):=by
 intro zB s σ H D I h;refine wpAny_For (thn (hi zB s σ H _ I h) λv s1 h1=>thn h1 λitv s2 h2=>?_) hs;obtain ⟨it,fp,tn,J,H2,e,I2,T,st2,f2,W,⟨m0,w0⟩,turn⟩:=h2;subst e;have stat:∀ {H':Hp},(∀ b∈fp,H' b=none) -> ∀ b∈fp,zBr X zB H' b:=λhn b hb=>⟨hn b hb,(f2 b hb).2⟩;refine codeAny_forLoop_any (λn s'=>∃ i σ' H',Inv X zB σ' H' s'/\tn i s'.heap/\(∀ b∈fp,H' b=none)/\W i n σ' H') ?_ m0 ⟨0,σ,H2,I2,st2,λb hb=>(f2 b hb).1,w0⟩;rintro n s3 ⟨i,σ3,H3,I3,st3,fr3,w3⟩;rcases turn i n σ3 H3 w3 with ⟨stop,qn⟩|⟨go,N,hN,step⟩
 .refine wpAny_passesOwn hp (thn (T.done X rfl rfl rfl hc i zB s3 σ3 H3 X.xe I3 (stat fr3) st3 stop) λr s4 ⟨hr,I4⟩=>?_);subst hr;exact wpAny_execs_nil ⟨σ3,H3,I4,qn⟩
 .refine wpAny_passesOwn hp (thn (T.item X rfl rfl rfl hc i zB s3 σ3 H3 X.xe I3 (stat fr3) st3 go) λr s4 ⟨u,hr,h4⟩=>?_);subst hr;refine wpAny_passesOwn hp (thn h4 λ_ s5 ⟨x,H5,I5,r5,y5,st5,fr5⟩=>?_);have I5':=I5.pinned (stat fr5) (T.obj _ _ st5);refine wpAny_passesOwn hp (thn (hg _ s5 σ3 H5 x u _ I5' r5 (step x H5 y5)) λ_ s6 ⟨σ6,H6,I6,q6⟩=>?_);refine wpAny_passesOwn hp (thn (hb _ s6 σ6 H6 _ I6 q6) λf s7 q7=>?_);have again:∀ {σ7:St} {H7:Hp},Inv X (zB++zCd fp s5.heap) σ7 H7 s7->N σ7 H7 -> ∃ m,m<n /\ ∃ i σ' H',Inv X zB σ' H' s7/\tn i s7.heap/\(∀ b∈fp,H' b=none)/\W i m σ' H':=λ{σ7 H7} I7 n7=>by
   obtain ⟨m',hm,w7⟩:=hN σ7 H7 n7;refine ⟨m',hm,i+1,σ7,H7,I7.unpinned,T.keep _ _ _ st5 λb hb o e=>(I7.pin (b,o) (zVi _ (zVi _ (zAN hb e)))).1,λb hb=>?_,w7⟩;obtain ⟨o,e,d⟩:=T.obj _ _ st5 b hb;exact (I7.pin (b,o) (zVi _ (zVi _ (zAN hb e)))).2.1
  cases f with
  |next=>obtain ⟨σ7,H7,I7,n7⟩:=q7;exact again I7 n7
  |cont=>obtain ⟨σ7,H7,I7,n7⟩:=q7;exact again I7 n7
  |brk=>obtain ⟨σ7,H7,I7,q7⟩:=q7;exact ⟨σ7,H7,I7.unpinned,q7⟩
  |ret v=>obtain ⟨x7,σ7,H7,I7,r7,q7⟩:=q7;exact ⟨x7,σ7,H7,I7.unpinned,r7,q7⟩
end
abbrev R2:=V->V->Hp->VK->Prop
def OpR (X:Cx) (f:Y2) (r:R2):Prop :=
 ∀ (zB:Yd) (s:Yl) (σ:St) (H:Hp) (x y:V) (v u:Yu) (Q:VK),Inv X zB σ H s->zn x v->zn y u->r x y H Q ->
  wpAny (model X.prog X.w) X.A (f v u) (EP X zB σ Q) X.xe s
def zBT (X:Cx) (f:Yu) (r:List V->Hp->VK->Prop):Prop :=
 ∀ (zB:Yd) (s:Yl) (σ:St) (H:Hp) (xs:List V) (us:Yf) (Q:VK),Inv X zB σ H s->zZ xs us->r xs H Q ->
  wpAny (model X.prog X.w) X.A (call f us) (EP X zB σ Q) X.xe s
def zVG (X:Cx) (r:V->Hp->(Bool->Hp->Prop)->Prop):Prop :=
 ∀ (zB:Yd) (s:Yl) (σ:St) (H:Hp) (x:V) (v:Yu) (Q:Bool->Hp->Prop),Inv X zB σ H s->zn x v->r x H Q ->
  wpAny (model X.prog X.w) X.A (truthy v) (TP X zB σ Q) X.xe s
def tOp (r:R2) (ta tb:TE):TE:=λσ H Q=>ta σ H λx H1=>tb σ H1 λy H2=>r x y H2 Q
def rI (C:Int->Int->Prop) (g:Int->Int->V):R2:=λx y H Q=>∃ i j,x=.int i/\y=.int j/\C i j/\Q (g i j) H
def rI0 (g:Int->Int->V):R2:=λx y H Q=>∃ i j,x=.int i/\y=.int j/\Q (g i j) H
section
variable {X:Cx} {a b c:Expr} {ta tb tc:TE} {pos:Pos}
theorem zTG (ha:PE X a ta) (hb:PE X b tb) {zB:Yd} {s:Yl} {σ:St} {H:Hp} {R:V->V->Hp->Prop} (I:Inv X zB σ H s)
  (h:ta σ H λx H1=>tb σ H1 λy H2=>R x y H2) {Q:Yc} {f:Y2}
  (hf:∀ v u s2 x y H2,Inv X zB σ H2 s2->zn x v->zn y u->R x y H2->wpAny (model X.prog X.w) X.A (f v u) Q X.xe s2) :
  wpAny (model X.prog X.w) X.A (eval a X.env) (λv s₁=>wpAny (model X.prog X.w) X.A (eval b X.env) (λu s₂=>wpAny (model X.prog X.w) X.A (f v u) Q X.xe s₂) X.xe s₁) X.xe s:=by
 refine thn (ha zB s σ H _ I h) λv s1 ⟨x,H1,I1,r1,q1⟩=>?_;refine thn (hb zB s1 σ H1 _ I1 q1) λu s2 ⟨y,H2,I2,r2,q2⟩=>?_;exact hf v u s2 x y H2 I2 r1 r2 q2
theorem zTo {op:Operator} {r:R2} (ho:OpR X (binaryOp op) r) (ha:PE X a ta) (hb:PE X b tb):PE X (.BinOp a op b pos) (tOp r ta tb):=by
 intro zB s σ H Q I h;exact wpAny_BinOp (zTG ha hb I h λv u s2 x y H2 I2 rx ry q=>ho zB s2 σ H2 x y v u Q I2 rx ry q)
theorem opI {f:Y2} {C:Int->Int->Prop} {g:Int->Int->Int}
  (rule:∀ (i j:Int) (t u:Tok) (s:Yl) (Q:Yc) (E:Yc),C i j->Q (.int (g i j) s.toks) { s with toks:=s.toks+1 }->wpAny (model X.prog X.w) X.A (f (.int i t) (.int j u)) Q E s) :
  OpR X f (rI C λi j=> .int (g i j)):=by
 intro zB s σ H x y v u Q I rx ry h;obtain ⟨i,j,rfl,rfl,hc,q⟩:=h;obtain ⟨t,rfl⟩:=rx;obtain ⟨t',rfl⟩:=ry;exact rule i j t t' s _ _ hc ⟨.int (g i j),H,I.tok _,⟨_,rfl⟩,q⟩
theorem zT3 {f:Y2} {g:Int->Int->Int}
  (rule:∀ (i j:Int) (t u:Tok) (s:Yl) (Q:Yc) (E:Yc),Q (.int (g i j) s.toks) { s with toks:=s.toks+1 }->wpAny (model X.prog X.w) X.A (f (.int i t) (.int j u)) Q E s) :
  OpR X f (rI0 λi j=> .int (g i j)):=by
 intro zB s σ H x y v u Q I rx ry h;obtain ⟨i,j,rfl,rfl,q⟩:=h;obtain ⟨t,rfl⟩:=rx;obtain ⟨t',rfl⟩:=ry;exact rule i j t t' s _ _ ⟨.int (g i j),H,I.tok _,⟨_,rfl⟩,q⟩
theorem zSn {f:Y2} {g:Int->Int->Bool}
  (rule:∀ (i j:Int) (t u:Tok) (s:Yl) (Q:Yc) (E:Yc),Q (.bool (g i j)) s->wpAny (model X.prog X.w) X.A (f (.int i t) (.int j u)) Q E s) :
  OpR X f (rI0 λi j=> .bl (g i j)):=by
 intro zB s σ H x y v u Q I rx ry h;obtain ⟨i,j,rfl,rfl,q⟩:=h;obtain ⟨t,rfl⟩:=rx;obtain ⟨t',rfl⟩:=ry;exact rule i j t t' s _ _ ⟨.bl (g i j),H,I,rfl,q⟩
def zVM (i j:Int):Prop:=0<j/\j<1073741824
def zVB (i j:Int):Prop:=0<=j/\j<=1000000/\i.natAbs<2 ^ 64
def zS3 (i j:Int):Prop:=(-(2 ^ 64)<i/\i<2 ^ 64)\/(-(2 ^ 64)<j/\j<2 ^ 64)
theorem zS3.ok {i j:Int} (h:zS3 i j):IntMulOk i j:=by
 rcases h with ⟨h1,h2⟩|⟨h1,h2⟩
 .exact .of_left (intBits_le_64 h1 h2)
 .exact .of_right (intBits_le_64 h1 h2)
theorem zRz:OpR X (binaryOp .Add) (rI0 λi j=> .int (i+j)):=zT3 λ_ _ _ _ _ _ _ q=>add_int q
theorem zSN:OpR X (binaryOp .Sub) (rI0 λi j=> .int (i-j)):=zT3 λ_ _ _ _ _ _ _ q=>sub_int q
theorem zSk:OpR X (binaryOp .Mult) (rI zS3 λi j=> .int (i*j)):=opI λ_ _ _ _ _ _ _ hc q=>mul_int q hc.ok
theorem zQV:OpR X (binaryOp .FloorDiv) (rI zVM λi j=> .int (i / j)):=opI λi j _ _ _ _ _ hc q=>by
 have h1:(0:Int)<j:=hc.1;have h2:j<1073741824:=hc.2;exact floordiv_int (by omega) (by rw[Int.fdiv_eq_ediv_of_nonneg i (by omega)];exact q) (.inl (PyProof.noPylong_small (by omega)))
theorem zTZ:OpR X (binaryOp .Mod) (rI (λ_ j=>0<j) λi j=> .int (i % j)):=opI λi j _ _ _ _ _ hc q=>by
 have h1:(0:Int)<j:=hc;exact mod_int' (by omega) (by rw[Int.fmod_eq_emod_of_nonneg i (by omega)];exact q)
theorem zSK:OpR X (binaryOp .Pow) (rI zVB λi j=> .int (i ^ j.toNat)):=opI λ_ _ _ _ _ _ _ hc q=>pow_int_small hc.1 hc.2.1 hc.2.2 q
end
def zRc:V->V->Bool
 |.non,.non=>true|.non,.int _=>true|.int _,.non=>true|.non,.bl _=>true|.bl _,.non=>true|.non,.str _=>true|.str _,.non=>true
 |.int _,.int _=>true|.bl _,.bl _=>true|.str _,.str _=>true|.byt _,.byt _=>true
 |.int _,.str _=>true|.str _,.int _=>true|.bl _,.str _=>true|.str _,.bl _=>true
 |_,_=>false
def rEq:R2:=λx y H Q=>zRc x y=true/\Q (.bl (decide (x=y))) H
def rNe:R2:=λx y H Q=>zRc x y=true/\Q (.bl (!decide (x=y))) H
theorem zLn {i j:Int}:decide (V.int i=V.int j)=(i==j):=by
 rw[Bool.eq_iff_iff];simp
theorem zOw {i j:Bool}:decide (V.bl i=V.bl j)=(i==j):=by
 rw[Bool.eq_iff_iff];simp
theorem zL2 {i j:Str}:decide (V.str i=V.str j)=(i==j):=by
 rw[Bool.eq_iff_iff];simp
theorem zL1 {i j:Array UInt8}:decide (V.byt i=V.byt j)=(i.toList==j.toList):=by
 rw[Bool.eq_iff_iff];cases i;cases j;simp
section
variable {X:Cx} {a b c:Expr} {ta tb tc:TE} {pos:Pos}
theorem zu {zB:Yd} {σ:St} {H:Hp} {s:Yl} {Q:VK} {k k':Bool} (I:Inv X zB σ H s) (q:Q (.bl k) H) (e:k=k'):EP X zB σ Q (.bool k') s:=by
 subst e;exact ⟨.bl k,H,I,rfl,q⟩
theorem zRr:OpR X (compareOp .Eq) rEq:=by
 intro zB s σ H x y v u Q I rx ry h;obtain ⟨hs,q⟩:=h;cases x with
 |non=>
  cases rx;cases y with
  |non=>cases ry;exact PySem.EqNone.eq_none_none (zu I q (by simp))
  |bl j=>cases ry;exact PySem.EqNone.eq_none_bool (zu I q (by simp))
  |int j=>obtain ⟨t',rfl⟩:=ry;exact PySem.EqNone.eq_none_int (zu I q (by simp))
  |str j=>obtain ⟨t',rfl⟩:=ry;exact PySem.EqNone.eq_none_str (zu I q (by simp))
  |_=>exact absurd (show false=true from hs) zVk
 |bl i=>
  cases rx;cases y with
  |non=>cases ry;exact PySem.EqNone.eq_bool_none (zu I q (by simp))
  |bl j=>cases ry;exact eq_bool (zu I q zOw)
  |str j=>obtain ⟨t',rfl⟩:=ry;exact PySem.EqMixed.eq_bool_str (zu I q (by simp))
  |_=>exact absurd (show false=true from hs) zVk
 |int i=>
  obtain ⟨t,rfl⟩:=rx;cases y with
  |non=>cases ry;exact PySem.EqNone.eq_int_none (zu I q (by simp))
  |int j=>obtain ⟨t',rfl⟩:=ry;exact eq_int (zu I q zLn)
  |str j=>obtain ⟨t',rfl⟩:=ry;exact PySem.EqMixed.eq_int_str (zu I q (by simp))
  |_=>exact absurd (show false=true from hs) zVk
 |str i=>
  obtain ⟨t,rfl⟩:=rx;cases y with
  |non=>cases ry;exact PySem.EqNone.eq_str_none (zu I q (by simp))
  |bl j=>cases ry;exact PySem.EqMixed.eq_str_bool (zu I q (by simp))
  |int j=>obtain ⟨t',rfl⟩:=ry;exact PySem.EqMixed.eq_str_int (zu I q (by simp))
  |str j=>obtain ⟨t',rfl⟩:=ry;exact eq_str (zu I q zL2)
  |_=>exact absurd (show false=true from hs) zVk
 |byt i=>
  obtain ⟨t,rfl⟩:=rx;cases y with
  |byt j=>obtain ⟨t',rfl⟩:=ry;exact PySem.W.eq_bytes (zu I q zL1)
  |_=>exact absurd (show false=true from hs) zVk
 |_=>cases y <;> exact absurd (show false=true from hs) zVk
theorem zTz:OpR X (compareOp .NotEq) rNe:=by
 intro zB s σ H x y v u Q I rx ry h;obtain ⟨hs,q⟩:=h;cases x with
 |non=>
  cases rx;cases y with
  |non=>cases ry;exact PySem.EqNone.ne_none_none (zu I q (by simp))
  |bl j=>cases ry;exact PySem.EqNone.ne_none_bool (zu I q (by simp))
  |int j=>obtain ⟨t',rfl⟩:=ry;exact PySem.EqNone.ne_none_int (zu I q (by simp))
  |str j=>obtain ⟨t',rfl⟩:=ry;exact PySem.EqNone.ne_none_str (zu I q (by simp))
  |_=>exact absurd (show false=true from hs) zVk
 |bl i=>
  cases rx;cases y with
  |non=>cases ry;exact PySem.EqNone.ne_bool_none (zu I q (by simp))
  |bl j=>cases ry;exact ne_bool (zu I q (congrArg not zOw))
  |str j=>obtain ⟨t',rfl⟩:=ry;exact PySem.EqMixed.ne_bool_str (zu I q (by simp))
  |_=>exact absurd (show false=true from hs) zVk
 |int i=>
  obtain ⟨t,rfl⟩:=rx;cases y with
  |non=>cases ry;exact PySem.EqNone.ne_int_none (zu I q (by simp))
  |int j=>obtain ⟨t',rfl⟩:=ry;exact ne_int (zu I q (congrArg not zLn))
  |str j=>obtain ⟨t',rfl⟩:=ry;exact PySem.EqMixed.ne_int_str (zu I q (by simp))
  |_=>exact absurd (show false=true from hs) zVk
 |str i=>
  obtain ⟨t,rfl⟩:=rx;cases y with
  |non=>cases ry;exact PySem.EqNone.ne_str_none (zu I q (by simp))
  |bl j=>cases ry;exact PySem.EqMixed.ne_str_bool (zu I q (by simp))
  |int j=>obtain ⟨t',rfl⟩:=ry;exact PySem.EqMixed.ne_str_int (zu I q (by simp))
  |str j=>obtain ⟨t',rfl⟩:=ry;exact ne_str (zu I q (congrArg not zL2))
  |_=>exact absurd (show false=true from hs) zVk
 |byt i=>
  obtain ⟨t,rfl⟩:=rx;cases y with
  |byt j=>obtain ⟨t',rfl⟩:=ry;exact PySem.W.ne_bytes (zu I q (congrArg not zL1))
  |_=>exact absurd (show false=true from hs) zVk
 |_=>cases y <;> exact absurd (show false=true from hs) zVk
theorem zTg:OpR X (compareOp .Lt) (rI0 λi j=> .bl (decide (i<j))):=zSn λ_ _ _ _ _ _ _ q=>lt_int q
theorem zUA:OpR X (compareOp .Gt) (rI0 λi j=> .bl (decide (j<i))):=zSn λ_ _ _ _ _ _ _ q=>gt_int q
theorem zUR:OpR X (compareOp .GtE) (rI0 λi j=> .bl (decide (j<=i))):=zSn λ_ _ _ _ _ _ _ q=>ge_int q
theorem OpR.or {f:Y2} {r r':R2} (h:OpR X f r) (h':OpR X f r'):OpR X f (λx y H Q=>r x y H Q\/r' x y H Q):=by
 intro zB s σ H x y v u Q I rx ry q;rcases q with q|q
 .exact h zB s σ H x y v u Q I rx ry q
 .exact h' zB s σ H x y v u Q I rx ry q
theorem zEv (b:Expr) {op:CmpOp} (h:op≠.In:=by decide) (h2:op≠.NotIn:=by decide):behindInMarks op b=false:=by
 have e1:(op==CmpOp.In)=false:=by cases op <;> first|rfl|exact absurd rfl h
 have e2:(op==CmpOp.NotIn)=false:=by cases op <;> first|rfl|exact absurd rfl h2
 cases b <;> simp[behindInMarks,e1,e2]
theorem zRf {op:CmpOp} {r:R2} (ho:OpR X (compareOp op) r) (ha:PE X a ta) (hb:PE X b tb) (hm:behindInMarks op b=false):PE X (.Compare a [op] [b] pos) (tOp r ta tb):=by
 intro zB s σ H Q I h;exact wpAny_Compare1 (zTG ha hb I h λv u s2 x y H2 I2 rx ry q=>ho zB s2 σ H2 x y v u Q I2 rx ry q) hm
def zLp (t:TE):TT:=λσ H Q=>t σ H λx H'=>∃ k,x=.bl k/\Q k H'
theorem zRh {op:CmpOp} {r:R2} (ho:OpR X (compareOp op) r) (ha:PE X a ta) (hb:PE X b tb) (hm:behindInMarks op b=false):PT X (.Compare a [op] [b] pos) (zLp (tOp r ta tb)):=by
 intro zB s σ H Q I h;refine wpAny_isTrue_Compare1 (thn (ha zB s σ H _ I h) λv s1 ⟨x,H1,I1,r1,q1⟩=>thn (hb zB s1 σ H1 _ I1 q1) λu s2 ⟨y,H2,I2,r2,q2⟩=>
  thn (ho zB s2 σ H2 x y v u _ I2 r1 r2 q2) λc s3 ⟨z,H3,I3,r3,k,e,q3⟩=>?_) hm
 subst e;cases r3;exact wpAny_truthy_bool ⟨H3,I3,q3⟩
def zUM (K:Yb) (x:V) (H:Hp) (k:Bool):Prop :=
 match x with
 |.non=>k=false
 |.bl b=>k=b
 |.int i=>k=(i != 0)
 |.str y=>y.length<=sizeLine/\k=((y.length:Int) != 0)
 |.byt y=>y.size<=sizeLine/\k=((y.size:Int) != 0)
 |.ref p=>(∃ xs,SqL K H p xs/\k = !xs.isEmpty)\/(∃ xs,SqT K H p xs/\k = !xs.isEmpty) \/ ∃ kvs,H p=some (.dK kvs)/\k = !kvs.isEmpty
 |_=>False
theorem zKX {κ:Type} {kvs:List (κ × V)} {vs:List (κ × Value)} (r:KV kvs vs):(!vs.isEmpty) = !kvs.isEmpty:=by
 cases r <;> rfl
theorem zFr {xs:List V} {its:Yf} (r:zZ xs its):(!its.toArray.isEmpty) = !xs.isEmpty:=by
 cases r <;> simp
theorem zD6:(sizeLine:Nat)<2 ^ 63:=by rw[sizeLine_eq];decide
theorem zSG:zVG X (λx H Q=>∃ k,zUM X.K x H k/\Q k H):=by
 intro zB s σ H x v Q I rx h;obtain ⟨k,e,q⟩:=h;have hl:=zD6;have hs:sizeLine=16777216:=sizeLine_eq;cases x with
 |non=>
  cases rx;have e':k=false:=e;subst e';exact truthy_none ⟨H,I,q⟩
 |bl b=>
  cases rx;have e':k=b:=e;subst e';exact wpAny_truthy_bool ⟨H,I,q⟩
 |int i=>
  obtain ⟨t,rfl⟩:=rx;have e':k=(i != 0):=e;subst e';exact PySem.P.truthy_int ⟨H,I,q⟩
 |str y=>
  obtain ⟨t,rfl⟩:=rx;obtain ⟨hy,e'⟩:y.length<=sizeLine/\k=((y.length:Int) != 0):=e;subst e';exact PySem.P.truthy_str (by omega) ⟨H,I.tok _,q⟩
 |byt y=>
  obtain ⟨t,rfl⟩:=rx;obtain ⟨hy,e'⟩:y.size<=sizeLine/\k=((y.size:Int) != 0):=e;subst e';exact PySem.W.truthy_bytes (by omega) ⟨H,I.tok _,q⟩
 |ref p=>
  cases rx;have e':(∃ xs,SqL X.K H p xs/\k = !xs.isEmpty)\/(∃ xs,SqT X.K H p xs/\k = !xs.isEmpty) \/ ∃ kvs,H p=some (.dK kvs)/\k = !kvs.isEmpty:=e;rcases e' with ⟨xs,hx,e'⟩|⟨xs,hx,e'⟩|⟨kvs,hx,e'⟩
  .subst e';obtain ⟨its,r,pl,hz⟩:=I.list hx;have hlen:=r.length;exact wpAny_truthy_list pl.isList (by simp only[zVW];omega) ⟨H,I.tok _,by rw[zFr r];exact q⟩
  .subst e';obtain ⟨its,r,pl,hz⟩:=I.tuple hx;have hlen:=r.length;exact truthy_tuple pl (by simp only[zVW];omega) ⟨H,I.tok _,by rw[zFr r];exact q⟩
  .subst e';obtain ⟨hz,hS,vs,r,m⟩:kvs.length<=sizeLine/\(p==sysModules)=false /\ ∃ vs,KV kvs vs/\s.heap.DictOf (zAE X.prog X.w) p vs:=I.hok p _ hx;have hlen:kvs.length=vs.length:=Paired.length r;exact wpAny_truthy_dict hS m (by omega) ⟨H,I.tok _,by rw[zKX r];exact q⟩
 |_=>exact (show False from e).elim
theorem zNo (ha:PE X a ta) (he:∀ whole,isTrue a X.env whole=(do let v <- whole;standAt a.pos;holding [v] (truthy v))) :
  PT X a (λσ H Q=>ta σ H λx H'=>∃ k,zUM X.K x H' k/\Q k H'):=by
 intro zB s σ H Q I h;exact isTrue_plain (thn (ha zB s σ H _ I h) λv s1 ⟨x,H1,I1,r1,q1⟩=>zSG zB s1 σ H1 x v Q I1 r1 q1) (he _)
theorem zCo {x:V} {us:Yf} (r:zZ [x] us):∃ u,us=[u]/\zn x u:=by
 cases r with
 |cons r1 r2=>cases r2;exact ⟨_,rfl,r1⟩
theorem zNv {x y:V} {us:Yf} (r:zZ [x,y] us):∃ u w',us=[u,w']/\zn x u/\zn y w':=by
 cases r with
 |cons r1 r2=>
  cases r2 with
  |cons r3 r4=>cases r4;exact ⟨_,_,rfl,r1,r3⟩
theorem zO9:zBT X (.builtin "abs") (λxs H Q=>∃ i,xs=[.int i]/\Q (.int (if i<0 then -i else i)) H):=by
 intro zB s σ H xs us Q I r h;obtain ⟨i,rfl,q⟩:=h;obtain ⟨u,rfl,t,rfl⟩:=zCo r;exact call_abs_int λu tk=>⟨.int (if i<0 then -i else i),H,I.tok _,⟨_,rfl⟩,q⟩
theorem zMm (hc:X.calm=true):zBT X (.builtin "max") (λxs H Q=>∃ i j,xs=[.int i,.int j]/\Q (.int (if j>i then j else i)) H):=by
 intro zB s σ H xs us Q I r h;obtain ⟨i,j,rfl,q⟩:=h;obtain ⟨u,w',rfl,⟨t,rfl⟩,⟨t',rfl⟩⟩:=zNv r;refine max_two_ints (I.ok.hd hc) λh' tk k=>⟨_,H,I.kept k,?_,q⟩;by_cases hj:j>i
 .rw[zVd hj,zVd hj];exact ⟨_,rfl⟩
 .rw[zVg hj,zVg hj];exact ⟨_,rfl⟩
theorem zM4 (hc:X.calm=true):zBT X (.builtin "min") (λxs H Q=>∃ i j,xs=[.int i,.int j]/\Q (.int (if j<i then j else i)) H):=by
 intro zB s σ H xs us Q I r h;obtain ⟨i,j,rfl,q⟩:=h;obtain ⟨u,w',rfl,⟨t,rfl⟩,⟨t',rfl⟩⟩:=zNv r;refine min_two_ints (I.ok.hd hc) λh' tk k=>⟨_,H,I.kept k,?_,q⟩;by_cases hj:j<i
 .rw[zVd hj,zVd hj];exact ⟨_,rfl⟩
 .rw[zVg hj,zVg hj];exact ⟨_,rfl⟩
theorem zMk:zBT X (.type "int") (λxs H Q=>(∃ i,xs=[.int i]/\Q (.int i) H) \/ ∃ k,xs=[.bl k]/\Q (.int (if k then 1 else 0)) H):=by
 intro zB s σ H xs us Q I r h;rcases h with ⟨i,rfl,q⟩|⟨k,rfl,q⟩
 .obtain ⟨u,rfl,t,rfl⟩:=zCo r;exact call_int_int ⟨.int i,H,I,⟨_,rfl⟩,q⟩
 .obtain ⟨u,rfl,r1⟩:=zCo r;cases r1;exact call_int_bool ⟨.int (if k then 1 else 0),H,I.tok _,⟨_,rfl⟩,q⟩
end
theorem zFQ.some_of {v:V} {o:Option Value} (r:zFQ (some v) o):∃ u,o=some u/\zn v u:=by
 cases o with
 |none=>exact (show False from r).elim
 |some u=>exact ⟨u,rfl,r⟩
structure Room (k:Nat) (A:Yn):Prop where
 hd:A.handled=none
 dp:A.depth+3*k+5<recursionLimit
 un:A.units+16*k+200<cLine
theorem Room.mono {j k:Nat} {A:Yn} (r:Room k A) (h:j<=k):Room j A:=⟨r.hd,by have:=r.dp;omega,by have:=r.un;omega⟩
theorem Room.deeper {k:Nat} {A:Yn} (r:Room (k+1) A) (env:Env):Room k (A.deeper env) :=
 ⟨r.hd,by have:=r.dp;show A.depth+1+3*k+5<_;omega,by have:=r.un;show A.units+3+16*k+200<_;omega⟩
theorem Room.depth {k:Nat} {A:Yn} (r:Room k A):A.depth<recursionLimit:=by have:=r.dp;omega
theorem Room.units {k:Nat} {A:Yn} (r:Room k A):A.units+64<cLine:=by have:=r.un;omega
theorem Room.units0 {k:Nat} {A:Yn} (r:Room k A):A.units<cLine:=by have:=r.un;omega
def zUs:TA:=λ_ H Q=>Q [] H
def zUI (ta:TE) (tr:TA):TA:=λσ H Q=>ta σ H λx H1=>tr σ H1 λxs H2=>Q (x::xs) H2
section
variable {X:Cx} {e:Expr} {es:Yi} {te:TE} {t:TA} {pos:Pos}
theorem zE2:PA X [] zUs:=λ_ _ _ _ H Q I h=>Calls.spliced_nil ⟨[],H,I,.nil,h⟩
theorem zDp (ha:PE X e te) (hr:PA X es t) (hs:starEach (e::es) X.env=(false,eval e X.env)::starEach es X.env:=by rfl):PA X (e::es) (zUI te t):=by
 intro pos zB s σ H Q I h;rw[hs];show wpAny _ _ (spliced ((false,eval e X.env)::backTo pos (starEach es X.env))) _ _ s;refine Calls.spliced_cons (thn (ha zB s σ H _ I h) λu s1 ⟨x,H1,I1,r1,q1⟩=>?_);exact thn (hr pos zB s1 σ H1 _ I1 q1) λus s2 ⟨xs,H2,I2,r2,q2⟩=>⟨x::xs,H2,I2,.cons r1 r2,q2⟩
def zUo (t:TA):TE:=λσ H Q=>t σ H λxs H1=>xs.length<=sizeLine /\ ∀ p,H1 p=none->Q (.ref p) (upd H1 p (.tup xs))
def zVL (t:TA):TE:=λσ H Q=>t σ H λxs H1=>xs.length<=sizeLine /\ ∀ p,H1 p=none->Q (.ref p) (upd H1 p (.lst xs))
theorem zR3 {x1} (h:PA X es t):PE X (.Tuple es x1 pos) (zUo t):=by
 intro zB s σ H Q I hq;refine wpAny_Tuple_spliced (thn (h pos zB s σ H _ I hq) λus s1 ⟨xs,H1,I1,r,z,q⟩=>⟨by rw[<-r.length];exact z,?_⟩);have hf:H1 s1.heap.objs.size=none:=I1.hok.fresh (zVU _);refine ⟨.ref s1.heap.objs.size,upd H1 s1.heap.objs.size (.tup xs),I1.laid (t':=s1.toks) (λb u e=>zVP _ e) (zVU _) ?_,rfl,q _ hf⟩;exact ⟨z,us,r,⟨_,zVY _ rfl,rfl,⟨_,rfl⟩,rfl⟩⟩
theorem zSs (h:PA X es t):PE X (.List es pos) (zVL t):=by
 intro zB s σ H Q I hq;refine wpAny_List_spliced (thn (h pos zB s σ H _ I hq) λus s1 ⟨xs,H1,I1,r,z,q⟩=>⟨by rw[<-r.length];exact z,?_⟩);have hf:H1 s1.heap.objs.size=none:=I1.hok.fresh (zVU _);refine ⟨.ref s1.heap.objs.size,upd H1 s1.heap.objs.size (.lst xs),I1.laid (t':=s1.toks) (λb u e=>zVP _ e) (zVU _) ?_,rfl,q _ hf⟩;exact ⟨z,us,0,r,zVY _ rfl⟩
end
abbrev Sp:=List V->Hp->VK->XK->Prop
abbrev CXT:=List Env->Hp->Shared->XK->Value->Shared->Prop
structure Env0 (P:Ym) (w:Yo) (K:Yb) (mg:Yh) (base:Heap) (A:Yn) (outer:List Env) (s:Yl) (H:Hp):Prop where
 frames:A.frames=some outer
 mod:Mod K mg base
 bs:∀ b o,base.get? b=some o->s.heap.get? b=some o/\H b=none
 bsz:base.objs.size<=s.heap.objs.size
 funs:s.heap.FunFrames base outer
 frf:∀ b∈frs outer,H b=none
 hok:HOk P w H s.heap
 bare:AllBare s.gens
def CE (outer:List Env) (P:Ym) (w:Yo) (H:Hp) (s:Yl) (Q:VK) (u:Yu) (s':Yl):Prop :=
 ∃ v H',s'.os=s.os/\AllBare s'.gens/\Un (frs outer) [] H H' s.heap s'.heap/\HOk P w H' s'.heap/\zn v u/\Q v H'
def CR (CX:CXT) (outer:List Env) (P:Ym) (w:Yo) (H:Hp) (s:Yl) (Q:VK) (E:XK) (r:Result) (s':Yl):Prop :=
 match r with
 |.ok (.ret u)=>CE outer P w H s Q u s'
 |.ok _=>False
 |.error e=>CX outer H s E e s'
structure FnOk (P:Ym) (w:Yo) (K:Yb) (mg:Yh) (base:Heap) (CX:CXT) (k:Nat) (f:Yt) (fd:Yz) (ps:Yk) (sp:Sp):Prop where
 len:∀ vs H Q E,sp vs H Q E->vs.length=ps.length
 run:∀ (A:Yn) (outer:List Env) (s:Yl) (H:Hp) (args:Args) (us:Yf) (vs:List V) (Q:VK) (E:XK),Room k A->Env0 P w K mg base A outer s H->BindsTo s fd args (ps.zip us)->zZ vs us->sp vs H Q E ->
  codeAny (model P w) A (.call (.ref f) args) (CR CX outer P w H s Q E) s
theorem FnOk.imp {P:Ym} {w:Yo} {K:Yb} {mg:Yh} {base:Heap} {CX:CXT} {k:Nat} {f:Yt} {fd:Yz} {ps:Yk} {sp sp':Sp} (F:FnOk P w K mg base CX k f fd ps sp)
  (h:∀ vs H Q E,sp' vs H Q E->sp vs H Q E):FnOk P w K mg base CX k f fd ps sp' :=
 ⟨λvs H Q E q=>F.len vs H Q E (h _ _ _ _ q),λA outer s H args us vs Q E hr he hb hv hs=>F.run A outer s H args us vs Q E hr he hb hv (h _ _ _ _ hs)⟩
section
variable {X:Cx} {zB:Yd} {σ:St} {H:Hp} {s s':Yl}
theorem Inv.env0 (I:Inv X zB σ H s):Env0 X.prog X.w X.K X.mg X.base X.A X.stack s H :=
 ⟨I.ok.frames,I.ok.mod,I.bs,zVp I.ok.bsz I.sz,I.stack,I.stkFree,I.hok,I.bare⟩
theorem Inv.after {Q:VK} {u:Yu} (I:Inv X zB σ H s) (h:CE X.stack X.prog X.w H s Q u s'):EP X zB σ Q u s':=by
 obtain ⟨v,H',os,bare,un,hok,r,q⟩:=h;obtain ⟨hh,g,d,t,os'⟩:=s';obtain rfl:os'=s.os:=os;exact ⟨v,H',I.call (h':=hh) (g':=g) (d':=d) (t':=t) (ch:=[]) un hok bare (λb z=>absurd z (by simp)),r,q⟩
end
def zTa (sp:Sp) (dvs:List V) (E:XK) (t:TA):TE:=λσ H Q=>t σ H λvs H1=>sp (vs++dvs) H1 Q E
def zF1 (K:Yb) (fd:Yz) (ps:Yk) (ds:Yf):Prop :=
 ∀ (s:Yl) (us:Yf),K.In s.heap->(us++ds).length=ps.length->BindsTo s fd ⟨us,[]⟩ (ps.zip (us++ds))
theorem zF1.all {K:Yb} {fd:Yz} {ps:Yk} (h:∀ us:List Value,us.length=ps.length->bindArgs fd ⟨us,[]⟩=pure (ps.zip us)):zF1 K fd ps []:=λs us _ hl=>by
 rw[zV8]at hl ⊢;exact .of_eq (h us hl)
def zLF (CX:CXT) (X:Cx) (E:XK):Prop:=∀ (zB:Yd) (σ:St) (H:Hp) (s:Yl) (e:Yu) (s':Yl),Inv X zB σ H s->CX X.stack H s E e s'->X.xe e s'
section
variable {X:Cx} {CX:CXT} {k:Nat} {f C:Yt} {fd:Yz} {ps:Yk} {sp:Sp} {dvs:List V} {ds:Yf} {E:XK} {x m:Str} {p pos apos:Pos} {e o:Expr} {es:Yi} {ta:TE} {t:TA}
theorem zSd {zB:Yd} {σ:St} {H:Hp} {s:Yl} {Q:VK} {us:Yf} {vs:List V} (F:FnOk X.prog X.w X.K X.mg X.base CX k f fd ps sp) (hr:Room k X.A) (hb:zF1 X.K fd ps ds) (hd:zZ dvs ds) (hx:zLF CX X E)
  (I:Inv X zB σ H s) (r:zZ vs us) (h:sp (vs++dvs) H Q E):wpAny (model X.prog X.w) X.A (call (.ref f) us) (EP X zB σ Q) X.xe s:=by
 have r2:zZ (vs++dvs) (us++ds):=r.append hd;have hl:(us++ds).length=ps.length:=by rw[<-r2.length];exact F.len _ _ _ _ h
 refine wpAny_call (codeAny_mono (F.run X.A X.stack s H ⟨us,[]⟩ (us++ds) (vs++dvs) Q E hr I.env0 (hb s us I.kIn hl) r2 h) λr s' hq=>?_);cases r with
 |error e=>exact hx zB σ H s e s' I hq
 |ok fl=>
  cases fl with
  |ret u=>exact I.after hq
  |next=>exact False.elim hq
  |brk=>exact False.elim hq
  |cont=>exact False.elim hq
theorem zQK (F:FnOk X.prog X.w X.K X.mg X.base CX k f fd ps sp) (hr:Room k X.A) (hg:Gl X x) (hm:X.mg x=some (.ref f)) (hk:PySem.W.keepIn X.K (.ref f)=true) (hb:zF1 X.K fd ps ds) (hd:zZ dvs ds) (hx:zLF CX X E)
  (ha:PA X (e::es) t) (hdb:(x==("__debug__" : Str))=false:=by decide) (he:starEach (e::es) X.env=(false,eval e X.env)::starEach es X.env:=by rfl) (hpl:(backTo pos (starEach es X.env)).any (·.1)=false:=by rfl) :
  PE X (.Call (.Name x p) (e::es) [] pos) (zTa sp dvs E t):=by
 intro zB s σ H Q I h;refine wpAny_Call_Name_kw (zQA I hg hm ?_ hdb);refine PySem.W.callWith_K (h₀:=X.base) I.ok.mod.kin hk (thn (ha pos zB s σ H _ I h) λus s1 ⟨vs,H1,I1,r,q⟩=>⟨I1.kIn,?_⟩) he hpl;exact zSd F hr hb hd hx I1 r q
end
structure FnScope (N P:Yk) (sc:Y0):Prop where
 kind:sc.kind=.function
 co:sc.isCoroutine=false
 gen:sc.isGenerator=false
 nd:N.Nodup
 pre:N.take P.length=P
 par:∀ x∈P,sc.names.lookup x=some .local\/sc.names.lookup x=some .cell
 nofree:∀ y∈sc.names,y.2≠.free
theorem zHq {kindOf:Str->Option NameKind} {x:Str}:∀ {binds:List (Str × Value)} {m:Yh},(∀ v,(x,v)∉binds)->bindL kindOf binds m x=m x
 |[],_,_=>rfl
 | (n,v)::r,m,h=>by
  unfold bindL;rw[zHq λw hw=>h w (zVb _ hw)];split
  .have:x≠n:=by rintro rfl;exact h v zVc
   simp[this]
  .rfl
theorem zHK {kindOf:Str->Option NameKind} {x:Str}:∀ {binds:List (Str × Value)} {m:Yh},(∀ v,(x,v)∉binds)->bindC kindOf binds m x=m x
 |[],_,_=>rfl
 | (n,v)::r,m,h=>by
  unfold bindC;rw[zHK λw hw=>h w (zVb _ hw)];split
  .rfl
  .have:x≠n:=by rintro rfl;exact h v zVc
   simp[this]
theorem zHa {kindOf:Str->Option NameKind} {x:Str} {v:Yu}:∀ {P:Yk} {vs:Yf} {i:Nat} {m:Yh},P.Nodup->P[i]?=some x->vs[i]?=some v->kindOf x=some .local ->
  bindL kindOf (P.zip vs) m x=some v
 |[],_,_,_,_,h,_,_=>by simp at h
 |_::_,[],_,_,_,_,h,_=>by simp at h
 |p::P,w::vs,0,m,nd,h1,h2,hk=>by
  simp at h1 h2;subst h1;subst h2;show bindL kindOf ((p,w)::P.zip vs) m p=_;unfold bindL;rw[zHq λv hv=>(zWi.mp nd).1 (List.of_mem_zip hv).1,zVd hk];simp
 |p::P,w::vs,i+1,m,nd,h1,h2,hk=>by
  show bindL kindOf ((p,w)::P.zip vs) m x=_;unfold bindL;exact zHa (i:=i) (zWi.mp nd).2 (by simpa using h1) (by simpa using h2) hk
theorem zHw {kindOf:Str->Option NameKind} {x:Str} {v:Yu}:∀ {P:Yk} {vs:Yf} {i:Nat} {m:Yh},P.Nodup->P[i]?=some x->vs[i]?=some v->kindOf x≠some .local ->
  bindC kindOf (P.zip vs) m x=some v
 |[],_,_,_,_,h,_,_=>by simp at h
 |_::_,[],_,_,_,_,h,_=>by simp at h
 |p::P,w::vs,0,m,nd,h1,h2,hk=>by
  simp at h1 h2;subst h1;subst h2;show bindC kindOf ((p,w)::P.zip vs) m p=_;unfold bindC;rw[zHK λv hv=>(zWi.mp nd).1 (List.of_mem_zip hv).1,zVg hk];simp
 |p::P,w::vs,i+1,m,nd,h1,h2,hk=>by
  show bindC kindOf ((p,w)::P.zip vs) m x=_;unfold bindC;exact zHw (i:=i) (zWi.mp nd).2 (by simpa using h1) (by simpa using h2) hk
def start (N:Yk) (vs:List V):St:=vs.map some++List.replicate (N.length-vs.length) none
def zLe (CX:CXT) (P:Ym) (w:Yo) (K:Yb) (mg:Yh) (base:Heap) (N:Yk) (qual:Str) (scope:Y0) (f:Yt) (cd:Yu) (A:Yn) (outer:List Env) (s:Yl) (H:Hp) (E:XK):Cx where
 prog:=P
 w:=w
 K:=K
 mg:=mg
 base:=base
 A:=A.deeper (envOfC qual scope s.heap.objs.size f cd)
 N:=N
 s₀:=s
 H₀:=H
 env:=envOfC qual scope s.heap.objs.size f cd
 outer:=outer
 stack:=envOfC qual scope s.heap.objs.size f cd::outer
 ex:=[]
 calm:=true
 fn:=λ_=>true
 pn:=[]
 xe:=λe s'=>wpAny (model P w) (A.deeper (envOfC qual scope s.heap.objs.size f cd)) (leaving (envOfC qual scope s.heap.objs.size f cd) e) (λ_ s''=>CX outer H s E e s'') (λe' s''=>CX outer H s E e' s'') s'
theorem zFp {sc:Y0} {n:Nat} {x:Str} (h:sc.names.lookup x=some .cell):∃ c,(cellsFrom n sc.names []).lookup x=some c:=by
 have q:=PySem.W.cellsFrom_some sc.names n [] (.inl h);exact Option.isSome_iff_exists.mp q
theorem zM9 {CX:CXT} {P:Ym} {w:Yo} {K:Yb} {mg:Yh} {base:Heap} {N ps:Yk} {qual:Str} {scope:Y0} {f:Yt} {cd:Yu} {A:Yn} {outer:List Env} {s s1:Yl} {H:Hp} {E:XK} {us:Yf} {vs:List V}
  (S:FnScope N ps scope) (hd:A.handled=none) (e0:Env0 P w K mg base A outer s H) (hl:vs.length=ps.length) (r:zZ vs us)
  (x:InCallC s s.heap.objs.size (bindL (envOfC qual scope s.heap.objs.size f cd).kindOf (ps.zip us) λ_=>none) (cellsFrom (s.heap.objs.size+1) scope.names []) (bindC (envOfC qual scope s.heap.objs.size f cd).kindOf (ps.zip us) λ_=>none) s1) :
  Inv (zLe CX P w K mg base N qual scope f cd A outer s H E) [] (start N vs) H s1:=by
 have hpl:ps.length<=N.length:=by have:=congrArg List.length S.pre;rw[zWm]at this;omega
 obtain ⟨h1,tk,rfl,hk⟩:=x.done;have noA:∀ b:Addr,b∉(zLe CX P w K mg base N qual scope f cd A outer s H E).ex:=λb z=>absurd (show b∈([]:List Addr)from z) (by simp)
 refine ⟨⟨e0.mod,S.kind,rfl,rfl,zVU _,λy z c h1 h2=>?_,λy hy=>?_,λy c _ h=>?_,λ_=>hd,Around.frames_deeper e0.frames,.inr ⟨rfl,rfl⟩,λb z=>absurd z (noA b),e0.bs,e0.bsz,λb _ _=>noA b,λb z=>absurd z (noA b),e0.funs,e0.frf⟩,
  rfl,e0.bare,Un.kept hk,⟨_,x.toInCall.ns,λi y v h1 h2 h3=>?_⟩,λy c h=>⟨_,x.cell y c h⟩,e0.hok.fresh (zVU _),λy c h=>?_,λp hp=>absurd (show p∈([]:List (Addr × Obj))from hp) (by simp),e0.hok.kept hk,?_⟩
 .exact name_of_addr x.apart (zWQ h1) (zWQ h2)
 .have hy:scope.names.lookup y=some .cell\/scope.names.lookup y=some .free:=hy;rcases hy with hy|hy
  .exact zFp hy
  .exact absurd rfl (S.nofree _ (zWQ hy))
 .exact zYK (x.above y c (zWQ h))
 .have hi:i<vs.length:=by
   unfold start at h2;by_cases hi:i<vs.length
   .exact hi
   .rw[zWY (by simpa using hi)]at h2;rw[List.getElem?_replicate]at h2;split at h2 <;> cases h2
  have ha:vs[i]?=some v:=by
   unfold start at h2;rw[zVV (by simpa using hi),zVl]at h2;cases e:vs[i]? with
   |none=>rw[e]at h2;cases h2
   |some a=>rw[e]at h2;cases h2;rfl
  obtain ⟨u,hu,rv⟩:=r.get ha;have hp:ps[i]?=some y:=by
   rw[<-S.pre,List.getElem?_take_of_lt (by omega)];exact h1
  have ndP:ps.Nodup:=by rw[<-S.pre];exact S.nd.sublist (List.take_sublist _ _)
  refine ⟨u,rv,?_⟩;rcases S.par y (List.mem_of_getElem? hp)with k|k
  .exact .inl ⟨k,zHa ndP hp hu k⟩
  .obtain ⟨c,e⟩:=zFp (n:=s.heap.objs.size+1) k;refine .inr ⟨.inl k,c,e,?_⟩;have q:=x.cell y c e;rw[zHw ndP hp hu (by show scope.names.lookup y≠_;rw[k];decide)]at q;exact q
 .exact e0.hok.fresh (zYK (x.above y c (zWQ h)))
 .unfold start;show _=N.length;rw[zVe,zVX,List.length_replicate];omega
theorem zT5 {CX:CXT} {P:Ym} {w:Yo} {K:Yb} {mg:Yh} {base:Heap} {k:Nat} {f:Yt} {name qual:Str} {params:Arguments} {body:Yy} {scope:Y0} {dV kV doc pm cdv ct oc:Yu} {an od:Option Addr}
  {osl:Array (Option Value)} {N ps:Yk} {sp:Sp} (lk:K.lookup f=some ⟨oc,od,.func (PySem.W.fnOf name qual params body scope dV kV doc pm an cdv ct),osl⟩) (hcd:PySem.W.codeIn K cdv qual=true) (S:FnScope N ps scope)
  (len:∀ vs H Q E,sp vs H Q E->vs.length=ps.length)
  (hbody:∀ (A:Yn) (outer:List Env) (s:Yl) (H:Hp) (vs:List V) (Q:VK) (E:XK),Room k (A.deeper (envOfC qual scope s.heap.objs.size f cdv))->sp vs H Q E ->
   ∃ t,PSs (zLe CX P w K mg base N qual scope f cdv A outer s H E) body t/\t { nx:=λ_ H'=>Q .non H',rt:=Q } (start N vs) H) :
  FnOk P w K mg base CX (k+1) f (PySem.W.fnOf name qual params body scope dV kV doc pm an cdv ct) ps sp:=by
 refine ⟨len,λA outer s H args us vs Q E hr e0 hb r hsp=>?_⟩;have hl:=len _ _ _ _ hsp;have KX:K.In s.heap:=e0.mod.kin.keeps λb o e=>(e0.bs b o e).1;have lim:s.heap.NoLimit:=e0.mod.nolimit.keeps λb o e=>(e0.bs b o e).1;have hkind:∀ y∈ps.zip us,scope.names.lookup y.1=some .local\/(scope.names.lookup y.1=some .cell/\((cellsFrom (s.heap.objs.size+1) scope.names []).lookup y.1).isSome=true):=λ⟨n,v⟩ hy=>by
  rcases S.par n (List.of_mem_zip hy).1 with q|q
  .exact .inl q
  .exact .inr ⟨q,PySem.W.cellsFrom_some _ _ _ (.inl q)⟩
 refine codeAny_call_function hr.depth (KX _ _ lk) rfl S.co S.gen rfl (PySem.W.codeRec_of KX hcd) (hb _ _ _ _ ?_);refine wpAny_newFunctionEnv_cells S.kind hkind λenv he s1 x=>?_;subst he;refine ⟨lim.keeps x.toInCall.keep,codeAny_func ?_⟩;obtain ⟨t,ht,hq⟩:=hbody A outer s H vs Q E (hr.deeper _) hsp;have I:Inv (zLe CX P w K mg base N qual scope f cdv A outer s H E) [] (start N vs) H s1:=zM9 S hr.hd e0 hl r x;refine zVu (ht [] s1 (start N vs) H _ I hq) (λfl s' hs=>?_) λe s' hs=>hs;have fin:∀ {σ':St} {H':Hp} {v:V} {u:Yu},Inv (zLe CX P w K mg base N qual scope f cdv A outer s H E) [] σ' H' s'->zn v u->Q v H'->CE outer P w H s Q u s' :=
  λ{σ' H' v u} J rv q=>⟨v,H',J.os,J.bare,J.base,J.hok,rv,q⟩
 cases fl with
 |ret u=>
  obtain ⟨v,σ',H',J,rv,q⟩:=hs;exact fin J rv q
 |next=>
  obtain ⟨σ',H',J,q⟩:=hs;exact fin (v:=V.non) (u:=Value.none) J rfl q
 |brk=>
  obtain ⟨_,_,_,q⟩:=hs;exact False.elim q
 |cont=>
  obtain ⟨_,_,_,q⟩:=hs;exact False.elim q
section
variable {X:Cx} {x:Str} {p pos:Pos} {e:Expr} {es:Yi} {t:TA} {id T:String} {r:List V->Hp->VK->Prop}
def tCB (r:List V->Hp->VK->Prop) (t:TA):TE:=λσ H Q=>t σ H λvs H1=>r vs H1 Q
theorem zOM (hc:zBT X (.builtin id) r) (hg:Gl X x) (hm:X.mg x=none) (hv:bootBuiltins x=some (.builtin id)) (ha:PA X (e::es) t) (hn:x ≠ "__name__" := by decide) (hdb:(x==("__debug__" : Str))=false:=by decide)
  (he:starEach (e::es) X.env=(false,eval e X.env)::starEach es X.env:=by rfl) (hpl:(backTo pos (starEach es X.env)).any (·.1)=false:=by rfl):PE X (.Call (.Name x p) (e::es) [] pos) (tCB r t):=by
 intro zB s σ H Q I h;refine wpAny_Call_Name_kw (zD7 I hg hm hv ?_ hn hdb);exact PyProof.Rows.callWith_builtin1 (thn (ha pos zB s σ H _ I h) λus s1 ⟨vs,H1,I1,r1,q1⟩=>hc zB s1 σ H1 vs us Q I1 r1 q1) he hpl
theorem zCn (hc:zBT X (.type T) r) (hg:Gl X x) (hm:X.mg x=none) (hv:bootBuiltins x=some (.type T)) (ha:PA X (e::es) t) (hn:x ≠ "__name__" := by decide) (hdb:(x==("__debug__" : Str))=false:=by decide)
  (he:starEach (e::es) X.env=(false,eval e X.env)::starEach es X.env:=by rfl) (hpl:(backTo pos (starEach es X.env)).any (·.1)=false:=by rfl):PE X (.Call (.Name x p) (e::es) [] pos) (tCB r t):=by
 intro zB s σ H Q I h;refine wpAny_Call_Name_kw (zD7 I hg hm hv ?_ hn hdb);exact PyProof.Rows.callWith_type1 (thn (ha pos zB s σ H _ I h) λus s1 ⟨vs,H1,I1,r1,q1⟩=>hc zB s1 σ H1 vs us Q I1 r1 q1) he hpl
end
end L2
namespace HT
open PySem PyProof.Rows
section
variable {prog:Ym} {w:Yo} {A:Yn} {E:Yc} {s:Yl}
theorem zRQ {t b:Yt} {vs ws:Yf} {Q:Yc} (ht:IsTup s.heap t vs.toArray) (hb:IsTup s.heap b ws.toArray) (hv:vs≠[])
  (h1:ws=[]->Q (.ref t) s) (h2:ws≠[]->Q (.ref s.heap.objs.size) { s with heap:=s.heap.push { cls:=.type "tuple", data:=.seq (vs++ws).toArray } })
  (hsz:vs.length+ws.length<=sizeLine):wpAny (model prog w) A (binaryOp .Add (.ref t) (.ref b)) Q E s:=by
 obtain ⟨⟨cls,dd,data,sl⟩,ho,hc,n,hd⟩:=id ht;obtain ⟨⟨cls2,dd2,data2,sl2⟩,ho2,hc2,n2,hd2⟩:=id hb;simp only at hc hd hc2 hd2;subst hc hd hc2 hd2;have e:vs.toArray++ws.toArray=(vs++ws).toArray:=by simp
 by_cases hw:ws=[]
 .exact concat_meets ⟨_,ho,rfl⟩ ⟨_,ho2,rfl⟩ noFill_tuple_add seq_tuple_add PySem.F.slot_tuple_add PySem.F.entry_tuple_add (PySem.F.args_tuple_add_2 _ _)
   (tuple_addW1 t b vs.toArray ws.toArray n n2 dd dd2 sl sl2 (by simpa using hv) (by simp[hw])) ⟨ho,ho2,h1 hw⟩
 .refine concat_meets ⟨_,ho,rfl⟩ ⟨_,ho2,rfl⟩ noFill_tuple_add seq_tuple_add PySem.F.slot_tuple_add PySem.F.entry_tuple_add (PySem.F.args_tuple_add_2 _ _)
   (tuple_addW2 t b vs.toArray ws.toArray n n2 dd dd2 sl sl2 (by simpa using hv) (by simpa using hw) (by rw[zVW,zVW];exact hsz)) ⟨ho,ho2,?_⟩
  rw[e];exact h2 hw
def sIx (n d:Nat):Option Int->Nat
 |none=>d
 |some v=>if v<0 then (v+(n:Int)).toNat else min v.toNat n
theorem zQ5 (n d k:Nat):sIx n d (some (k:Int))=min k n:=by
 show (if (k:Int)<0 then ((k:Int)+(n:Int)).toNat else min (k:Int).toNat n)=min k n;rw[zVg (by omega),zX8]
theorem zTN (n d:Nat) (hd:d<=n) (o:Ys):sIx n d o<=n:=by
 cases o with
 |none=>exact hd
 |some v=>
  show (if v<0 then (v+(n:Int)).toNat else min v.toNat n)<=n;by_cases hv:v<0
  .rw[zVd hv];omega
  .rw[zVg hv];exact Nat.min_le_right _ _
theorem zLz (v:Int) (n d:Nat):(if v<0 then max (v+(n:Int)) 0 else min v (n:Int))=((sIx n d (some v):Nat):Int):=by
 show (if v<0 then max (v+(n:Int)) 0 else min v (n:Int))=(((if v<0 then (v+(n:Int)).toNat else min v.toNat n):Nat):Int);by_cases hv:v<0
 .simp only[zVd hv];omega
 .simp only[zVg hv];omega
theorem zLa (lo hi:Ys) (n:Nat):Builtin.Slice.sliceAdjust lo hi 1 (n:Int)=(((sIx n 0 lo:Nat):Int),((sIx n n hi:Nat):Int)):=by
 have h1:¬ ((1:Int)<0):=by omega
 unfold Builtin.Slice.sliceAdjust;simp only[h1,if_false];refine Prod.ext ?_ ?_
 .cases lo with
  |none=>rfl
  |some v=>exact zLz v n 0
 .cases hi with
  |none=>rfl
  |some v=>exact zLz v n n
theorem zLG (i j:Nat):Builtin.Slice.slicePlaces (i:Int) (j:Int) 1=j-i:=by
 unfold Builtin.Slice.slicePlaces;have h1:(1:Int)>0:=by omega
 simp only[h1,if_true,Int.ediv_one];split <;> omega
theorem zFm {v:Yu} {o:Ys} {Q:Option Int->Shared->Prop} (p:IsPart v o) (h:Q o s):wpAny (model prog w) A (Builtin.Slice.slicePartIndex v) Q E s:=by
 cases p with
 |none=>exact slicePart_none h
 |int i t=>exact slicePart_int h
theorem zCl {sl:Yt} {vl vu:Yu} {lo hi:Ys} {n:Nat} {Q:Int × Int × Nat->Shared->Prop} (hs:s.heap.IsSliceOf sl vl vu .none) (pl:IsPart vl lo) (pu:IsPart vu hi)
  (h:Q (((sIx n 0 lo:Nat):Int),1,sIx n n hi-sIx n 0 lo) s):wpAny (model prog w) A (Builtin.Slice.sliceApplied (.ref sl) (pure (n:Int))) Q E s:=by
 obtain ⟨os,hos,hcs,hds⟩:=id hs;unfold Builtin.Slice.sliceApplied Builtin.Slice.sliceFields;refine zVO (zVO (zV3 hos hds (x:=vl) rfl (zVO (zV3 hos hds (x:=vu) rfl (zVO (zV3 hos hds (x:=.none) rfl (zVQ ?_)))))));refine zVO (slicePart_none ?_);show wpAny _ _ (if ((1:Int)==0)=true then _ else _) _ _ s;rw[zVg (by decide)];refine zVO (zFm pl (zVO (zFm pu (zVO (zVQ ?_)))));show wpAny _ _ (match Builtin.Slice.sliceAdjust lo hi 1 (n:Int) with|(lo,hi)=>pure (lo,(1:Int),Builtin.Slice.slicePlaces lo hi 1)) _ _ s;rw[zLa lo hi n];show wpAny _ _ (pure (((sIx n 0 lo:Nat):Int),(1:Int),Builtin.Slice.slicePlaces ((sIx n 0 lo:Nat):Int) ((sIx n n hi:Nat):Int) 1)) _ _ s;rw[zLG];exact zVQ h
theorem zO5 (xs:Yp) (i k:Nat):((List.range k).filterMap λ(m:Nat)=>xs[((i:Int)+(m:Int)*1).toNat]?).toArray=((xs.toList.drop i).take k).toArray:=by
 have e:(λ(m:Nat)=>xs[((i:Int)+(m:Int)*1).toNat]?)=λm=>xs[i+m]?:=by
  funext m;have:((i:Int)+(m:Int)*1).toNat=i+m:=by omega
  rw[this]
 rw[e];have:=pick_run xs i k;rw[List.filterMap_map]at this;have e2:((λx=>xs[x]?)∘λx=>i+x)=λm=>xs[i+m]?:=rfl;rw[e2]at this;rw[this]
theorem zEg {t sl:Yt} {items:Yp} {vl vu:Yu} {lo hi:Ys} {Q:Yc} (ht:IsTup s.heap t items) (hs:s.heap.IsSliceOf sl vl vu .none) (pl:IsPart vl lo) (pu:IsPart vu hi)
  (hw:¬ (sIx items.size 0 lo=0/\sIx items.size items.size hi=items.size))
  (h:Q (.ref s.heap.objs.size) { s with heap:=s.heap.push { cls:=.type "tuple", data:=.seq ((items.toList.drop (sIx items.size 0 lo)).take (sIx items.size items.size hi-sIx items.size 0 lo)).toArray } })
  (hsz:items.size<=sizeLine):wpAny (model prog w) A (getItem (.ref t) (.ref sl)) Q E s:=by
 have htake:sizeOk (.seq ((items.toList.drop (sIx items.size 0 lo)).take (sIx items.size items.size hi-sIx items.size 0 lo)).toArray):=by
  show ((items.toList.drop (sIx items.size 0 lo)).take (sIx items.size items.size hi-sIx items.size 0 lo)).toArray.size<=sizeLine;rw[zVW,zWm,zXr,zV7];omega
 have hj:sIx items.size items.size hi<=items.size:=zTN _ _ (zVU _) hi;obtain ⟨os,hos,hcs,hds⟩:=id hs;have hTs:s.TypeIs (.ref sl) "slice" := ⟨os,hos,hcs⟩;unfold getItem;try with_reducible refine zWH ?_
 first|refine zVO (zVQ ?_)|skip
 refine zVO (wpAny_sequenceKey ht.typeIs (by decide) ?_)
 refine zVO (zV0 (name:=Str.ofString "__getitem__") ht.typeIs zWw
  (zV1 zWw ht.typeIs entry_tuple_getitem ?_ (args_tuple_getitem _ _)))
 show wpAny _ _ (Builtin.Tuple.tupleItemsOf (.ref t) >>= _) _ _ s;refine zVO (tupleItemsOf_ ht ?_);refine zVO (wpAny_typeOf hTs ?_);rw[zVd (by decide)];refine zVO (zCl hs pl pu ?_);have hno:¬ ((((sIx items.size 0 lo:Nat):Int)==0&&(1:Int)==1&&(sIx items.size items.size hi-sIx items.size 0 lo)==items.size)=true):=by
  intro q;rw[zVy,zVy]at q;have q1:((sIx items.size 0 lo:Nat):Int)=0:=eq_of_beq q.1.1;have q2:sIx items.size items.size hi-sIx items.size 0 lo=items.size:=eq_of_beq q.2;exact hw ⟨by omega,by omega⟩
 show wpAny _ _ (if (((sIx items.size 0 lo:Nat):Int)==0&&(1:Int)==1&&(sIx items.size items.size hi-sIx items.size 0 lo)==items.size)=true then _ else _) _ _ s;rw[zVg hno,zO5]
 first
  |exact zVO (m:=Builtin.Tuple.tupleExact _) (zVr (zVQ ⟨_,rfl,zVQ h⟩) htake)
  |exact zVO (m:=Builtin.Tuple.tupleExact _) (zVr (zVO (zVQ (zVQ ⟨_,rfl,zVQ h⟩))) htake)
  |exact zVO (zVO (m:=Builtin.Tuple.tupleExact _) (zVr (zVQ (zVQ ⟨_,rfl,zVQ h⟩)) htake))
  |exact zVO (zVO (m:=Builtin.Tuple.tupleExact _) (zVr (zVQ ⟨_,rfl,zVQ h⟩) htake))
end
end HT
namespace L2
open PySem PySem.Spec PyProof.Rows
abbrev TO:=St->Hp->(Option Int->Hp->Prop)->Prop
def PO (X:Cx) (e:Option Expr) (t:TO):Prop :=
 ∀ (zB:Yd) (s:Yl) (σ:St) (H:Hp) (Q:Option Int->Hp->Prop),Inv X zB σ H s->t σ H Q ->
  wpAny (model X.prog X.w) X.A (evalPart e X.env) (λu s'=>∃ o H',Inv X zB σ H' s'/\IsPart u o/\Q o H') X.xe s
def zRV:TO:=λ_ H Q=>Q none H
def zTm (t:TE):TO:=λσ H Q=>t σ H λx H1=>∃ i,x=.int i/\Q (some i) H1
section
variable {X:Cx} {e:Expr} {te:TE} {lo hi:Option Expr} {tl th:TO} {pos p2:Pos}
theorem zQP:PO X none zRV:=by
 intro zB s σ H Q I h;rw[evalPart_none];exact zVQ ⟨none,H,I,.none,h⟩
theorem zQv (h:PE X e te):PO X (some e) (zTm te):=by
 intro zB s σ H Q I hw;rw[evalPart_some];refine thn (h zB s σ H _ I hw) λu s1 ⟨x,H1,I1,r1,q1⟩=>?_;obtain ⟨i,rfl,q⟩:=q1;obtain ⟨t,rfl⟩:=r1;exact ⟨some i,H1,I1,.int i t,q⟩
def SlR (X:Cx) (r:V->Option Int->Option Int->Hp->VK->Prop):Prop :=
 ∀ (zB:Yd) (s:Yl) (σ:St) (H:Hp) (x:V) (v vl vu:Yu) (lo hi:Ys) (sl:Yt) (Q:VK),Inv X zB σ H s->zn x v->s.heap.IsSliceOf sl vl vu .none->IsPart vl lo->IsPart vu hi->r x lo hi H Q ->
  ∃ T id,typeLookup (.type T) "__getitem__" = pure (some (.builtin id))/\s.TypeIs v T/\wpAny (model X.prog X.w) X.A (getItem v (.ref sl)) (EP X zB σ Q) X.xe s
theorem SlR.or {r r':V->Option Int->Option Int->Hp->VK->Prop} (h:SlR X r) (h':SlR X r'):SlR X (λx lo hi H Q=>r x lo hi H Q\/r' x lo hi H Q):=by
 intro zB s σ H x v vl vu lo hi sl Q I rx hs pl pu q;rcases q with q|q
 .exact h zB s σ H x v vl vu lo hi sl Q I rx hs pl pu q
 .exact h' zB s σ H x v vl vu lo hi sl Q I rx hs pl pu q
def tSl (r:V->Option Int->Option Int->Hp->VK->Prop) (te:TE) (tl th:TO):TE:=λσ H Q=>te σ H λx H1=>tl σ H1 λl H2=>th σ H2 λu H3=>r x l u H3 Q
theorem zPL {r:V->Option Int->Option Int->Hp->VK->Prop} (hr:SlR X r) (he:PE X e te) (hl:PO X lo tl) (hu:PO X hi th):PE X (.Subscript e (.Slice lo hi none p2) pos) (tSl r te tl th):=by
 intro zB s σ H Q I h;refine Subscript_ (thn (he zB s σ H _ I h) λv s1 ⟨x,H1,I1,r1,q1⟩=>?_);refine wpAny_Slice (thn (hl zB s1 σ H1 _ I1 q1) λvl s2 ⟨l,H2,I2,pl,q2⟩=>thn (hu zB s2 σ H2 _ I2 q2) λvu s3 ⟨u,H3,I3,pu,q3⟩=>?_);rw[evalPart_none];refine zVQ ?_;have I4:Inv X zB σ H3 { s3 with heap:=s3.heap.push { cls:=.type "slice", data:=.fields #[vl,vu,.none] } }:=I3.kept (t':=s3.toks) λb ob q=>zVP _ q;obtain ⟨T,id,hT,ht,hg⟩:=hr zB { s3 with heap:=s3.heap.push { cls:=.type "slice", data:=.fields #[vl,vu,.none] } } σ H3 x v vl vu l u s3.heap.objs.size Q I4 r1 (Heap.IsSliceOf.new ..) pl pu q3;show wpAny (model X.prog X.w) X.A (subscriptTail e (.Slice lo hi none p2) v (.ref s3.heap.objs.size)) (EP X zB σ Q) X.xe { s3 with heap:=s3.heap.push { cls:=.type "slice", data:=.fields #[vl,vu,.none] } };exact tail_any (ops:=[.ref s3.heap.objs.size,v]) ht hT hg (by with_unfolding_all rfl)
def zJp (xs:List V) (lo hi:Ys):List V:=(xs.drop (HT.sIx xs.length 0 lo)).take (HT.sIx xs.length xs.length hi-HT.sIx xs.length 0 lo)
theorem zFO (xs:List V) (lo hi:Ys):(zJp xs lo hi).length<=xs.length:=by
 unfold zJp;rw[zWm,zXr];omega
def zU4 (K:Yb):V->Option Int->Option Int->Hp->VK->Prop:=λx lo hi H Q=>∃ a xs,x=.ref a/\SqT K H a xs /\
 ¬ (HT.sIx xs.length 0 lo=0/\HT.sIx xs.length xs.length hi=xs.length) /\ ∀ p,H p=none->Q (.ref p) (upd H p (.tup (zJp xs lo hi)))
theorem zTX:SlR X (zU4 X.K):=by
 intro zB s σ H x v vl vu lo hi sl Q I rx hs pl pu h;obtain ⟨a,xs,rfl,hx,hw,q⟩:=h;cases rx;obtain ⟨its,r,ht,hz⟩:=I.tuple hx;have hlen:its.toArray.size=xs.length:=by rw[zVW];exact r.length.symm
 refine ⟨"tuple", _,zWw.lookup,ht.typeIs,?_⟩;refine HT.zEg ht hs pl pu (by rw[hlen];exact hw) ?_ (by rw[hlen];exact hz);rw[hlen];refine ⟨.ref s.heap.objs.size,_,I.laid (t':=s.toks) (o:=.tup (zJp xs lo hi)) (λb ob q=>zVP _ q) (zVU _) ?_,rfl,q _ (I.hok.fresh (zVU _))⟩;exact ⟨zVp (zFO xs lo hi) hz,_,(r.drop (HT.sIx xs.length 0 lo)).take (HT.sIx xs.length xs.length hi-HT.sIx xs.length 0 lo),zCD.new _ _⟩
def zRp (K:Yb):R2:=λx y H Q=>∃ a b xs ys,x=.ref a/\y=.ref b/\SqT K H a xs/\SqT K H b ys/\xs≠[]/\xs.length+ys.length<=sizeLine /\
 (ys=[]->Q (.ref a) H)/\(ys≠[] -> ∀ p,H p=none->Q (.ref p) (upd H p (.tup (xs++ys))))
theorem zZ.nil_iff {xs:List V} {us:Yf} (r:zZ xs us):us=[] ↔ xs=[]:=by
 cases r with
 |nil=>simp
 |cons _ _=>simp
theorem zQy:OpR X (binaryOp .Add) (zRp X.K):=by
 intro zB s σ H x y v u Q I rx ry h;obtain ⟨a,b,xs,ys,rfl,rfl,ha,hb,hx,hz,q1,q2⟩:=h;cases rx;cases ry;obtain ⟨its,r1,p1,_⟩:=I.tuple ha;obtain ⟨its2,r2,p2,_⟩:=I.tuple hb;refine HT.zRQ p1 p2 (λz=>hx (r1.nil_iff.mp z)) (λz=>⟨.ref a,H,I,rfl,q1 (r2.nil_iff.mp z)⟩) (λz=>?_) (by rw[<-r1.length,<-r2.length];exact hz);refine ⟨.ref s.heap.objs.size,_,I.laid (t':=s.toks) (o:=.tup (xs++ys)) (λb ob q=>zVP _ q) (zVU _) ?_,rfl,q2 (λw=>z (r2.nil_iff.mpr w)) _ (I.hok.fresh (zVU _))⟩;exact ⟨by rw[zVe];exact hz,_,r1.append r2,zCD.new _ _⟩
end
def ixN (n:Nat) (i:Int):Option Nat:=if 0<=i then (if i<n then some i.toNat else none) else if -(n:Int)<=i then some (i+n).toNat else none
def atI {α:Type} (xs:List α) (i:Int):Option α:=(ixN xs.length i).bind λj=>xs[j]?
theorem zIf {n:Nat} {i:Int} {j:Nat} (h:ixN n i=some j):seqIndex? i n=some j/\j<n /\ -(n:Int)<=i/\i<n:=by
 unfold ixN at h;by_cases h0:0<=i
 .rw[zVd h0]at h;by_cases h1:i<n
  .rw[zVd h1]at h;have e:i.toNat=j:=zWO h;exact ⟨by rw[seqIndex_of h0 h1,e],by omega,by omega,h1⟩
  .rw[zVg h1]at h;cases h
 .rw[zVg h0]at h;by_cases h1 : -(n:Int)<=i
  .rw[zVd h1]at h;have e:(i+n).toNat=j:=zWO h;exact ⟨by rw[seqIndex_neg (by omega) h1,e],by omega,h1,by omega⟩
  .rw[zVg h1]at h;cases h
theorem zIH {α:Type} {xs:List α} {i:Int} {v:α} (h:atI xs i=some v):∃ j,seqIndex? i xs.length=some j/\xs[j]?=some v/\j<xs.length /\ -(xs.length:Int)<=i/\i<xs.length:=by
 unfold atI at h;cases e:ixN xs.length i with
 |none=>rw[e]at h;cases h
 |some j=>
  rw[e]at h;obtain ⟨h1,h2,h3,h4⟩:=zIf e;exact ⟨j,h1,h,h2,h3,h4⟩
theorem zL9 {α:Type} {xs:List α} {j:Nat} {v:α} (h:xs[j]?=some v):atI xs (j:Int)=some v:=by
 have hj:j<xs.length:=(zVR.mp h).1;have e:ixN xs.length (j:Int)=some j:=by
  unfold ixN;rw[zVd (by omega),zVd (by omega)];simp
 unfold atI;rw[e];exact h
def zLq (b:Expr):Prop:=∀ o i,subscripted b false o i=operate [o,i] (getItem o i)
def IxR (X:Cx) (r:R2):Prop :=
 ∀ (value slice:Expr) (zB:Yd) (s:Yl) (σ:St) (H:Hp) (x y:V) (v u:Yu) (Q:VK),Inv X zB σ H s->zn x v->zn y u->r x y H Q ->
  subscripted slice false v u=operate [v,u] (getItem v u)->wpAny (model X.prog X.w) X.A (subscriptTail value slice v u) (EP X zB σ Q) X.xe s
def MtR (X:Cx) (id:String) (r:V->List V->Hp->VK->Prop):Prop :=
 ∀ (zB:Yd) (s:Yl) (σ:St) (H:Hp) (x:V) (xs:List V) (v:Yu) (us:Yf) (Q:VK),Inv X zB σ H s->zn x v->zZ xs us->r x xs H Q ->
  wpAny (model X.prog X.w) X.A (call (.builtin id) (v::us)) (EP X zB σ Q) X.xe s
section
variable {X:Cx} {a b:Expr} {ta tb:TE} {pos:Pos}
theorem IxR.or {r r':R2} (h:IxR X r) (h':IxR X r'):IxR X (λx y H Q=>r x y H Q\/r' x y H Q):=by
 intro value slice zB s σ H x y v u Q I rx ry q hs;rcases q with q|q
 .exact h value slice zB s σ H x y v u Q I rx ry q hs
 .exact h' value slice zB s σ H x y v u Q I rx ry q hs
theorem zT7 {r:R2} (hr:IxR X r) (ha:PE X a ta) (hb:PE X b tb) (hs:zLq b):PE X (.Subscript a b pos) (tOp r ta tb):=by
 intro zB s σ H Q I h;exact Subscript_ (zTG ha hb I h λv u s2 x y H2 I2 rx ry q=>hr a b zB s2 σ H2 x y v u Q I2 rx ry q (hs _ _))
def zUK (K:Yb):R2:=λx y H Q=>∃ p xs i v,x=.ref p/\y=.int i/\SqL K H p xs/\atI xs i=some v/\Q v H
def zT1 (K:Yb):R2:=λx y H Q=>∃ p xs i v,x=.ref p/\y=.int i/\SqT K H p xs/\atI xs i=some v/\Q v H
def zUP:R2:=λx y H Q=>∃ z i c,x=.str z/\y=.int i/\z.length<=sizeLine/\atI z.cps.toList i=some c/\Q (.str ⟨#[c]⟩) H
theorem zRb:IxR X (zUK X.K):=by
 intro value slice zB s σ H x y v u Q I rx ry h hs;obtain ⟨p,xs,i,z,rfl,rfl,hq,he,q⟩:=h;cases rx;obtain ⟨t,rfl⟩:=ry;obtain ⟨its,r,pl,hz⟩:=I.list hq;obtain ⟨j,h1,h2,h3,h4,h5⟩:=zIH he;obtain ⟨w,ew,rw'⟩:=r.get h2;have hl:=r.length;have hn:=zD6;have fin:EP X zB σ Q w s:=⟨z,H,I,rw',q⟩;by_cases h0:0<=i
 .have hj:i.toNat=j:=by
   rw[seqIndex_of h0 h5]at h1;exact zWO h1
  exact item_listR pl.isList h0 (by omega) (by rw[hj];simpa using ew) fin hs
 .have hj:(i+(its.toArray.size:Int)).toNat=j:=by
   rw[seqIndex_neg (by omega) h4]at h1;rw[zVW,<-hl];exact zWO h1
  exact subscriptTail_builtinR (x:=w) pl.isList.typeIs slot_list_getitem.lookup
   (wpAny_getItem_list_neg (Q:=λr s'=>r=w/\EP X zB σ Q r s') pl.isList (by omega) (by rw[zVW] <;> omega) (by omega) (by rw[hj];simpa using ew) ⟨rfl,fin⟩) hs
theorem zSJ:IxR X (zT1 X.K):=by
 intro value slice zB s σ H x y v u Q I rx ry h hs;obtain ⟨p,xs,i,z,rfl,rfl,hq,he,q⟩:=h;cases rx;obtain ⟨t,rfl⟩:=ry;obtain ⟨its,r,pl,hz⟩:=I.tuple hq;obtain ⟨j,h1,h2,h3,h4,h5⟩:=zIH he;obtain ⟨w,ew,rw'⟩:=r.get h2;have hl:=r.length;have hn:=zD6;have fin:EP X zB σ Q w s:=⟨z,H,I,rw',q⟩
 exact subscriptTail_builtinR (x:=w) pl.typeIs slot_tuple_getitem.lookup
  (getItem_tuple (j:=j) (Q:=λr s'=>r=w/\EP X zB σ Q r s') pl (by omega) (by omega) (by rw[zVW,<-hl];exact h1) (by simpa using ew) ⟨rfl,fin⟩) hs
theorem zSR:IxR X zUP:=by
 intro value slice zB s σ H x y v u Q I rx ry h hs;obtain ⟨z,i,c,rfl,rfl,hz,he,q⟩:=h;obtain ⟨t,rfl⟩:=rx;obtain ⟨t',rfl⟩:=ry;obtain ⟨j,h1,h2,h3,h4,h5⟩:=zIH he;have hl:z.cps.toList.length=z.length:=by simp[Str.length]
 rw[hl]at h1 h4 h5;have hn:=zD6;exact tail_any (typeIs_str s z t) slot_str_getitem.lookup (getItem_str (c:=c) (by
  have e1:decide (i < -(2 ^ 63:Int))=false:=zVx (by omega);have e2:decide (i≥2 ^ 63)=false:=zVx (by omega);rw[e1,e2,Bool.or_false]) (by rw[h1];simpa using h2) ⟨.str ⟨#[c]⟩,H,I.tok _,⟨_,rfl⟩,q⟩) hs
def rIx (K:Yb):R2:=λx y H Q=>zUK K x y H Q\/zT1 K x y H Q\/zUP x y H Q
theorem zS1:IxR X (rIx X.K):=zRb.or (zSJ.or zSR)
theorem zLQ (its:List Value) (n j:Nat) (u:Value):Obj.mapSeq (·.setIfInBounds j u) { cls:=.type "list", data:=.seq its.toArray n }={ cls:=.type "list", data:=.seq (its.set j u).toArray n }:=by
 simp[Obj.mapSeq]
theorem Inv.lst {zB:Yd} {σ:St} {H:Hp} {s:Yl} {p:Yt} {xs:List V} (I:Inv X zB σ H s) (h:H p=some (.lst xs)) :
  ∃ (its:List Value) (n:Nat),zZ xs its/\s.heap.get? p=some { cls:=.type "list", data:=.seq its.toArray n }/\xs.length<=sizeLine:=by
 obtain ⟨z,its,n,r,e⟩:=I.hok p _ h;exact ⟨its,n,r,e,z⟩
theorem Inv.lstUpd {zB:Yd} {σ:St} {H:Hp} {s:Yl} {p:Yt} {xs ys:List V} {its its':Yf} {n n':Nat} {f:Obj->Obj} (I:Inv X zB σ H s) (h:H p=some (.lst xs))
  (ho:s.heap.get? p=some { cls:=.type "list", data:=.seq its.toArray n }) (hf:f { cls:=.type "list", data:=.seq its.toArray n }={ cls:=.type "list", data:=.seq its'.toArray n' }) (r:zZ ys its') (hz:ys.length<=sizeLine) (t:Nat) :
  Inv X zB σ (upd H p (.lst ys)) { s with heap:=s.heap.update p f,toks:=t }:=by
 have e:(s.heap.update p f).get? p=some { cls:=.type "list", data:=.seq its'.toArray n' }:=by
  rw[zWB f ho (by rw[hf] <;> rfl),hf]
 refine I.write (x:=p) (e:=p) (by rw[h];trivial) (.inl rfl) (λb u hb q=>(zV5 _ _ (Ne.symm hb)).trans q) ⟨_,e⟩ ?_;exact ⟨hz,its',n',r,e⟩
def zTq:V->V->V->Hp->(Hp->Prop)->Prop:=λo i v H Q=>∃ p xs k j,o=.ref p/\i=.int k/\H p=some (.lst xs)/\ixN xs.length k=some j/\Q (upd H p (.lst (xs.set j v)))
theorem zPD:zTy X zTq:=by
 intro zB s σ H o i v ov iv u Q I ro ri rv h;obtain ⟨p,xs,k,j,rfl,rfl,hp,hj,q⟩:=h;cases ro;obtain ⟨t,rfl⟩:=ri;obtain ⟨its,n,r,ho,hz⟩:=I.lst hp;obtain ⟨h1,h2,h3,h4⟩:=zIf hj;have hl:=r.length;have hn:=zD6;have I':Inv X zB σ (upd H p (.lst (xs.set j v))) { s with heap:=s.heap.update p (Obj.mapSeq (·.setIfInBounds j u)) } :=
  I.lstUpd hp ho (zLQ its n j u) (r.set rv j) (by rw[List.length_set];exact hz) s.toks
 by_cases h0:0<=k
 .have hk:k.toNat=j:=by
   rw[seqIndex_of h0 h4]at h1;exact zWO h1
  exact PySem.W.ki_setAt ho h0 (by omega) (by rw[zVW,<-hl];exact h4) (by rw[hk];exact ⟨_,I',q⟩)
 .have hk:(k+(its.toArray.size:Int)).toNat=j:=by
   rw[seqIndex_neg (by omega) h3]at h1;rw[zVW,<-hl];exact zWO h1
  exact PySem.W.ki_setBack ho (by omega) (by rw[zVW,<-hl];exact h3) (by omega) (by rw[hk];exact ⟨_,I',q⟩)
theorem zIs (lo hi:Ys) (n:Nat):(sliceBounds lo hi none n).1=((HT.sIx n 0 lo:Nat):Int)/\(sliceBounds lo hi none n).2.1=((HT.sIx n n hi:Nat):Int)/\(sliceBounds lo hi none n).2.2=1:=by
 refine ⟨?_,?_,rfl⟩
 .cases lo with
  |none=>simp[sliceBounds,HT.sIx]
  |some i=>
   simp only[sliceBounds,HT.sIx,Option.getD_none,show (1:Int)>0 by decide,if_true];by_cases h:i<0
   .simp only[h,if_true] <;> omega
   .simp only[h,if_false] <;> omega
 .cases hi with
  |none=>simp[sliceBounds,HT.sIx]
  |some i=>
   simp only[sliceBounds,HT.sIx,Option.getD_none,show (1:Int)>0 by decide,if_true];by_cases h:i<0
   .simp only[h,if_true] <;> omega
   .simp only[h,if_false] <;> omega
theorem zHE (its:Yf) (lo hi:Ys):slicePick its.toArray lo hi none=((its.drop (HT.sIx its.length 0 lo)).take (HT.sIx its.length its.length hi-HT.sIx its.length 0 lo)).toArray:=by
 obtain ⟨h1,h2,h3⟩:=zIs lo hi its.toArray.size;unfold slicePick;rw[h1,h2,h3];simp only[sliceRange_one,pick_run,zVW] <;> rfl
def zUv (K:Yb):V->Option Int->Option Int->Hp->VK->Prop:=λx lo hi H Q=>∃ a xs,x=.ref a/\SqL K H a xs /\ ∀ p,H p=none->Q (.ref p) (upd H p (.lst (zJp xs lo hi)))
theorem zRJ:SlR X (zUv X.K):=by
 intro zB s σ H x v vl vu lo hi sl Q I rx hs pl pu h;obtain ⟨a,xs,rfl,hx,q⟩:=h;cases rx;obtain ⟨its,r,ht,hz⟩:=I.list hx;have hlen:=r.length;refine ⟨"list", _,slot_list_getitem.lookup,ht.isList.typeIs,?_⟩;refine wpAny_getItem_list_slice ht.isList hs pl pu .none (by simp) ?_ (by rw[zVW] <;> omega);rw[zHE,<-hlen];refine ⟨.ref s.heap.objs.size,_,I.laid (t':=s.toks) (o:=.lst (zJp xs lo hi)) (λb ob q=>zVP _ q) (zVU _) ?_,rfl,q _ (I.hok.fresh (zVU _))⟩;exact ⟨zVp (zFO xs lo hi) hz,_,0,(r.drop (HT.sIx xs.length 0 lo)).take (HT.sIx xs.length xs.length hi-HT.sIx xs.length 0 lo),zVY _ rfl⟩
theorem zIh:zBT X (.builtin "len") (λxs H Q=>∃ p ys,xs=[.ref p]/\(SqL X.K H p ys\/SqT X.K H p ys)/\Q (.int ys.length) H):=by
 intro zB s σ H xs us Q I r h;obtain ⟨p,ys,rfl,hq,q⟩:=h;obtain ⟨u,rfl,rx⟩:=zCo r;cases rx;have hn:=zD6;rcases hq with hq|hq
 .obtain ⟨its,r',pl,hz⟩:=I.list hq;have hlen:=r'.length;exact Calls.call_len_list pl.isList (by simp only[zVW] <;> omega) ⟨.int ys.length,H,I.tok _,⟨s.toks+1,by rw[zVW,hlen]⟩,q⟩
 .obtain ⟨its,r',pl,hz⟩:=I.tuple hq;have hlen:=r'.length;exact len_tuple pl (by simp only[zVW] <;> omega) ⟨.int ys.length,H,I.tok _,⟨s.toks+1,by rw[zVW,hlen]⟩,q⟩
theorem zIJ:zBT X (.type "list") (λxs H Q=>∃ p ys,xs=[.ref p]/\(SqL X.K H p ys\/SqT X.K H p ys) /\ ∀ l,H l=none->Q (.ref l) (upd H l (.lst ys))):=by
 intro zB s σ H xs us Q I r h;obtain ⟨p,ys,rfl,hq,q⟩:=h;obtain ⟨u,rfl,rx⟩:=zCo r;cases rx
 have fin:∀ (its:Yf),zZ ys its->ys.length<=sizeLine -> ∀ (h':Heap) (c':Nat),(∀ b o',s.heap.get? b=some o'->h'.get? b=some o') ->
   h'.get? s.heap.objs.size=some { cls:=.type "list", dict:=none,data:=.seq its.toArray c',slots:=#[] }->EP X zB σ Q (.ref s.heap.objs.size) { s with heap:=h' }:=λits r' hz h' c' kp e=>
  ⟨.ref s.heap.objs.size,_,I.laid (t':=s.toks) kp (zVU _) (show zAT X.prog X.w _ h' _ (.lst ys)from ⟨hz,its,c',r',e⟩),rfl,q _ (I.hok.fresh (zVU _))⟩
 rcases hq with hq|hq
 .obtain ⟨its,r',pl,hz⟩:=I.list hq;have hlen:=r'.length;obtain ⟨o,ho,hc,n,hd⟩:=pl.isList;exact call_list_seq p (.inl rfl) ho hc hd (λh' c' kp e=>fin its r' hz h' c' kp e) (by simp only[zVW] <;> omega)
 .obtain ⟨its,r',pl,hz⟩:=I.tuple hq;have hlen:=r'.length;obtain ⟨o,ho,hc,n,hd⟩:=pl;exact call_list_seq p (.inr rfl) ho hc hd (λh' c' kp e=>fin its r' hz h' c' kp e) (by simp only[zVW] <;> omega)
theorem zG6:zBT X (.type "tuple") (λxs H Q=>∃ p ys,xs=[.ref p]/\((SqL X.K H p ys /\ ∀ l,H l=none->Q (.ref l) (upd H l (.tup ys)))\/(SqT X.K H p ys/\Q (.ref p) H))):=by
 intro zB s σ H xs us Q I r h;obtain ⟨p,ys,rfl,h⟩:=h;obtain ⟨u,rfl,rx⟩:=zCo r;cases rx;rcases h with ⟨hq,q⟩|⟨hq,q⟩
 .obtain ⟨its,r',pl,hz⟩:=I.list hq;have hlen:=r'.length;refine call_tuple_list pl.isList (λh' kp=>?_) (by simp only[zVW] <;> omega);have I1:Inv X zB σ H { s with heap:=h' }:=I.kept (t':=s.toks) kp;have I2:Inv X zB σ (upd H h'.objs.size (.tup ys)) { s with heap:=h'.push { cls:=.type "tuple", data:=.seq its.toArray } } :=
   I1.laid (t':=s.toks) (λb o e=>zVP _ e) (zVU _) (show zAT X.prog X.w _ _ _ (.tup ys)from ⟨hz,its,r',zCD.new _ _⟩)
  exact ⟨.ref h'.objs.size,_,I2,rfl,q _ (I1.hok.fresh (zVU _))⟩
 .obtain ⟨its,r',pl,hz⟩:=I.tuple hq;exact call_tuple_same pl ⟨.ref p,H,I,rfl,q⟩
def tyV (K:Yb) (T:String) (x:V) (H:Hp):Prop:=match x with
 |.str _=>T = "str"
 |.int _=>T = "int"
 |.ref p=>(T = "list" /\ ∃ xs,SqL K H p xs)\/(T = "tuple" /\ ((∃ o,K.lookup p=some o/\o.cls=.type "tuple" /\ o.dict=none) \/ ∃ xs,H p=some (.tup xs))) \/
   (T = "dict" /\ ((∃ kvs,H p=some (.dK kvs)) \/ ∃ kvs,H p=some (.dT kvs)))\/(T = "set" /\ ∃ S n,H p=some (.set S n))
 |_=>False
theorem zOz {zB:Yd} {σ:St} {H:Hp} {s:Yl} {T:String} {x:V} {v:Yu} (I:Inv X zB σ H s) (r:zn x v) (ty:tyV X.K T x H) :
  s.TypeIs v T /\ ∀ a,v=.ref a -> ∃ ob,s.heap.get? a=some ob/\ob.dict=none:=by
 cases x with
 |str z=>
  obtain ⟨t,rfl⟩:=r;cases (show T = "str" from ty);exact ⟨typeIs_str s z t,λ_ e=>nomatch e⟩
 |int i=>
  obtain ⟨t,rfl⟩:=r;cases (show T = "int" from ty);exact ⟨typeIs_int s i t,λ_ e=>nomatch e⟩
 |ref p=>
  cases r;rcases ty with ⟨rfl,xs,hq⟩|⟨rfl,⟨o,hk,hc,hd⟩|⟨xs,hq⟩⟩|⟨rfl,hk⟩|⟨rfl,S,n,hk⟩
  .obtain ⟨its,_,pl,_⟩:=I.list hq;refine ⟨pl.isList.typeIs,λa e=>?_⟩;cases e;obtain ⟨o,n,e,c,hd,_⟩:=pl;exact ⟨o,e,hd⟩
  .refine ⟨⟨o,I.kIn p o hk,hc⟩,λa e=>?_⟩;cases e;exact ⟨o,I.kIn _ o hk,hd⟩
  .obtain ⟨_,its,_,o,e,c,_,hd⟩:=I.hok p _ hq;refine ⟨⟨o,e,c⟩,λa e2=>?_⟩;cases e2;exact ⟨o,e,hd⟩
  .have z:∃ o,s.heap.get? p=some o/\o.ExactDict:=by
    rcases hk with ⟨kvs,hk⟩|⟨kvs,hk⟩
    .obtain ⟨_,_,_,_,o,_,_,e,ex,_⟩:=I.hok p _ hk;exact ⟨o,e,ex⟩
    .obtain ⟨_,_,_,_,o,_,_,e,ex,_⟩:=I.hok p _ hk;exact ⟨o,e,ex⟩
   obtain ⟨o,e,ex⟩:=z;refine ⟨⟨o,e,ex.1⟩,λa e2=>?_⟩;cases e2;exact ⟨o,e,ex.2.1⟩
  .obtain ⟨o,_,_,_,e,ex,_⟩:=I.hok p _ hk;refine ⟨⟨o,e,ex.1⟩,λa e2=>?_⟩;cases e2;exact ⟨o,e,ex.2.1⟩
 |_=>exact False.elim ty
def zVK (K:Yb) (T:String) (r:V->List V->Hp->VK->Prop) (to:TE):TE:=λσ H Q=>to σ H λx H1=>tyV K T x H1/\r x [] H1 Q
def tBM (K:Yb) (T:String) (r:V->List V->Hp->VK->Prop) (to:TE) (t:TA):TE:=λσ H Q=>to σ H λx H1=>tyV K T x H1/\t σ H1 λxs H2=>r x xs H2 Q
variable {o e:Expr} {es:Yi} {to:TE} {t:TA} {name:Str} {apos cpos:Pos} {T id:String} {r:V->List V->Hp->VK->Prop}
theorem zSL (pa:PlainAttrs T) (slot:Slot T name id) (hty:typeOf (.builtin id)=pure (.type "method_descriptor")) (hm:MtR X id r) (ho:PE X o to)
  (hbase:attributeBase o name X.env (eval o X.env)=eval o X.env:=by rfl) (hline:(apos.endLine==cpos.line)=true:=by rfl):PE X (.Call (.Attribute o name apos) [] [] cpos) (zVK X.K T r to):=by
 intro zB s σ H Q I h;refine wpAny_Call_method0_late hbase hline (thn (ho zB s σ H _ I h) λv s1 ⟨x,H1,I1,r1,ty,q1⟩=>?_);obtain ⟨h1,h2⟩:=zOz I1 r1 ty;exact ⟨T,id,pa,slot,hty,h1,h2,Calls.callWith_builtin rfl (PySem.evalArgs_none (hm zB s1 σ H1 x [] v [] Q I1 r1 .nil q1))⟩
theorem zJu (pa:PlainAttrs T) (slot:Slot T name id) (hty:typeOf (.builtin id)=pure (.type "method_descriptor")) (hm:MtR X id r) (ho:PE X o to) (ha:PA X (e::es) t)
  (hbase:attributeBase o name X.env (eval o X.env)=eval o X.env:=by rfl)
  (hfew:((backTo cpos (starEach (e::es) X.env)).all (λx=> !x.1)&&(backToKw cpos (keywordEach [] X.env)).all (λx=>x.1.isSome)
   && decide ((e::es).length+([]:List Keyword).length+(if ([]:List Keyword).isEmpty then 0 else 1)<30))=true:=by rfl)
  (hline:(apos.endLine==cpos.line)=true:=by rfl) (hs:starEach (e::es) X.env=(false,eval e X.env)::starEach es X.env:=by rfl) (hplain:(backTo cpos (starEach es X.env)).any (·.1)=false:=by rfl) :
  PE X (.Call (.Attribute o name apos) (e::es) [] cpos) (tBM X.K T r to t):=by
 intro zB s σ H Q I h;refine wpAny_Call_method_late hbase hfew hline rfl (thn (ho zB s σ H _ I h) λv s1 ⟨x,H1,I1,r1,ty,q1⟩=>?_);obtain ⟨h1,h2⟩:=zOz I1 r1 ty;refine ⟨T,id,pa,slot,hty,h1,h2,?_⟩;have hA:=ha cpos zB s1 σ H1 _ I1 q1;rw[hs]at hA ⊢;refine Calls.callWith_builtin (by show (false||(backTo cpos (starEach es X.env)).any (·.1))=false;rw[hplain] <;> rfl) (Calls.evalArgs_plain ?_);exact thn hA λus s2 ⟨vs,H2,I2,r2,q2⟩=>hm zB s2 σ H2 x vs v us Q I2 r1 r2 q2
end
def MtM (X:Cx) (id:String) (r:V->List V->Hp->VK->Prop):Prop :=
 ∀ (zB:Yd) (s:Yl) (σ:St) (H:Hp) (x:V) (xs:List V) (v:Yu) (us:Yf) (Q:VK),Inv X zB σ H s->zn x v->zZ xs us->r x xs H Q ->
  wpAny (model X.prog X.w) X.A (call (.builtin id) (v::us)) (EP X zB σ Q) X.xe s
theorem zZ.one:∀ {x:V} {us:Yf},zZ [x] us -> ∃ u,us=[u]/\zn x u
 |_,_,.cons r .nil=>⟨_,rfl,r⟩
theorem zZ.two:∀ {x y:V} {us:Yf},zZ [x,y] us -> ∃ u v,us=[u,v]/\zn x u/\zn y v
 |_,_,_,.cons r (.cons q .nil)=>⟨_,_,rfl,r,q⟩
theorem zZ.zero:∀ {us:Yf},zZ [] us->us=[]
 |_,.nil=>rfl
theorem zZ.dropLast {xs:List V} {us:Yf} (h:zZ xs us):zZ xs.dropLast us.dropLast:=by
 induction h with
 |nil=>exact .nil
 |cons r t ih=>
  cases t with
  |nil=>exact .nil
  |cons q t'=>exact .cons r ih
theorem zZ.eraseIdx:∀ {xs:List V} {us:Yf} (i:Nat),zZ xs us->zZ (xs.eraseIdx i) (us.eraseIdx i)
 |_,_,_,.nil=> .nil
 |_,_,0,.cons _ t=>t
 |_,_,i+1,.cons r t=> .cons r (zZ.eraseIdx i t)
theorem zEM {α:Type} (l:List α):l.eraseIdx (l.length-1)=l.dropLast:=by
 induction l with
 |nil=>rfl
 |cons a r ih=>
  cases r with
  |nil=>rfl
  |cons b r=>
   have e:(a::b::r).length-1=((b::r).length-1)+1:=by
    have h1:(a::b::r).length=r.length+2:=rfl;have h2:(b::r).length=r.length+1:=rfl;omega
   rw[e,List.eraseIdx_cons_succ,ih];all_goals rfl
theorem zHP {α:Type}:∀ (l:List α) (i:Nat),(l.eraseIdx i).length<=l.length
 |[],_=>zVU _
 |_::_,0=>zW6 _
 |_::r,i+1=>Nat.succ_le_succ (zHP r i)
section
variable {X:Cx} {zB:Yd} {σ:St} {H:Hp} {s:Yl} {l b:Yt} {xs ys zs:List V}
theorem Inv.lset {its its':Yf} {n:Nat} {f:Array Value->Array Value} {t':Nat} (I:Inv X zB σ H s) (hH:H l=some (.lst xs))
  (e:s.heap.get? l=some { cls:=.type "list", data:=.seq its.toArray n }) (hf:f its.toArray=its'.toArray) (hv:zZ ys its') (hz:ys.length<=sizeLine) :
  Inv X zB σ (upd H l (.lst ys)) { s with heap:=s.heap.update l (Obj.mapSeq f),toks:=t' }:=by
 have q:=PySem.IsL.update e f;rw[hf]at q;refine I.write (x:=l) (e:=l) (by rw[hH];exact trivial) (.inl rfl) (λb' u hb hu=>(zV5 s.heap (Obj.mapSeq f) (Ne.symm hb)).trans hu) ⟨_,q⟩ ?_;exact ⟨hz,its',_,hv,q⟩
theorem Inv.lnew {its:Yf} {t':Nat} (I:Inv X zB σ H s) (hv:zZ ys its) (hz:ys.length<=sizeLine) :
  Inv X zB σ (upd H s.heap.objs.size (.lst ys)) { s with heap:=s.heap.push { cls:=.type "list", data:=.seq its.toArray },toks:=t' } :=
 I.laid (λ_ _ q=>zVP _ q) (zVU _) ⟨hz,its,0,hv,zVY _ rfl⟩
theorem Inv.fresh (I:Inv X zB σ H s):H s.heap.objs.size=none:=I.hok.fresh (zVU _)
theorem Inv.lstM (I:Inv X zB σ H s) (hH:H l=some (.lst xs)):xs.length<=sizeLine /\ ∃ (its:List Value) (n:Nat),zZ xs its/\xs.length=its.length/\s.heap.get? l=some { cls:=.type "list", data:=.seq its.toArray n }:=by
 obtain ⟨z,its,n,r,e⟩:=I.hok l _ hH;exact ⟨z,its,n,r,r.length,e⟩
theorem zP5 {n:Nat} (h:n<=sizeLine):Builtin.List.listTooLong n=false:=by
 unfold Builtin.List.listTooLong;exact zVx (by omega)
end
section
variable {X:Cx}
def zLm:V->List V->Hp->VK->Prop:=λx vs H Q=>∃ l xs y,x=.ref l/\vs=[y]/\H l=some (.lst xs)/\xs.length<sizeLine/\Q .non (upd H l (.lst (xs++[y])))
theorem zM2:MtM X "list.append" zLm:=by
 intro zB s σ H x vs v us Q I rx rv h;obtain ⟨l,xs,y,rfl,rfl,hH,hz,q⟩:=h;cases rx;obtain ⟨u,rfl,ru⟩:=rv.one;obtain ⟨z,its,n,r,hl,e⟩:=I.lstM hH;refine call_meets F.slot_list_append ⟨_,e,rfl⟩ F.entry_list_append (F.args_list_append_2 _ _) (PySem.list_append l its.toArray n u (by rw[zVW];omega)) ⟨e,?_⟩;refine ⟨.non,_,I.lset (its':=its++[u]) hH e (by simp) (r.append (.cons ru .nil)) ?_,rfl,q⟩;rw[zVe,List.length_singleton];omega
def zMC:V->List V->Hp->VK->Prop:=λx vs H Q=>∃ l b xs zs,x=.ref l/\vs=[.ref b]/\H l=some (.lst xs)/\H b=some (.lst zs)/\xs.length+zs.length<=sizeLine/\Q .non (upd H l (.lst (xs++zs)))
theorem zND:MtM X "list.extend" zMC:=by
 intro zB s σ H x vs v us Q I rx rv h;obtain ⟨l,b,xs,zs,rfl,rfl,hH,hB,hz,q⟩:=h;cases rx;obtain ⟨u,rfl,ru⟩:=rv.one;cases ru;obtain ⟨z,its,n,r,hl,e⟩:=I.lstM hH;obtain ⟨z2,its2,n2,r2,hl2,e2⟩:=I.lstM hB;have hsz:its.toArray.size+its2.toArray.size<=sizeLine:=by rw[zVW,zVW];omega
 have hlong:¬ (!its.toArray.isEmpty&&Builtin.List.listTooLong (its.toArray.size+its2.toArray.size))=true:=by
  rw[zP5 hsz,Bool.and_false];exact zVk
 refine call_meets F.slot_list_extend ⟨_,e,rfl⟩ F.entry_list_extend (F.args_list_extend_2 _ _)
  (AutoSeq1.list_extend_list_list_0 l its.toArray n b its2.toArray n2 hlong (by rw[zVW];omega) (by omega)) ⟨e,e2,?_⟩
 refine ⟨.non,_,I.lset (its':=its++its2) hH e (by simp) (r.append r2) ?_,rfl,q⟩;rw[zVe];omega
def zU2:V->List V->Hp->VK->Prop:=λx vs H Q=>∃ l xs y,x=.ref l/\vs=[]/\H l=some (.lst xs)/\xs[xs.length-1]?=some y/\Q y (upd H l (.lst xs.dropLast))
theorem zTB:MtM X "list.pop" zU2:=by
 intro zB s σ H x vs v us Q I rx rv h;obtain ⟨l,xs,y,rfl,rfl,hH,hy,q⟩:=h;cases rx;have hus:=rv.zero;subst hus;obtain ⟨z,its,n,r,hl,e⟩:=I.lstM hH;obtain ⟨u,hu,ru⟩:=r.get hy;have hy':its.toArray[its.toArray.size-1]?=some u:=by
  show its.toArray[its.length-1]?=some u;rw[<-zW3,<-hl];exact hu
 refine call_meets F.slot_list_pop ⟨_,e,rfl⟩ F.entry_list_pop (F.args_list_pop_1 _) (MeetsSeq.list_pop_last l its.toArray n u hy' (by rw[zVW];omega)) ⟨e,?_⟩;refine ⟨y,_,I.lset (its':=its.dropLast) hH e ?_ r.dropLast ?_,ru,q⟩
 .show its.toArray.eraseIdxIfInBounds (its.toArray.size-1)=its.dropLast.toArray;rw[zVW,List.eraseIdxIfInBounds_toArray,zEM]
 .rw[List.length_dropLast];omega
def zOx:V->List V->Hp->VK->Prop:=λx vs H Q=>∃ l xs i k y,x=.ref l/\vs=[.int i]/\H l=some (.lst xs) /\ -(2 ^ 63)<=i/\i<2 ^ 63/\seqIndex? i xs.length=some k/\xs[k]?=some y/\Q y (upd H l (.lst (xs.eraseIdx k)))
theorem zOW:MtM X "list.pop" zOx:=by
 intro zB s σ H x vs v us Q I rx rv h;obtain ⟨l,xs,i,k,y,rfl,rfl,hH,h1,h2,hk,hy,q⟩:=h;cases rx;obtain ⟨u,rfl,ru⟩:=rv.one;obtain ⟨t,rfl⟩:=ru;obtain ⟨z,its,n,r,hl,e⟩:=I.lstM hH;obtain ⟨w,hw,rw'⟩:=r.get hy
 refine call_meets F.slot_list_pop ⟨_,e,rfl⟩ F.entry_list_pop (F.args_list_pop_2 _ _)
  (MeetsSeq.list_pop_at l its.toArray n i t k w (fitsIndex_both h1 h2) (by rw[zVW,<-hl];exact hk) (by rw[<-zW3];exact hw) (by rw[zVW];omega)) ⟨e,?_⟩
 refine ⟨y,_,I.lset (its':=its.eraseIdx k) hH e ?_ (r.eraseIdx k) ?_,rw',q⟩
 .show its.toArray.eraseIdxIfInBounds k=(its.eraseIdx k).toArray;rw[List.eraseIdxIfInBounds_toArray]
 .have:=zHP xs k;omega
def zTe:R2:=λx y H Q=>∃ l b xs zs,x=.ref l/\y=.ref b/\H l=some (.lst xs)/\H b=some (.lst zs)/\xs.length+zs.length<=sizeLine /\ ∀ p,H p=none->Q (.ref p) (upd H p (.lst (xs++zs)))
theorem zS4:OpR X (binaryOp .Add) zTe:=by
 intro zB s σ H x y v u Q I rx ry h;obtain ⟨l,b,xs,zs,rfl,rfl,hH,hB,hz,q⟩:=h;cases rx;cases ry;obtain ⟨z,its,n,r,hl,e⟩:=I.lstM hH;obtain ⟨z2,its2,n2,r2,hl2,e2⟩:=I.lstM hB;refine PySem.P.add_list e e2 ?_ (by rw[zVW,zVW];omega);have ea:its.toArray++its2.toArray=(its++its2).toArray:=by simp
 rw[ea];exact ⟨.ref _,_,I.lnew (t':=s.toks) (r.append r2) (by rw[zVe];omega),rfl,q _ I.fresh⟩
end
end L2
namespace Att
open PySem PySem.W PySem.Calls PyProof.Rows
theorem zFV {P:Params} {h:Heap}:∀ (ns:Ye) (vs:Yf),WellAll P h vs (ns.map WData.int)->IntsAre vs ns:=by
 intro ns;induction ns with
 |nil=>
  intro vs w;rw[List.map_nil]at w;cases w;exact .nil
 |cons n ns ih=>
  intro vs w;rw[zVh]at w;cases w with
  |cons a b=>
   cases a;exact .cons _ _ (ih _ b)
theorem zNb {l:OpenLaw} {n:Nat} (hn:l.most=some n) {P:Params} {h:Heap} {args:List WData} {vals:Yf}
  (hpre:l.row.toRowW.claim.pre args=true) (hwl:WellAll P h vals args) :
  ∃ a vs ns,vals=[Value.ref a]/\args=[WData.list (ns.map WData.int)]/\h.get? a=some { cls:=.type "list", data:=.seq vs.toArray }/\IntsAre vs ns/\ns.length<=n:=by
 have hsh:WShape.hasAll [] args [.list .int]=true:=(pre_splitW hpre).1;have hc:l.pre.holds [] { args:=args }=true:=(pre_splitW hpre).2;obtain ⟨d,r,rfl,h1,h2⟩:=hasAllW_cons hsh;obtain rfl:=hasAllW_nil h2;obtain ⟨xs,rfl,h3⟩:=hasW_list h1;obtain ⟨ns,rfl⟩:=items_int h3;have hlen:ns.length<=n:=by
  unfold OpenLaw.pre at hc;have h4:(WTm.not (.lt (.lit (.int (n:Int))) (.len (.arg 0)))).holds [] { args:=[.list (ns.map .int)] }=true:=by
   have h4:=(holds_andW hc).1;rw[hn]at h4;exact h4
  have h5:=condW_of h4 (w_not (w_lt w_lit (w_len_list (w_arg rfl))));rw[zVX]at h5;refine Nat.le_of_not_lt λq=>?_;have q':(n:Int)<((ns.length:Nat):Int):=by omega
  first
   | (rw[zWW q']at h5;exact absurd h5 (by decide))
   | (simp at h5;omega)
 cases hwl with
 |cons w1 w2=>
  cases w2;cases w1 with
  |list ho hall=>exact ⟨_,_,ns,rfl,rfl,ho,zFV ns _ hall,hlen⟩
theorem zM8 (l:OpenLaw) (args:List WData):l.row.toRowW.claim.post args (.bool true) args=true :=
 postW_of (r:=l.row.toRowW) (X:=(true==true))
  (show WShape.has [] (.bool true) .bool=true by first|rfl|decide|simp[WShape.has,WShape.arms,WShape.armsAll])
  (show (WTm.eq .res (.lit (.bool true))).value [] { args:=args,res:=some (.bool true),after:=args }=some (.bool (true==true))from w_eq_bool (w_res rfl) w_lit) rfl
theorem zKJ {l:OpenLaw} {n:Nat} {q:Ym} {loose:Yk} {XP:(Str->Option Value)->Heap->Prop} {YP:World->Heap->Prop} {d:DefRec}
  (hn:l.most=some n) (hdf:d.params.defaults=[])
  (call:∀ (w:Yo) (s₀ s₁:Yl) (mg mb:Yh) (fa:Yt) (o:Obj) (pm cd doc:Yu) (a:Yt) (vs:Yf) (ns:Ye),
   Ground q loose [] XP w s₀ mg mb s₁.heap->YP w s₁.heap ->
   s₁.heap.get? fa=some o->o.data=.func (docDef d.name d.params d.body d.scope pm cd doc)->s₁.heap.CodeRec cd d.name->mg d.name=some (.ref fa) ->
   s₁.heap.get? a=some { cls:=.type "list", data:=.seq vs.toArray }->IntsAre vs ns->ns.length<=n->s₁.gens = #[] ->
   codeAny (model l.prog w) callerA (.call (.ref fa) ⟨[.ref a],[]⟩) (λr s'=>r=.ok (.ret (.bool true))/\OldK s₁.heap s'.heap/\s'.os=s₁.os/\AllBare s'.gens) s₁) :
  WalkO q loose XP YP l.row.toRowW d [] (λf vs=>PySem.call f vs):=by
 intro w s₀ s₁ mg mb G Y fa o pm cd doc dV kV ho hd hcd hD hmg hg args vals as hpre hlay hrd hwl hlo;obtain rfl:dV=.none:=Dflts.none hD hdf;obtain rfl:kV=.none:=Dflts.noKw hD;obtain ⟨a,vs,ns,rfl,rfl,hobj,hints,hlen⟩:=zNb hn hpre hwl;refine enter_call (codeAny_mono (call w s₀ s₁ mg mb fa o pm cd doc a vs ns G Y ho (fd_plain hd) hcd hmg hobj hints hlen hg) λr s' hq=>?_);obtain ⟨rfl,h2,h3,h4⟩:=hq;exact ⟨.inl ⟨.bool true,.bool true,[],rfl,λ_=>rfl,.bool true,zM8 l _,λ_=>⟨List.Pairwise.nil,λ_ hm=>(nomatch hm)⟩⟩,h2,h3,h4⟩
end Att
namespace L2
open PySem PySem.Spec PyProof.Rows
theorem zHf:∀ {vs:Yf} {ns:Ye},IntsAre vs ns->zZ (ns.map V.int) vs
 |_,_,.nil=> .nil
 |_,_,.cons n t h=> .cons ⟨t,rfl⟩ (zHf h)
def zQj (H:Hp):Prop:=∀ b,H b=none \/ ∃ o xs,H b=some (.frz o (.lst xs))
theorem zPn {P:Ym} {w:Yo} {K:Yb} {mg mb:Yh} {CX:CXT} {k:Nat} {fa a:Yt} {fd:Yz} {x:Str} {sp:Sp} {s₁:Yl} {vs:Yf} {ns:Ye}
  (KX:K.In s₁.heap) (hns:s₁.heap.Ns mainGlobals mg) (hb:s₁.heap.Ns builtinsNs mb) (hbb:∀ x:Str,x ≠ "__name__" -> mb x=bootBuiltins x) (hlim:s₁.heap.NoLimit) (hg:s₁.gens = #[])
  (ha:s₁.heap.get? a=some { cls:=.type "list", data:=.seq vs.toArray }) (hi:IntsAre vs ns) (hl:ns.length<=sizeLine) (hr:Room k callerA)
  (F:∀ base:Heap,K.In base->base.Ns mainGlobals mg->FnOk P w K mg base CX k fa fd [x] sp) (hbind:∀ (s:Yl) (u:Yu),BindsTo s fd ⟨[u],[]⟩ [(x,u)])
  (hsp:∀ H:Hp,zQj H->SqL K H a (ns.map V.int)->sp [.ref a] H (λv _=>v=.bl true) λ_ _ _=>False)
  (hCX:∀ H e s',CX [] H s₁ (λ_ _ _=>False) e s'->False) :
  codeAny (model P w) callerA (.call (.ref fa) ⟨[.ref a],[]⟩) (λr s'=>r=.ok (.ret (.bool true))/\OldK s₁.heap s'.heap/\s'.os=s₁.os/\AllBare s'.gens) s₁:=by
 have rv:=zHf hi;have lenV:=hi.length
 have core:∀ H:Hp,zQj H->SqL K H a (ns.map V.int)->HOk P w H s₁.heap->(∀ b,H b≠none->b=a)->(H a≠none->K.lookup a=none) ->
   codeAny (model P w) callerA (.call (.ref fa) ⟨[.ref a],[]⟩) (λr s'=>r=.ok (.ret (.bool true))/\OldK s₁.heap s'.heap/\s'.os=s₁.os/\AllBare s'.gens) s₁:=by
  intro H hO hS hok hA hK;have base_of:∀ {b:Yt} {o:Obj},s₁.heap.get? b=some o->H b=none->(zII s₁.heap H).get? b=some o:=λe n=>zN2 e n;have noA:∀ {b:Yt} {o:Obj} {es:Array DictEntry} {ep:Nat},s₁.heap.get? b=some o->o.data=.dict es ep->H b=none:=λ{b o es ep} e d=>by
   cases q:H b with
   |none=>rfl
   |some u=>
    have e':b=a:=hA b (by rw[q];simp);subst e';rw[ha]at e;cases e;have d':Data.seq vs.toArray _=Data.dict es ep:=d;cases d'
  have nsK:∀ {b:Yt} {m:Yh},s₁.heap.Ns b m->(zII s₁.heap H).Ns b m:=λ{b m} ⟨o,es,ep,e,d,r⟩=>⟨o,es,ep,base_of e (noA e d),d,r⟩;have hKb:K.In (zII s₁.heap H):=λb o e=>base_of (KX b o e) (by
   cases q:H b with
   |none=>rfl
   |some u=>
    have e':b=a:=hA b (by rw[q];simp);subst e';rw[hK (by rw[q];simp)]at e;cases e)
  have hM:Mod K mg (zII s₁.heap H):=⟨hKb,nsK hns,⟨mb,nsK hb,hbb⟩,let ⟨mc,h1,h2⟩:=hlim;⟨mc,nsK h1,h2⟩⟩;have e0:Env0 P w K mg (zII s₁.heap H) callerA [] s₁ H:=⟨rfl,hM,λb o e=>zQN e,Nat.le_of_eq (zNW _ _),trivial,λb hb=>absurd (show b∈([]:List Addr)from hb) (by simp),hok,.of_eq hg⟩;refine codeAny_mono ((F _ hKb (nsK hns)).run callerA [] s₁ H ⟨[.ref a],[]⟩ [.ref a] [.ref a] _ _ hr e0 (hbind s₁ (.ref a)) (.cons rfl .nil) (hsp H hO hS)) λr s' h=>?_;cases r with
  |error e=>exact (hCX H e s' h).elim
  |ok fl=>
   cases fl with
   |next=>exact False.elim h
   |brk=>exact False.elim h
   |cont=>exact False.elim h
   |ret u=>
    obtain ⟨v,H',os,bare,un,hok',r',q⟩:=h;have q':v=.bl true:=q;subst q';obtain rfl:u=Value.bool true:=r';refine ⟨rfl,OldK.of_keep λb o e=>?_,os,bare⟩;cases q:H b with
    |none=>exact un.keep b o e q (by intro z;exact absurd (show b∈([]:List Addr)from z) (by simp)) (by simp)
    |some u=>
     rcases hO b with z|⟨ob,xs,z⟩
     .rw[q]at z;cases z
     .have z2:=un.frzs b ob _ z;obtain ⟨e1,_⟩:=hok b _ z;obtain ⟨e2,_⟩:=hok' b _ z2;rw[e]at e1;cases e1;exact e2
 cases hk:K.lookup a with
 |some o=>
  have e:=KX a o hk;rw[ha]at e;cases e;refine core (λ_=>none) (λ_=> .inl rfl) (.inr ⟨_,vs.toArray,_,hk,rfl,rfl,rfl,by rw[zVW,lenV];exact hl,by simpa using rv⟩) (λb u z=>by have z':(none:Option HO)=some u:=z;cases z') (λb z=>absurd rfl z) λz=>absurd rfl z
 |none=>
  refine core (λb=>if b=a then some (.frz { cls:=.type "list", data:=.seq vs.toArray } (.lst (ns.map V.int))) else none) (λb=>?_) (.inl (.inr ⟨{ cls:=.type "list", data:=.seq vs.toArray },zVd rfl⟩)) (λb u z=>?_) (λb z=>?_) λ_=>hk
  .by_cases hb:b=a
   .exact .inr ⟨_,_,zVd hb⟩
   .exact .inl (zVg hb)
  .by_cases hb:b=a
   .have z':=(zVd hb).symm.trans z;cases z';subst hb;exact ⟨ha,by rw[zVX];exact hl,vs,_,rv,ha⟩
   .have z':=(zVg hb).symm.trans z;cases z'
  .by_cases hb:b=a
   .exact hb
   .exact absurd (zVg hb) z
theorem zQJ {l:PySem.W.OpenLaw} {n k:Nat} {q:Ym} {loose:Yk} {XP:(Str->Option Value)->Heap->Prop} {YP:World->Heap->Prop} {d:DefRec} {K:Params->PySem.W.Frag} {CX:World->CXT} {sp:World->Sp} {x:Str}
  (hn:l.most=some n) (hn2:n<=sizeLine) (hdf:d.params.defaults=[]) (hr:Room k callerA)
  (hY:∀ (w:Yo) (h:Heap),YP w h->(K w.params).In h)
  (F:∀ (w:Yo) (mg:Yh) (fa:Yt) (h:Heap),(K w.params).In h->h.Ns mainGlobals mg->mg d.name=some (.ref fa) ->
   ∃ fd:FuncData,(∀ (s:Yl) (u:Yu),BindsTo s fd ⟨[u],[]⟩ [(x,u)]) /\
    ∀ base:Heap,(K w.params).In base->base.Ns mainGlobals mg->FnOk l.prog w (K w.params) mg base (CX w) k fa fd [x] (sp w))
  (hsp:∀ (w:Yo) (H:Hp) (a:Yt) (ns:Ye),ns.length<=n->zQj H->SqL (K w.params) H a (ns.map V.int)->sp w [.ref a] H (λv _=>v=.bl true) λ_ _ _=>False)
  (hCX:∀ (w:Yo) (H:Hp) (s:Yl) (e:Yu) (s':Yl),CX w [] H s (λ_ _ _=>False) e s'->False) :
  PySem.W.WalkO q loose XP YP l.row.toRowW d [] (λf vs=>PySem.call f vs):=by
 refine Att.zKJ hn hdf λw s₀ s₁ mg mb fa o pm cd doc a vs ns G Y ho hd hcd hmg hobj hints hlen hg=>?_;have KX:=hY w _ Y;obtain ⟨fd,hb,hF⟩:=F w mg fa _ KX G.T.g hmg;exact zPn KX G.T.g G.T.b G.T.builtins G.T.nolimit hg hobj hints (zVp hlen hn2) hr hF hb (λH hO hS=>hsp w H a ns hlen hO hS) λH e s'=>hCX w H s₁ e s'
def zDx (s:Stmt):Arguments:=match s with
 |.FunctionDef _ a _ _ _ _ _ _ _ _=>a
 |_=>{ posonlyargs:=[],args:=[],vararg:=none,kwonlyargs:=[],kw_defaults:=[],kwarg:=none,defaults:=[] }
def zCQ (s:Stmt):List Stmt:=match s with
 |.FunctionDef _ _ b _ _ _ _ _ _ _=>b
 |_=>[]
def zR (s:Stmt):Scope:=match s with
 |.FunctionDef _ _ _ _ _ _ sc _ _ _=>sc
 |_=>{ kind:=.function,names:=[],isGenerator:=false,isCoroutine:=false }
abbrev CX0:CXT:=λ_ _ _ _ _ _=>False
abbrev E0:XK:=λ_ _ _=>False
theorem zTp {X:Cx}:zLF CX0 X E0:=λ_ _ _ _ _ _ _ h=>h.elim
structure Fun (K:Yb) (x qual:Str) (st:Stmt) (f:Yt) (fd:Yz):Prop where
 ex:∃ (oc:Yu) (od:Option Addr) (kV doc pm:Yu) (an:Option Addr) (cdv ct:Yu) (osl:Array (Option Value)),
  fd=PySem.W.fnOf x qual (zDx st) (zCQ st) (zR st) .none kV doc pm an cdv ct/\K.lookup f=some ⟨oc,od,.func fd,osl⟩/\PySem.W.codeIn K cdv qual=true
 kp:PySem.W.keepIn K (.ref f)=true
section
variable {P:Ym} {w:Yo} {K:Yb} {mg:Yh} {base:Heap}
theorem Fun.ok {x qual:Str} {st:Stmt} {f:Yt} {fd:Yz} {N ps:Yk} {k:Nat} {sp:Sp} (F:Fun K x qual st f fd) (S:FnScope N ps (zR st)) (len:∀ vs H Q E,sp vs H Q E->vs.length=ps.length)
  (hbody:∀ (cdv:Yu) (A:Yn) (outer:List Env) (s:Yl) (H:Hp) (vs:List V) (Q:VK) (E:XK),Room k (A.deeper (envOfC qual (zR st) s.heap.objs.size f cdv))->sp vs H Q E ->
   ∃ t,PSs (zLe CX0 P w K mg base N qual (zR st) f cdv A outer s H E).nox (zCQ st) t/\t { nx:=λ_ H'=>Q .non H',rt:=Q } (start N vs) H):FnOk P w K mg base CX0 (k+1) f fd ps sp:=by
 obtain ⟨oc,od,kV,doc,pm,an,cdv,ct,osl,rfl,lk,hcd⟩:=F.ex;refine zT5 lk hcd S len λA outer s H vs Q E hr hsp=>?_;obtain ⟨t,h,q⟩:=hbody cdv A outer s H vs Q E hr hsp;exact ⟨t,h.nox,q⟩
theorem Fun.binds {x qual:Str} {st:Stmt} {f:Yt} {fd:Yz} {ps:Yk} (F:Fun K x qual st f fd)
  (h:∀ (kV doc pm:Yu) (an:Option Addr) (cdv ct:Yu) (us:Yf),us.length=ps.length->bindArgs (PySem.W.fnOf x qual (zDx st) (zCQ st) (zR st) .none kV doc pm an cdv ct) ⟨us,[]⟩=pure (ps.zip us)):zF1 K fd ps []:=by
 obtain ⟨oc,od,kV,doc,pm,an,cdv,ct,osl,rfl,lk,hcd⟩:=F.ex;exact .all (h kV doc pm an cdv ct)
theorem zOL {x qual:Str} {st:Stmt} {f:Yt} {oc:Yu} {od an:Option Addr} {osl:Array (Option Value)} {kV doc pm cdv ct:Yu} (l:K.lookup f=some ⟨oc,od,.func (PySem.W.fnOf x qual (zDx st) (zCQ st) (zR st) .none kV doc pm an cdv ct),osl⟩)
  (c:PySem.W.codeIn K cdv qual=true) (k:PySem.W.keepIn K (.ref f)=true):Fun K x qual st f (PySem.W.fnOf x qual (zDx st) (zCQ st) (zR st) .none kV doc pm an cdv ct):=⟨⟨oc,od,kV,doc,pm,an,cdv,ct,osl,rfl,l,c⟩,k⟩
end
theorem zGU {A:Yn} {k:Nat} (hr:Room k A):A.units+1<cLine:=Nat.lt_of_le_of_lt (Nat.add_le_add_left (by decide:1<=64) _) hr.units
section
variable {X:Cx}
theorem pv (i:Nat) {x:Str} {pos:Pos} (hN:X.N[i]?=some x:=by rfl) (hv:Vis X.env.scope x:=by first|exact Or.inl rfl|exact Or.inr (Or.inl rfl)|exact Or.inr (Or.inr rfl)) (hd:(x==("__debug__" : Str))=false:=by decide)
  (hcd:(x==("__classdict__" : Str))=false:=by decide):PE X (.Name x pos) (zRx i):=zSr hN hv hd hcd
end
theorem zGv {A B:Prop} (h:B):if false=true then A else B:=by
 rw[zVg zVk];exact h
theorem zHC {A B:Prop} (h:A):if true=true then A else B:=by
 rw[zVd rfl];exact h
section
variable {κ:Type} [DecidableEq κ]
def zDP (kvs:List (κ × V)) (k:κ):Option V:=(kvs.find? λkv=>decide (kv.1=k)).map (·.2)
def zDO (kvs:List (κ × V)) (k:κ) (v:V):List (κ × V) :=
 if (kvs.any λkv=>decide (kv.1=k))=true then kvs.map (λkv=>if kv.1=k then (kv.1,v) else kv) else kvs++[(k,v)]
theorem zEQ {p:κ × V} {r:List (κ × V)} {k:κ} (e:p.1=k):zDP (p::r) k=some p.2:=by simp[zDP,zXA,e]
theorem zEe {p:κ × V} {r:List (κ × V)} {k:κ} (e:¬ p.1=k):zDP (p::r) k=zDP r k:=by simp[zDP,zXA,e]
theorem zKL (k:κ):∀ kvs:List (κ × V),(kvs.any λkv=>decide (kv.1=k))=(zDP kvs k).isSome
 |[]=>rfl
 |p::r=>by
  rw[List.any_cons];by_cases e:p.1=k
  .simp only[zEQ e,zWW e,Bool.true_or,Option.isSome_some]
  .rw[zEe e,zVx e,Bool.false_or];exact zKL k r
theorem zCZ (kvs:List (κ × V)) (k:κ) (v:V):(zDO kvs k v).length<=kvs.length+1:=by
 unfold zDO;split
 .rw[zVX];omega
 .rw[zVe,zVv,List.length_nil];omega
theorem zFQ.isSome_eq (r:zFQ o u):o.isSome=u.isSome:=by
 cases o with
 |none=>cases u with
  |none=>rfl
  |some _=>exact (show False from r).elim
 |some _=>cases u with
  |none=>exact (show False from r).elim
  |some _=>rfl
theorem zFQ.getD (r:zFQ o u) (rd:zn d d'):zn (o.getD d) (u.getD d'):=by
 cases o with
 |none=>cases u with
  |none=>exact rd
  |some _=>exact (show False from r).elim
 |some _=>cases u with
  |none=>exact (show False from r).elim
  |some _=>exact r
theorem KV.val {kvs:List (κ × V)} {vs:List (κ × Value)} (r:KV kvs vs) (k:κ):zFQ (zDP kvs k) (valueAt vs k):=by
 unfold KV at r;induction r with
 |nil=>exact True.intro
 | @cons p q ps qs h t ih=>
  obtain ⟨h1,h2⟩:=h;by_cases e:p.1=k
  .have e':q.1=k:=h1.symm.trans e;have b:valueAt (q::qs) k=some q.2:=by simp[valueAt,zXA,e']
   rw[zEQ e,b];exact h2
  .have e':¬ q.1=k:=λz=>e (h1.trans z);have b:valueAt (q::qs) k=valueAt qs k:=by simp[valueAt,zXA,e']
   rw[zEe e,b];exact ih
theorem KV.any (r:KV kvs vs) (k:κ):(kvs.any λkv=>decide (kv.1=k))=vs.any λkv=>decide (kv.1=k):=by
 unfold KV at r;induction r with
 |nil=>rfl
 |cons h t ih=>rw[List.any_cons,List.any_cons,ih,h.1]
theorem KV.repl (r:KV kvs vs) (k:κ) (ry:zn y u) :
  KV (kvs.map λkv=>if kv.1=k then (kv.1,y) else kv) (vs.map λkv=>if kv.1=k then (kv.1,u) else kv):=by
 unfold KV at r ⊢;induction r with
 |nil=>exact .nil
 | @cons p q ps qs h t ih=>
  rw[zVh,zVh];refine .cons ?_ ih;obtain ⟨h1,h2⟩:=h;by_cases e:p.1=k
  .rw[zVd e,zVd (h1.symm.trans e)];exact ⟨h1,ry⟩
  .rw[zVg e,zVg (λz=>e (h1.trans z))];exact ⟨h1,h2⟩
theorem KV.put (r:KV kvs vs) (k:κ) (ry:zn y u):KV (zDO kvs k y) (stored vs k u):=by
 unfold zDO stored;rw[r.any k];by_cases e:(vs.any λkv=>decide (kv.1=k))=true
 .rw[zVd e,zVd e];exact r.repl k ry
 .rw[zVg e,zVg e];exact Paired.snoc r ⟨rfl,ry⟩
theorem KV.length (r:KV kvs vs):kvs.length=vs.length:=Paired.length r
end
theorem zGN (r:zn (kV k) u):(zAE P w).is k u=true:=by
 cases k with
 |inl i=>obtain ⟨t,e⟩:=(show ∃ t,u=Value.int i t from r);subst e;exact zJd P w i t
 |inr x=>obtain ⟨t,e⟩:=(show ∃ t,u=Value.str x t from r);subst e;exact zJb P w x t
theorem zHT:∀ {ks:List Key} {us:Yf},zZ (ks.map kV) us->ItemsAre (zAE P w) ks us
 |[],_,r=>by rw[List.map_nil]at r;cases r;exact .nil
 |k::ks,_,r=>by
  rw[zVh]at r;cases r with
  |cons h t=>exact .cons (zGN h) (zHT t)
abbrev KT (H:Hp):List (List Key × V)->List (List Key × Addr × Value)->Prop:=Paired λp q=>p.1=q.1/\H q.2.1=some (.tup (p.1.map kV))/\zn p.2 q.2.2
theorem KT.val {H:Hp} {kvs:List (List Key × V)} {xs:List (List Key × Addr × Value)} (r:KT H kvs xs) (k:List Key):zFQ (zDP kvs k) ((atKey xs k).map (·.2)):=by
 induction r with
 |nil=>exact True.intro
 | @cons p q ps qs h t ih=>
  obtain ⟨h1,_,h2⟩:=h;by_cases e:p.1=k
  .have e':q.1=k:=h1.symm.trans e;have b:atKey (q::qs) k=some q.2:=by simp[atKey,zXA,e']
   rw[zEQ e,b];exact h2
  .have e':¬ q.1=k:=λz=>e (h1.trans z);have b:atKey (q::qs) k=atKey qs k:=by simp[atKey,zXA,e']
   rw[zEe e,b];exact ih
theorem KT.repl (r:KT H kvs xs) (k:List Key) (ry:zn y u) :
  KT H (kvs.map λkv=>if kv.1=k then (kv.1,y) else kv) (xs.map (putAt k u)):=by
 induction r with
 |nil=>exact .nil
 | @cons p q ps qs h t ih=>
  rw[zVh,zVh];refine .cons ?_ ih;obtain ⟨h1,h2,h3⟩:=h;unfold putAt;by_cases e:p.1=k
  .rw[zVd e,zVd (h1.symm.trans e)];exact ⟨h1,h2,ry⟩
  .rw[zVg e,zVg (λz=>e (h1.trans z))];exact ⟨h1,h2,h3⟩
theorem KT.put (r:KT H kvs xs) (k:List Key) (hb:H b=some (.tup (k.map kV))) (ry:zn y u) :
  KT H (zDO kvs k y) (storedH xs k b u):=by
 have e:(kvs.any λkv=>decide (kv.1=k))=(atKey xs k).isSome:=by
  rw[zKL,(r.val k).isSome_eq,Option.isSome_map]
 unfold zDO storedH;rw[e];by_cases q:(atKey xs k).isSome=true
 .rw[zVd q,zVd q];exact r.repl k ry
 .rw[zVg q,zVg q];exact Paired.snoc r ⟨rfl,hb,ry⟩
theorem KT.keeps (r:KT H kvs xs) (ht:∀ b ys,H b=some (.tup ys)->H' b=some (.tup ys)):KT H' kvs xs :=
 Paired.mapP r λ_ _ z=>⟨z.1,ht _ _ z.2.1,z.2.2⟩
section
variable {P:Ym} {w:Yo} {H:Hp} {h:Heap} {a:Yt}
theorem zRn (ok:HOk P w H h) (e:Rd H a u):zAT P w H h a u:=e.ok ok
theorem zGX (ok:HOk P w H h) (e:Rd H a (.dK kvs)):kvs.length<=sizeLine/\(a==sysModules)=false /\ ∃ vs,KV kvs vs/\h.DictOf (zAE P w) a vs :=
 show zAT P w H h a (.dK kvs)from zRn ok e
theorem zRt (ok:HOk P w H h) (e:H a=some (.dK kvs)):kvs.length<=sizeLine/\(a==sysModules)=false /\ ∃ vs,KV kvs vs/\h.DictOf (zAE P w) a vs:=zGX ok (.inl e)
theorem zEJ (ok:HOk P w H h) (e:H a=some (.tup (ks.map kV))):(tupleKind (zAE P w)).is h ks a:=by
 obtain ⟨_,its,r,o,h1,h2,⟨n,h3⟩,_⟩:=(show zAT P w H h a (.tup (ks.map kV))from ok a _ e);exact ⟨o,its.toArray,n,h1,h2,h3,by simpa using zHT r⟩
theorem zFh (ok:HOk P w H h) (e:Rd H a (.dT kvs)):kvs.length<=sizeLine/\(a==sysModules)=false /\
  ∃ xs,KT H kvs xs/\h.DictOfH (tupleKind (zAE P w)) a xs:=by
 obtain ⟨z,y,xs,r,o,es,ep,h1,h2,h3,h4,h5⟩:=(show zAT P w H h a (.dT kvs)from zRn ok e);refine ⟨z,y,xs,r,o,es,ep,h1,h2,h3,h4,λx hx=>?_,h5⟩;have all:∀ {l:List (List Key × V)} {m:List (List Key × Addr × Value)},KT H l m -> ∀ x∈m,(tupleKind (zAE P w)).is h x.1 x.2.1:=by
  intro l m q;induction q with
  |nil=>intro x hx;exact nomatch hx
  | @cons p q ps qs hq t ih=>
   intro x hx;rcases zVa.mp hx with e|hx
   .subst e;exact zEJ ok (by rw[<-hq.1];exact hq.2.1)
   .exact ih x hx
 exact all r x hx
theorem zRw (ok:HOk P w H h) (e:H a=some (.dT kvs)):kvs.length<=sizeLine/\(a==sysModules)=false /\
  ∃ xs,KT H kvs xs/\h.DictOfH (tupleKind (zAE P w)) a xs:=zFh ok (.inl e)
end
def zCu (H:Hp) (a:Yt) (y:V) (r:Option V):Prop :=
 (∃ kvs k,Rd H a (.dK kvs)/\y=kV k/\r=zDP kvs k) \/ ∃ kvs k b,Rd H a (.dT kvs)/\y=.ref b/\H b=some (.tup (k.map kV))/\r=zDP kvs k
def zEB (H:Hp) (a:Yt) (y v:V) (H':Hp):Prop :=
 (∃ kvs k,H a=some (.dK kvs)/\y=kV k/\kvs.length<sizeLine/\H'=upd H a (.dK (zDO kvs k v))) \/
 ∃ kvs k b,H a=some (.dT kvs)/\y=.ref b/\H b=some (.tup (k.map kV))/\kvs.length<sizeLine/\H'=upd H a (.dT (zDO kvs k v))
theorem zCu.k {H:Hp} {a:Yt} {kvs:List (Key × V)} {k:Key} (e:H a=some (.dK kvs)):zCu H a (kV k) (zDP kvs k):=.inl ⟨kvs,k,.inl e,rfl,rfl⟩
theorem zCu.t {k:List Key} (e:H a=some (.dT kvs)) (eb:H b=some (.tup (k.map kV))):zCu H a (.ref b) (zDP kvs k):=.inr ⟨kvs,k,b,.inl e,rfl,eb,rfl⟩
theorem zEB.k {H:Hp} {a:Yt} {kvs:List (Key × V)} {k:Key} {v:V} (e:H a=some (.dK kvs)) (hl:kvs.length<sizeLine):zEB H a (kV k) v (upd H a (.dK (zDO kvs k v))):=.inl ⟨kvs,k,e,rfl,hl,rfl⟩
theorem zEB.t {kvs:List (List Key × V)} {k:List Key} (e:H a=some (.dT kvs)) (eb:H b=some (.tup (k.map kV))) (hl:kvs.length<sizeLine) :
  zEB H a (.ref b) v (upd H a (.dT (zDO kvs k v))):=.inr ⟨kvs,k,b,e,rfl,eb,hl,rfl⟩
section
variable {X:Cx} {zB:Yd} {σ:St} {H:Hp} {s:Yl} {a:Yt} {y v:V} {u r:Yu} {o:Option V} {A:Yn} {E:Yc}
theorem Inv.big (I:Inv X zB σ H s):sysModules<s.heap.objs.size:=by
 have h:mainGlobals<s.heap.objs.size:=(I.mod.glob.keeps I.bk).lt;exact Nat.lt_trans (by decide) h
theorem zNX (hu:A.units+1<cLine) (I:Inv X zB σ H s) (g:zCu H a y (some v)) (ry:zn y u) (h:∀ w' s',Inv X zB σ H s'->zn v w'->Q w' s') :
  wpAny (model X.prog X.w) A (getItem (.ref a) u) Q E s:=by
 rcases g with ⟨kvs,k,e,ey,l⟩|⟨kvs,k,b,e,ey,eb,l⟩
 .subst ey;obtain ⟨z,hd,vs,rel,dd⟩:=zGX I.hok e;obtain ⟨w',hw,rw'⟩:=zFQ.some_of (v:=v) (o:=valueAt vs k) (by rw[l];exact rel.val k);exact wpAny_getItem_of (zGN ry) dd.mapOf hw (h w' _ (I.tok _) rw')
 .subst ey;cases (show u=Value.ref b from ry);obtain ⟨z,hd,xs,rel,dd⟩:=zFh I.hok e;obtain ⟨w',hw,rw'⟩:=zFQ.some_of (v:=v) (o:=(atKey xs k).map (·.2)) (by rw[l];exact rel.val k);obtain ⟨p,hp,hp2⟩:=Option.map_eq_some_iff.mp hw;refine wpAny_getItem_heap (tupleKind_room_in1 hu) (zEJ I.hok eb) dd hp ?_;rw[hp2];exact h w' _ (I.tok _) rw'
theorem zUw (hu:A.units+1<cLine) (I:Inv X zB σ H s) (g:zCu H a y o) (ry:zn y u) (h:∀ s',Inv X zB σ H s'->Q (.bool o.isSome) s') :
  wpAny (model X.prog X.w) A (compareOp .In u (.ref a)) Q E s:=by
 rcases g with ⟨kvs,k,e,ey,l⟩|⟨kvs,k,b,e,ey,eb,l⟩
 .subst ey;obtain ⟨z,hd,vs,rel,dd⟩:=zGX I.hok e;refine wpAny_in_of (zGN ry) hd dd.mapOf ?_;rw[<-(rel.val k).isSome_eq,<-l];exact h _ (I.tok _)
 .subst ey;cases (show u=Value.ref b from ry);obtain ⟨z,hd,xs,rel,dd⟩:=zFh I.hok e;refine wpAny_in_heap (tupleKind_room_in1 hu) (zEJ I.hok eb) hd dd ?_;have q:=(rel.val k).isSome_eq;rw[Option.isSome_map]at q;rw[<-q,<-l];exact h _ (I.tok _)
theorem zQS (hu:A.units+1<cLine) (I:Inv X zB σ H s) (g:zCu H a y o) (ry:zn y u) (h:∀ s',Inv X zB σ H s'->Q (.bool (!o.isSome)) s') :
  wpAny (model X.prog X.w) A (compareOp .NotIn u (.ref a)) Q E s:=by
 rcases g with ⟨kvs,k,e,ey,l⟩|⟨kvs,k,b,e,ey,eb,l⟩
 .subst ey;obtain ⟨z,hd,vs,rel,dd⟩:=zGX I.hok e;refine wpAny_notIn_of (zGN ry) hd dd.mapOf ?_;rw[<-(rel.val k).isSome_eq,<-l];exact h _ (I.tok _)
 .subst ey;cases (show u=Value.ref b from ry);obtain ⟨z,hd,xs,rel,dd⟩:=zFh I.hok e;refine wpAny_notIn_heap (tupleKind_room_in1 hu) (zEJ I.hok eb) hd dd ?_;have q:=(rel.val k).isSome_eq;rw[Option.isSome_map]at q;rw[<-q,<-l];exact h _ (I.tok _)
theorem zEU (I:Inv X zB σ H s) (mu:Mut (H a)) (hs:Heap.SameBut a s.heap h') (he:∃ q,h'.get? a=some q) (new:zAT X.prog X.w (upd H a ob) h' a ob) :
  Inv X zB σ (upd H a ob) { s with heap:=h',toks:=t' } :=
 I.write (x:=a) (e:=a) mu (.inl rfl) (λb q hb z=>(hs.2 b hb).trans z) he new
theorem zPw (z:kvs.length<=sizeLine) (hd:(a==sysModules)=false) (rel:KV kvs vs) (dd:h'.DictOf (zAE P w) a vs) :
  zAT P w H' h' a (.dK kvs):=⟨z,hd,vs,rel,dd⟩
theorem zM7 (hu:A.units+1<cLine) (I:Inv X zB σ H s) (g:zEB H a y v H') (ry:zn y u) (rv:zn v r) (h:∀ s',Inv X zB σ H' s'->Q () s') :
  wpAny (model X.prog X.w) A (setItem (.ref a) u r) Q E s:=by
 rcases g with ⟨kvs,k,e,ey,l,eH⟩|⟨kvs,k,b,e,ey,eb,l,eH⟩
 .subst ey eH;obtain ⟨z,hd,vs,rel,dd⟩:=zRt I.hok e;have hz:vs.length<=sizeLine:=by rw[<-rel.length];exact z
  have hl:(zDO kvs k v).length<=sizeLine:=by have:=zCZ kvs k v;omega
  refine wpAny_setItem_pairs (hsz:=hz) (zGN ry) dd λh' dd' hs=>h _ ?_;have he:∃ q,h'.get? a=some q:=let ⟨q,_,_,hq,_⟩:=dd';⟨q,hq⟩;exact zEU I (by rw[e];exact True.intro) hs he (zPw hl hd (rel.put k rv) dd')
 .subst ey eH;cases (show u=Value.ref b from ry);obtain ⟨z,hd,xs,rel,dd⟩:=zRw I.hok e;have hz:xs.length<=sizeLine:=by rw[<-Paired.length rel];exact z
  have hl:(zDO kvs k v).length<=sizeLine:=by have:=zCZ kvs k v;omega
  refine wpAny_setItem_heap (hsz:=hz) (tupleKind_room_in1 hu) (zEJ I.hok eb) dd λh' dd' hs=>h _ ?_;obtain ⟨q,es,ep,hq,h2,h3,h4,_,h5⟩:=dd';refine zEU I (by rw[e];exact True.intro) hs ⟨q,hq⟩ ⟨hl,hd,_,(rel.put k eb rv).keeps λc ys ec=>?_,q,es,ep,hq,h2,h3,h4,h5⟩;rw[zT (zGm ec e (λz=>nomatch z))];exact ec
end
def zSY (i:Expr):Prop:=∀ ov iv,subscripted i false ov iv=operate [ov,iv] (getItem ov iv)
theorem zQ7 {prog:Ym} {w:Yo} {A:Yn} {E:Yc} {s:Yl} {env:Env} {value slice:Expr} {pos:Pos} {T id:String} {Q:Yc}
  (hl:typeLookup (.type T) "__getitem__" = pure (some (.builtin id))) (hs:zSY slice)
  (h:wpAny (model prog w) A (eval value env) (λo s₁=>wpAny (model prog w) A (eval slice env) (λi s₂=>s₂.TypeIs o T/\wpAny (model prog w) A (getItem o i) Q E s₂) E s₁) E s) :
  wpAny (model prog w) A (eval (.Subscript value slice pos) env) Q E s:=by
 refine Subscript_ (zVu h (λo s₁ h₁=>zVu h₁ (λi s₂ h₂=>?_) λ_ _ x=>x) λ_ _ x=>x);obtain ⟨hT,h₂⟩:=h₂;unfold subscriptTail;refine zVO ?_;rw[getitemInPython_of_ne hT.not_modules];refine zVO (wpAny_specialOf hT hl ?_);have fin:wpAny (model prog w) A (subscripted slice false o i) (λr s₃=>wpAny (model prog w) A (letTemporaryGo value o r >>= λ_=>pure r) Q E s₃) E s₂:=by
  rw[hs o i];exact wpAny_operating (zVu h₂ (λr s₃ h₃=>zVO (wpAny_letTemporaryGo (zVQ h₃))) λ_ _ x=>x)
 first
  |exact zVQ (zVO fin)
  |exact zVO (zVQ (zVO fin))
  |exact zVO fin
theorem zKC (I:Inv X zB σ H s) (g:zCu H a y o):s.TypeIs (.ref a) "dict" := by
 rcases g with ⟨kvs,k,e,_,_⟩|⟨kvs,k,b,e,_,_,_⟩
 .obtain ⟨_,_,vs,_,dd⟩:=zGX I.hok e;exact dd.typeIs
 .obtain ⟨_,_,xs,_,dd⟩:=zFh I.hok e;exact dd.typeIs
def zUJ (td ty:TE):TE:=λσ H Q=>td σ H λx H1=>ty σ H1 λy H2=>∃ a v,x=.ref a/\zCu H2 a y (some v)/\Q v H2
def zU6 (ty td:TE):TE:=λσ H Q=>ty σ H λy H1=>td σ H1 λx H2=>∃ a o,x=.ref a/\zCu H2 a y o/\Q (.bl o.isSome) H2
def zQu (ty td:TE):TE:=λσ H Q=>ty σ H λy H1=>td σ H1 λx H2=>∃ a o,x=.ref a/\zCu H2 a y o/\Q (.bl (!o.isSome)) H2
def zUk (td ty tv:TE):TS:=λD σ H=>tv σ H λv H1=>td σ H1 λx H2=>ty σ H2 λy H3=>∃ a H4,x=.ref a/\zEB H3 a y v H4/\D.nx σ H4
section
variable {X:Cx} {o i e value:Expr} {pos pos' tpos:Pos} {td ty tv:TE}
theorem zRD (hu:X.A.units+1<cLine) (ho:PE X o td) (hi:PE X i ty) (hs:zSY i):PE X (.Subscript o i pos) (zUJ td ty):=by
 intro zB s σ H Q I h;refine zQ7 PySem.F.slot_dict_getitem.lookup hs (thn (ho zB s σ H _ I h) λu s1 ⟨x,H1,I1,rx,q1⟩=>thn (hi zB s1 σ H1 _ I1 q1) λiv s2 ⟨y,H2,I2,ry,a,v,ex,g,q2⟩=>?_);subst ex;obtain rfl:u=Value.ref a:=rx;exact ⟨zKC I2 g,zNX hu I2 g ry λw' s3 I3 rw'=>⟨v,H2,I3,rw',q2⟩⟩
theorem zTT (hu:X.A.units+1<cLine) (hi:PE X i ty) (ho:PE X o td):PC X .In i o (zU6 ty td):=by
 intro zB s σ H Q I h;refine thn (hi zB s σ H _ I h) λiv s1 ⟨y,H1,I1,ry,q1⟩=>thn (ho zB s1 σ H1 _ I1 q1) λu s2 ⟨x,H2,I2,rx,a,ov,ex,g,q2⟩=>?_;subst ex;obtain rfl:u=Value.ref a:=rx;exact zUw hu I2 g ry λs3 I3=>⟨.bl ov.isSome,H2,I3,rfl,q2⟩
theorem zM3 (hu:X.A.units+1<cLine) (hi:PE X i ty) (ho:PE X o td):PC X .NotIn i o (zQu ty td):=by
 intro zB s σ H Q I h;refine thn (hi zB s σ H _ I h) λiv s1 ⟨y,H1,I1,ry,q1⟩=>thn (ho zB s1 σ H1 _ I1 q1) λu s2 ⟨x,H2,I2,rx,a,ov,ex,g,q2⟩=>?_;subst ex;obtain rfl:u=Value.ref a:=rx;exact zQS hu I2 g ry λs3 I3=>⟨.bl (!ov.isSome),H2,I3,rfl,q2⟩
theorem zQf (hu:X.A.units+1<cLine) (ho:PE X o td) (hi:PE X i ty) (hv:PE X value tv) (hs:swapsWith value (some (.Subscript o i pos')) pos.line X.env=pure false) :
  PS X (.Assign [.Subscript o i pos'] value pos) (zUk td ty tv):=by
 intro zB s σ H D I h;refine wpAny_Assign_Subscript (thn (hv zB s σ H _ I h) λr s1 ⟨v,H1,I1,rv,q1⟩=>thn (ho zB s1 σ H1 _ I1 q1) λu s2 ⟨x,H2,I2,rx,q2⟩=>thn (hi zB s2 σ H2 _ I2 q2) λiv s3 ⟨y,H3,I3,ry,a,H4,ex,g,q3⟩=>?_) hs;subst ex;obtain rfl:u=Value.ref a:=rx;exact zM7 hu I3 g ry rv λs4 I4=>⟨σ,H4,I4,q3⟩
end
theorem zOS (h:Heap) (hb:sysModules<h.objs.size):zAT P w H (h.push { cls:=.type "dict", data:=.dict #[] }) h.objs.size (.dK []) :=
 ⟨zWA _,beq_eq_false_iff_ne.mpr (Ne.symm (zVj hb)),[],.nil,Heap.DictOf.new h⟩
theorem zPc (h:Heap) (hb:sysModules<h.objs.size):zAT P w H (h.push { cls:=.type "dict", data:=.dict #[] }) h.objs.size (.dT []) :=
 ⟨zWA _,beq_eq_false_iff_ne.mpr (Ne.symm (zVj hb)),[],.nil,_,#[],0,zVY _ rfl,⟨rfl,rfl,rfl⟩,rfl,rfl,List.nodup_nil⟩
def zR1:TE:=λ_ H Q=>∀ p,H p=none->Q (.ref p) (upd H p (.dK []))
def zSh:TE:=λ_ H Q=>∀ p,H p=none->Q (.ref p) (upd H p (.dT []))
section
variable {X:Cx} {pos:Pos}
theorem zPb:PE X (.Dict [] [] pos) zR1:=λzB s σ H Q I h=>
 wpAny_Dict_empty ⟨.ref s.heap.objs.size,_,I.laid (a:=s.heap.objs.size) (o:=.dK []) (t':=s.toks) (λ_ _ q=>zVP _ q) (zVU _) (zOS s.heap I.big),rfl,h _ (I.hok.fresh (zVU _))⟩
theorem zOy:PE X (.Dict [] [] pos) zSh:=λzB s σ H Q I h=>
 wpAny_Dict_empty ⟨.ref s.heap.objs.size,_,I.laid (a:=s.heap.objs.size) (o:=.dT []) (t':=s.toks) (λ_ _ q=>zVP _ q) (zVU _) (zPc s.heap I.big),rfl,h _ (I.hok.fresh (zVU _))⟩
end
structure M2 (X:Cx) (o:Expr) (m:Str) (apos:Pos) (e f:Expr) (cpos:Pos):Prop where
 base:attributeBase o m X.env (eval o X.env)=eval o X.env
 few:((backTo cpos (starEach [e,f] X.env)).all (λx=> !x.1)&&(backToKw cpos (keywordEach [] X.env)).all (λx=>x.1.isSome)
  && decide (([e,f]:List Expr).length+([]:List Keyword).length+(if ([]:List Keyword).isEmpty then 0 else 1)<30))=true
 line:(apos.endLine==cpos.line)=true
 trees:backTo cpos (starEach [e,f] X.env)=[(false,eval e X.env),(false,eval f X.env)]
def IsD (H:Hp) (a:Yt):Prop:=(∃ kvs,Rd H a (.dK kvs)) \/ ∃ kvs,Rd H a (.dT kvs)
theorem zPK (I:Inv X zB σ H s) (d:IsD H a) :
  s.TypeIs (.ref a) "dict" /\ (∀ b,Value.ref a=.ref b -> ∃ ob,s.heap.get? b=some ob/\ob.dict=none)/\(a==sysModules)=false:=by
 rcases d with ⟨kvs,e⟩|⟨kvs,e⟩
 .obtain ⟨_,hd,vs,_,dd⟩:=zGX I.hok e;refine ⟨dd.typeIs,λb q=>?_,hd⟩;cases q;obtain ⟨ob,_,_,h1,h2,_⟩:=dd;exact ⟨ob,h1,h2.2.1⟩
 .obtain ⟨_,hd,xs,_,dd⟩:=zFh I.hok e;refine ⟨dd.typeIs,λb q=>?_,hd⟩;cases q;obtain ⟨ob,_,_,h1,h2,_⟩:=dd;exact ⟨ob,h1,h2.2.1⟩
section
variable {X:Cx} {zB:Yd} {σ:St} {H:Hp} {s:Yl} {a:Yt} {y d:V} {u r:Yu} {o:Option V} {A:Yn} {E:Yc}
theorem zR7 (hu:A.units+1<cLine) (I:Inv X zB σ H s) (g:zCu H a y o) (ry:zn y u) (rd:zn d r) (h:∀ w' s',Inv X zB σ H s'->zn (o.getD d) w'->Q w' s') :
  wpAny (model X.prog X.w) A (call (.builtin "dict.get") [.ref a,u,r]) Q E s:=by
 rcases g with ⟨kvs,k,e,ey,l⟩|⟨kvs,k,b,e,ey,eb,l⟩
 .subst ey;obtain ⟨z,hd,vs,rel,dd⟩:=zGX I.hok e;refine call_meetsIn PySem.F.slot_dict_get dd.typeIs PySem.F.entry_dict_get (PySem.F.args_dict_get_3 _ _ _) (meets_dict_get_default (zAE X.prog X.w) a (zGN ry) hd r) ⟨_,dd.mapOf,h _ _ (I.tok _) ?_⟩;rw[l];exact (rel.val k).getD rd
 .subst ey;cases (show u=Value.ref b from ry);obtain ⟨z,hd,xs,rel,dd⟩:=zFh I.hok e;refine call_meetsIn PySem.F.slot_dict_get dd.typeIs PySem.F.entry_dict_get (PySem.F.args_dict_get_3 _ _ _) (meetsH_dict_get_default (tupleKind (zAE X.prog X.w)) a b hd r) ⟨tupleKind_room_in1 hu,k,xs,zEJ I.hok eb,dd,h _ _ (I.tok _) ?_⟩;rw[l];exact (rel.val k).getD rd
end
def zPX (td ty tx:TE):TE:=λσ H Q=>td σ H λx H1=>∃ a,x=.ref a/\IsD H1 a/\ty σ H1 λy H2=>tx σ H2 λz H3=>∃ o,zCu H3 a y o/\Q (o.getD z) H3
section
variable {X:Cx} {o e f:Expr} {apos cpos:Pos} {td ty tx:TE}
theorem zN4 (hu:X.A.units+1<cLine) (ho:PE X o td) (he:PE X e ty) (hf:PE X f tx) (m:M2 X o "get" apos e f cpos):PE X (.Call (.Attribute o "get" apos) [e,f] [] cpos) (zPX td ty tx):=by
 intro zB s σ H Q I h;refine wpAny_Call_method m.base m.few m.line PySem.F.plainAttrs_dict PySem.F.slot_dict_get PySem.F.type_dict_get (thn (ho zB s σ H _ I h) λu s1 ⟨x,H1,I1,rx,a,ex,d,q1⟩=>?_);subst ex;obtain rfl:u=Value.ref a:=rx;obtain ⟨t1,t2,_⟩:=zPK I1 d;refine ⟨t1,t2,?_⟩;rw[m.trees];refine Calls.callWith_builtin rfl (Calls.evalArgs_plain (Calls.spliced_cons (thn (he zB s1 σ H1 _ I1 q1) λiv s2 ⟨y,H2,I2,ry,q2⟩=>
  Calls.spliced_cons (thn (hf zB s2 σ H2 _ I2 q2) λfv s3 ⟨z,H3,I3,rz,ov,g,q3⟩=>Calls.spliced_nil ?_))))
 exact zR7 hu I3 g ry rz λw' s4 I4 rw'=>⟨_,H3,I4,rw',q3⟩
end
theorem zAa:∀ (names:List (Str × NameKind)) (n:Nat) (acc:Yv),cellsFrom n names acc=cellsFrom n names []++acc
 |[],_,_=>rfl
 | (name,kind)::r,n,acc=>by
  unfold cellsFrom;split
  .rw[zAa r (n+1) ((name,n)::acc),zAa r (n+1) [(name,n)],zWU];rfl
  .exact zAa r n acc
theorem zCL {α:Type} (x:Str):∀ (l r:List (Str × α)),(l++r).lookup x=(match l.lookup x with|some c=>some c|none=>r.lookup x)
 |[],r=>rfl
 | (k,v)::l,r=>by
  rw[List.cons_append,zXT,zXT];cases hb:x==k with
  |true=>rfl
  |false=>exact zCL x l r
theorem zD8:∀ (names:List (Str × NameKind)) (acc:Yv),
  (∀ y∈names,y.2=.free -> ∃ c,env.cells.lookup y.1=some c) ->
  (∀ x c,acc.lookup x=some c->env.cells.lookup x=some c) ->
  ∃ cl:List (Str × Addr),(forIn names acc (λ(p:Str × NameKind) (cs:Yv)=>(do
    if p.2 == .free then
     let a <- cellOf env p.1;pure (ForInStep.yield ((p.1,a)::cs))
    else pure (ForInStep.yield cs):Sem (ForInStep (List (Str × Addr))))))=pure cl /\
   (∀ x c,cl.lookup x=some c->env.cells.lookup x=some c) /\
   (∀ x,(acc.lookup x).isSome=true->(cl.lookup x).isSome=true) /\ ∀ y∈names,y.2=.free->(cl.lookup y.1).isSome=true
 |[],acc,_,ha=>⟨acc,by rw[List.forIn_nil],ha,λ_ h=>h,λ_ h=>nomatch h⟩
 | (n,k)::r,acc,hf,ha=>by
  rw[List.forIn_cons];by_cases hk:k=.free
  .subst hk;obtain ⟨c,hc⟩:=hf (n,.free) zVc rfl;have hco:cellOf env n=pure c:=by unfold cellOf;rw[hc]
   obtain ⟨cl,e,h1,h2,h3⟩:=zD8 r ((n,c)::acc) (λy hy=>hf y (zVb _ hy)) (λx d hx=>by
    rw[zXT]at hx;cases hb:x==n with
    |true=>rw[hb]at hx;cases hx;rw[beq_iff_eq.mp hb];exact hc
    |false=>rw[hb]at hx;exact ha x d hx)
   refine ⟨cl,?_,h1,λx hx=>h2 x ?_,λy hy hk=>?_⟩
   .rw[<-e];simp only[beq_self_eq_true,if_true,hco];rfl
   .rw[zXT];cases hb:x==n with
    |true=>rfl
    |false=>exact hx
   .rcases zVa.mp hy with z|z
    .subst z;exact h2 n (by rw[zXT];simp)
    .exact h3 y z hk
  .obtain ⟨cl,e,h1,h2,h3⟩:=zD8 r acc (λy hy=>hf y (zVb _ hy)) ha;refine ⟨cl,?_,h1,h2,λy hy hk'=>?_⟩
   .rw[<-e];have:(k==NameKind.free)=false:=by simpa using hk
    simp only[this,zWP,if_false];rfl
   .rcases zVa.mp hy with z|z
    .subst z;exact absurd hk' hk
    .exact h3 y z hk'
theorem zHA (hf:∀ y∈scope.names,y.2=.free -> ∃ c,env.cells.lookup y.1=some c) :
  ∃ cl,closureFor scope env=pure cl/\(∀ x c,cl.lookup x=some c->env.cells.lookup x=some c) /\ ∀ y∈scope.names,y.2=.free->(cl.lookup y.1).isSome=true:=by
 obtain ⟨cl,e,h1,_,h3⟩:=zD8 (env:=env) scope.names [] hf (λx c h=>nomatch h);refine ⟨cl,?_,h1,h3⟩;unfold closureFor;rw[show (pure cl:Sem _)=pure cl >>= pure from rfl,<-e]
theorem zCS
  (hQ:Q (newEnv scope s.heap.objs.size globals (cellsFrom (s.heap.objs.size+1) scope.names cl) qual none .none (some env) builtinsNs)
   { s with heap:=pushCells (s.heap.push { cls:=.type "dict", data:=.dict #[] }) scope.names }) :
  wpAny M A (newFunctionEnv scope globals cl [] qual none .none (some env)) Q E s:=by
 simp only[newFunctionEnv,Option.isSome_some,if_true];refine zVO (wpAny_alloc ?_);refine zVO (wpAny_layCells _ (λname kind cells=>by cases hkc:kind==NameKind.cell <;> simp[hkc]) _ _ _ _ ?_);rw[show ({ s with heap:=s.heap.push { cls:=.type "dict", data:=.dict #[] } }:Shared).heap.objs.size=s.heap.objs.size+1 from zV4 ..];exact zVO (zVQ (zVQ hQ))
def zH (X:Cx) (zB:Yd) (scope:Y0) (cl:Yv) (s:Yl) (H:Hp) (fp:Yg):Cx where
 prog:=X.prog
 w:=X.w
 K:=X.K
 mg:=X.mg
 base:=X.base
 A:=X.A
 N:=X.N
 s₀:=s
 H₀:=H
 env:={ scope:=relabel scope X.env,locals:=s.heap.objs.size+1,globals:=X.env.globals,cells:=cellsFrom (s.heap.objs.size+1+1) scope.names cl,qual:=X.env.qual,func:=none,code:=X.env.code,frame:=X.env.frame,builtins:=X.env.builtins }
 outer:=X.stack
 stack:=X.stack
 ex:=fp
 fn:=λx=>decide (scope.names.lookup x=some .cell)
 calm:=X.calm
 pn:=X.pn++zB
 xe:=λ_ _=>False
theorem zA0 {scope:Y0} {env:Env} (x:Str):∀ {names:List (Str × NameKind)} {k:NameKind},
  (names.map λ(n,k)=>if (k==NameKind.free&&env.scope.kind == .function&&env.kindOf n==some .cell) then (n,NameKind.cell) else (n,k)).lookup x=some k ->
  names.lookup x=some k\/(names.lookup x=some .free/\k=.cell)
 |[],_,h=>by simp at h
 | (n,k')::r,k,h=>by
  rw[zVh]at h;by_cases hc:(k'==NameKind.free&&env.scope.kind == .function&&env.kindOf n==some .cell)=true
  .simp only[hc,if_true]at h;rw[zXT]at h ⊢;cases hb:x==n with
   |true=>
    rw[hb]at h;simp only[zVy,beq_iff_eq]at hc;exact .inr ⟨by rw[hc.1.1],(zWO h).symm⟩
   |false=>rw[hb]at h;exact zA0 (scope:=scope) x h
  .simp only[hc,zWP,if_false]at h;rw[zXT]at h ⊢;cases hb:x==n with
   |true=>rw[hb]at h;exact .inl h
   |false=>rw[hb]at h;exact zA0 (scope:=scope) x h
theorem zFj:∀ (names:List (Str × NameKind)) (n:Nat) (acc:Yv) (x:Str) (c:Yt),(x,c)∈cellsFrom n names acc->(x,c)∉acc->(x,NameKind.cell)∈names
 |[],_,_,_,_,h,h'=>absurd h h'
 | (name,kind)::r,n,acc,x,c,h,h'=>by
  unfold cellsFrom at h;split at h
  .rename_i hk;by_cases e:(x,c)=(name,n)
   .cases e;rw[beq_iff_eq]at hk;subst hk;exact zVc
   .exact zVb _ (zFj r _ _ x c h λz=>(zVa.mp z).elim e h')
  .exact zVb _ (zFj r _ _ x c h h')
structure CompScope (X:Cx) (scope:Y0):Prop where
 kind:scope.kind=.function
 names:∀ y∈scope.names,y.2=.local->scope.names.lookup y.1=some .local
 cells:∀ y∈scope.names,y.2=.cell->scope.names.lookup y.1=some .cell
 free:∀ y∈scope.names,y.2=.free->X.env.kindOf y.1=some .cell\/X.env.kindOf y.1=some .free
section
theorem zEj (S:CompScope X scope) (I:Inv X zB σ H s) (hf:∀ b∈fp,zBr X zB H b) (ho:∀ b:Nat,b∈fp->b<s.heap.objs.size)
  (c1:∀ x c,cl.lookup x=some c->X.env.cells.lookup x=some c) (c2:∀ y∈scope.names,y.2=.free->(cl.lookup y.1).isSome=true)
  (hl:σc.length=σ.length) (hσ:∀ (i:Nat) x v,X.N[i]?=some x->σc[i]?=some (some v)->(relabel scope X.env).names.lookup x≠none->scope.names.lookup x=some .free/\σ[i]?=some (some v))
  (lo:Obj) (hlo:∀ v,lo.data≠.cell v) (hfr:lo.isFreed=false)
  (h4:s4={ s with heap:=pushCells ((s.heap.push lo).push { cls:=.type "dict", data:=.dict #[] }) scope.names }) :
  Inv (zH X zB scope cl s H fp) [(s.heap.objs.size,lo)] σc H s4:=by
 subst h4;have sz1:(s.heap.push lo).objs.size=s.heap.objs.size+1:=zV4 ..;have sz2:((s.heap.push lo).push { cls:=.type "dict", data:=.dict #[] }).objs.size=s.heap.objs.size+1+1:=by rw[zV4,sz1]
 have hk:∀ b o,s.heap.get? b=some o->(pushCells ((s.heap.push lo).push { cls:=.type "dict", data:=.dict #[] }) scope.names).get? b=some o:=λb o e=>
  pushCells_keeps _ _ b o (zVP _ (zVP _ e))
 have ok:=cellsFrom_ok scope.names ((s.heap.push lo).push { cls:=.type "dict", data:=.dict #[] }) (s.heap.objs.size+1+1) [] ⟨λ_ _ hm=>(nomatch hm),List.Pairwise.nil⟩ (by rw[sz2];exact zVU _);rw[sz2]at ok;have look:∀ x c,(cellsFrom (s.heap.objs.size+1+1) scope.names cl).lookup x=some c->((cellsFrom (s.heap.objs.size+1+1) scope.names []).lookup x=some c)\/((cellsFrom (s.heap.objs.size+1+1) scope.names []).lookup x=none/\X.env.cells.lookup x=some c):=λx c e=>by
  rw[zAa,zCL]at e;cases q:(cellsFrom (s.heap.objs.size+1+1) scope.names []).lookup x with
  |some d=>rw[q]at e;exact .inl e
  |none=>rw[q]at e;exact .inr ⟨rfl,c1 x c e⟩
 have old:∀ x (c:Nat),X.env.cells.lookup x=some c->c<s.heap.objs.size:=λx c e=>let ⟨_,q⟩:=I.cell x c e;q.lt;have new:∀ x (c:Nat),(cellsFrom (s.heap.objs.size+1+1) scope.names []).lookup x=some c->s.heap.objs.size+1+1<=c:=λx c e=>(ok.empty x c (zWQ e)).2;have own:∀ x,scope.names.lookup x=some .cell -> ∃ c,(cellsFrom (s.heap.objs.size+1+1) scope.names []).lookup x=some c:=λx e=>zFp e;have cne:∀ x (c:Nat),(cellsFrom (s.heap.objs.size+1+1) scope.names cl).lookup x=some c->c<s.heap.objs.size\/s.heap.objs.size+1+1<=c:=λx c e=>by
  rcases look x c e with q|⟨_,q⟩
  .exact .inr (new x c q)
  .exact .inl (old x c q)
 refine ⟨⟨I.ok.mod,S.kind,I.ok.glob,I.ok.blt,zW6 _,λx y c h1 h2=>?_,λx hx=>?_,λx c hx h=>?_,I.ok.hd,I.ok.frames,.inl rfl,λb hb=>⟨?_,λx c e z=>?_⟩,I.bs,zVp I.ok.bsz I.sz,λb o e hb=>?_,λb hb z=>?_,I.stack,I.stkFree⟩,
  rfl,I.bare,Un.kept hk,⟨λ_=>none,?_,λi x v h1 h2 h3=>?_⟩,λx c e=>?_,I.hok.fresh (zW6 _),λx c e=>?_,λp hp=>?_,I.hok.kept hk,hl.trans I.len⟩
 .rcases look x c h1 with a|⟨_,a⟩ <;> rcases look y c h2 with b|⟨_,b⟩
  .exact name_of_addr ok.apart (zWQ a) (zWQ b)
  .exact absurd (Nat.lt_of_le_of_lt (new x c a) (old y c b)) (by omega)
  .exact absurd (Nat.lt_of_le_of_lt (new y c b) (old x c a)) (by omega)
  .exact I.ok.inj x y c a b
 .have hx':(relabel scope X.env).names.lookup x=some .cell\/(relabel scope X.env).names.lookup x=some .free:=hx;have go:scope.names.lookup x=some .cell\/scope.names.lookup x=some .free:=by
   rcases hx' with q|q
   .rcases zA0 (scope:=scope) x q with z|z
    .exact .inl z
    .exact .inr z.1
   .rcases zA0 (scope:=scope) x q with z|z
    .exact .inr z
    .exact .inr z.1
  show ∃ c,(cellsFrom (s.heap.objs.size+1+1) scope.names cl).lookup x=some c;rw[zAa,zCL];rcases go with q|q
  .obtain ⟨c,e⟩:=own x q;exact ⟨c,by rw[e]⟩
  .cases e:(cellsFrom (s.heap.objs.size+1+1) scope.names []).lookup x with
   |some d=>exact ⟨d,rfl⟩
   |none=>exact Option.isSome_iff_exists.mp (c2 (x,.free) (zWQ q) rfl)
 .obtain ⟨d,e⟩:=own x (zWK hx);have h':(cellsFrom (s.heap.objs.size+1+1) scope.names cl).lookup x=some c:=h;rw[zAa,zCL,e]at h';cases h';exact zVp (zVp (zW6 _) (zW6 _)) (new x _ e)
 .exact zVj (zWD (ho b hb))
 .rcases look x c e with q|⟨_,q⟩
  .have a:=new x c q;rw[z]at a;exact absurd (Nat.lt_of_le_of_lt a (ho b hb)) (by omega)
  .exact (hf b hb).2.2.2.2.1 x c q z
 .rcases (hf b hb).2.2.2.1 with z|z
  .exact I.ok.noex b o e z
  .exact absurd (zVn (zVZ e) (zVp I.ok.bsz z)) (zV6 _)
 .rcases zVa.mp (I.stkSub b z)with q|q
  .exact (hf b hb).2.1 q
  .exact (hf b hb).2.2.1 q
 .have q:((s.heap.push lo).push { cls:=.type "dict", data:=.dict #[] }).Ns (s.heap.push lo).objs.size (λ_=>none):=Heap.Ns.new ..;rw[sz1]at q;exact q.keeps (pushCells_keeps _ _)
 .have h3':(relabel scope X.env).names.lookup x≠none:=by
   rcases h3 with z|z|z <;> (intro q;have z':(relabel scope X.env).names.lookup x=_:=z;rw[q]at z';cases z')
  obtain ⟨fr,hv⟩:=hσ i x v h1 h2 h3';obtain ⟨m,hn,hlk⟩:=I.loc;have kx:=S.free (x,.free) (zWQ fr) rfl;obtain ⟨u,rv,lk⟩:=hlk i x v h1 hv (by rcases kx with z|z;exact .inr (.inl z);exact .inr (.inr z));refine ⟨u,rv,?_⟩;rcases lk with ⟨z,_⟩|⟨_,c,e,ic⟩
  .rcases kx with k|k <;> (rw[k]at z;cases z)
  .have kind:(relabel scope X.env).names.lookup x=some .cell\/(relabel scope X.env).names.lookup x=some .free:=by
    cases q:(relabel scope X.env).names.lookup x with
    |none=>exact absurd q h3'
    |some k=>
     rcases zA0 (scope:=scope) x q with z|z
     .rw[fr]at z;cases z;exact .inr rfl
     .rw[z.2];exact .inl rfl
   refine .inr ⟨kind,c,?_,ic.keeps hk⟩;show (cellsFrom (s.heap.objs.size+1+1) scope.names cl).lookup x=some c;rw[zAa,zCL];obtain ⟨d,hd⟩:=Option.isSome_iff_exists.mp (c2 (x,.free) (zWQ fr) rfl);have:=c1 x d hd;rw[e]at this;cases this;have nn:(cellsFrom (s.heap.objs.size+1+1) scope.names []).lookup x=none:=by
    cases q:(cellsFrom (s.heap.objs.size+1+1) scope.names []).lookup x with
    |none=>rfl
    |some d'=>
     have z:=S.cells (x,.cell) (zFj scope.names _ [] x d' (zWQ q) λz=>nomatch z) rfl;rw[fr]at z;cases z
   rw[nn];exact hd
 .rcases look x c e with q|⟨_,q⟩
  .exact ⟨none,(ok.empty x c (zWQ q)).1⟩
  .obtain ⟨v,z⟩:=I.cell x c q;exact ⟨v,z.keeps hk⟩
 .rcases look x c e with q|⟨_,q⟩
  .exact I.hok.fresh (by have:=new x c q;omega)
  .exact I.freeC x c q
 .have hp':p∈X.pn++zB\/p=(s.heap.objs.size,lo):=by
   rcases zVo.mp hp with z|z
   .exact .inl z
   .exact .inr (by simpa using z)
  rcases hp' with z|z
  .obtain ⟨e,n,ne,nf,d⟩:=I.pin p z;have lt:(p.1:Nat)<s.heap.objs.size:=zVZ e;refine ⟨hk _ _ e,n,?_,λq=>?_,d⟩
   .exact zVj (zWD lt)
   .rcases zVa.mp (I.stkSub _ q)with r|r
    .exact ne r
    .exact nf r
  .subst z;refine ⟨pushCells_keeps _ _ _ _ (zVP _ (zVY _ hfr)),I.hok.fresh (zVU _),?_,λq=>?_,hlo⟩
   .show s.heap.objs.size≠s.heap.objs.size+1;omega
   .rcases zVa.mp (I.stkSub _ q)with r|r
    .exact absurd I.lt (by rw[<-r];exact zV6 _)
    .exact I.nofs (zVU _) r
end
def clr (own:Yj) (σ:St):St:=own.foldl (λσ i=>σ.set i none) σ
theorem zA8:∀ (own:Yj) (σ:St),(clr own σ).length=σ.length
 |[],_=>rfl
 |i::r,σ=>by
  show (clr r (σ.set i none)).length=_;rw[zA8 r,List.length_set]
theorem zCX:∀ (own:Yj) (σ:St) (j:Nat) (v:V),(clr own σ)[j]?=some (some v)->σ[j]?=some (some v)/\j∉own
 |[],_,_,_,h=>⟨h,λz=>nomatch z⟩
 |i::r,σ,j,v,h=>by
  have h':(clr r (σ.set i none))[j]?=some (some v):=h;obtain ⟨a,b⟩:=zCX r _ j v h';rw[zWx]at a;split at a
  .split at a <;> cases a
  .rename_i hne;exact ⟨a,λz=>(zVa.mp z).elim (λe=>hne e.symm) b⟩
def Ext (a b:St):Prop:=b.length=a.length /\ ∀ (i:Nat) v,a[i]?=some (some v)->b[i]?=some (some v)
theorem Ext.refl (a:St):Ext a a:=⟨rfl,λ_ _ h=>h⟩
theorem Ext.set (e:Ext (clr own σ) a) (h:i∈own):Ext (clr own σ) (a.set i (some v)):=by
 refine ⟨by rw[List.length_set];exact e.1,λj u q=>?_⟩;rw[zWx];split
 .rename_i z;exact absurd (z▸h) (zCX own σ j u q).2
 .exact e.2 j u q
def zFR (X:Cx) (ifs:Yi) (t:TT):Prop :=
 ∀ (zB:Yd) (s:Yl) (σ:St) (H:Hp) (Q:Bool->Hp->Prop),Inv X zB σ H s->t σ H Q ->
  wpAny (model X.prog X.w) X.A (forIn ifs true λc r=>if r=true then do let ok <- isTrue c X.env (eval c X.env);pure (ForInStep.yield ok) else pure (ForInStep.yield r)) (TP X zB σ Q) X.xe s
def zVC:TT:=λ_ H Q=>Q true H
theorem zPC:zFR X [] zVC:=λ_ _ _ H _ I h=>wpAny_tests_nil ⟨H,I,h⟩
theorem zNq (h:PT X c t):zFR X [c] t:=λzB s σ H Q I hq=>wpAny_tests_one (h zB s σ H Q I hq)
section
theorem zH9 (I:Nat->Shared->Prop)
  (turn:∀ n s,I n s->wpAny (model prog w) A (pyNext it) (λr s₁=>match r with
   |none=>R (.ok .next) s₁
   |some v=>wpAny (model prog w) A (letOwnedTupleGo target it v) (λ_ s₁'=>wpAny (model prog w) A (assign target env v) (λ_ s₂=>
     wpAny (model prog w) A (forIn ifs true λc r=>if r=true then do let ok <- isTrue c env (eval c env);pure (ForInStep.yield ok) else pure (ForInStep.yield r)) (λok s₃=>
      if ok=true then wpAny (model prog w) A (eval elt env) (λx s₄=>
       wpAny (model prog w) A (call (.builtin "list.append") [acc,x]) (λ_ s₅=>∃ m,m<n/\I m s₅) (λ_ _=>False) s₄) (λ_ _=>False) s₃
      else ∃ m,m<n/\I m s₃) (λ_ _=>False) s₂) (λ_ _=>False) s₁') (λ_ _=>False) s₁) (λ_ _=>False) s)
  (n:Nat) (h:I n s) :
  codeAny (model prog w) A (.compLoop (.ListComp elt [⟨target,iter,ifs,0⟩] scope pos) 0 it acc env) R s:=by
 refine codeAny_loop rfl I (λn s hI=>?_) n h;show wpAny _ A ((compTurn (.ListComp elt [⟨target,iter,ifs,0⟩] scope pos) 0 it acc env).onRaise (λx=>do noteFrame x env;theTreesLotGoes x)) _ _ s;refine wpAny_noted ?_;rw[compTurn_list];refine zVO (zWM (zVO (zVu (turn n s hI) (λr s₁ h₁=>?_) λ_ _ h'=>h'.elim)));cases r with
 |none=>exact zVQ h₁
 |some v=>
  refine zVO (zVu h₁ (λ_ s₁' h₁'=>?_) λ_ _ h'=>h'.elim);refine zVO (zVu h₁' (λ_ s₂ h₂=>zVO (zVu h₂ (λok s₃ h₃=>?_) λ_ _ h'=>h'.elim)) λ_ _ h'=>h'.elim);cases ok with
  |false=>exact zVQ ⟨rfl,h₃⟩
  |true=>
   exact zVO (zVO (zVu h₃ (λx s₄ h₄=>zVO (zVu h₄ (λ_ s₅ h₅=>zVQ (zVQ ⟨rfl,h₅⟩)) λ_ _ h'=>h'.elim)) λ_ _ h'=>h'.elim))
end
def zOd (own:Yj) (wi:TI) (g:TG) (tc:TT) (te:TE):TE:=λσ H Q=>wi σ H λJ H1=>∃ W:Nat->Nat->List V->Hp->Prop,(∃ m,W 0 m [] H1) /\ ∀ i m ys H,W i m ys H ->
 (J.stop i H/\ys.length<=sizeLine /\ ∀ D,H D=none->Q (.ref D) (upd H D (.lst ys))) \/
 (J.go i H /\ ∀ x H',J.yld i H x H'->g x (clr own σ) H' λσ2 H2=>Ext (clr own σ) σ2/\tc σ2 H2 λb H3=>
  if b=true then te σ2 H3 λv H4=>ys.length<sizeLine /\ ∃ m',m'<m/\W (i+1) m' (ys++[v]) H4 else ∃ m',m'<m/\W (i+1) m' ys H3)
abbrev zd (its:List Value) (n:Nat):Obj:={ cls:=.type "list", data:=.seq its.toArray n }
section
theorem Inv.repin (I:Inv X (pl++[(D,o)]) σ H s) (hpl:∀ p∈X.pn++pl,p.1≠D) (hs:Heap.SameBut D s.heap h') (hD:X.s₀.heap.objs.size<=D) (hc:∀ x c,X.env.cells.lookup x=some c->c≠D)
  (e:h'.get? D=some o') (hn:∀ v,o'.data≠.cell v):Inv X (pl++[(D,o')]) σ H { s with heap:=h' }:=by
 obtain ⟨e0,n0,ne0,nf0,d0⟩:=I.pin (D,o) (by simp);have I1:Inv X pl σ H s:=I.pins_of λp hp=>I.pin p (by simp[hp]);have I2:Inv X pl σ H { s with heap:=h' }:=I1.turned (t':=s.toks) (it:=D) (λb u hb q=>hs.extBut b u hb q) n0 ne0 (.inr hD) hc hpl;exact I2.pins_of λp hp=>by
  rcases zVo.mp hp with z|z
  .exact I2.pin p (zVi _ z)
  .have:p=(D,o'):=by simpa using z
   subst this;exact ⟨e,n0,ne0,nf0,hn⟩
end
section
variable {pos:Pos}
 {own:Yj} {g:TG} {tc:TT} {te:TE} {E:Yc}
structure CompIn (X:Cx) (scope:Y0) (own:Yj):Prop where
 sc:CompScope X scope
 nm:∀ (i:Nat) x,X.N[i]?=some x->i∈own\/scope.names.lookup x=none\/scope.names.lookup x=some .free
theorem zB2 (x:Str) (h:scope.names.lookup x=none):(relabel scope env).names.lookup x=none:=by
 cases q:(relabel scope env).names.lookup x with
 |none=>rfl
 |some k=>
  rcases zA0 (scope:=scope) x q with z|z
  .rw[h]at z;cases z
  .rw[h]at z;cases z.1
theorem zFq (C:CompIn X scope own) (hcalm:X.calm=true) (I:Inv X zB σ H s) (T:Turn X.prog X.w X.K tg J fp it tn) (st:tn 0 s.heap) (hf:∀ b∈fp,zBr X zB H b)
  (c1:∀ x c,cl.lookup x=some c->X.env.cells.lookup x=some c) (c2:∀ y∈scope.names,y.2=.free->(cl.lookup y.1).isSome=true)
  (hg:PG (zH X zB scope cl s H fp) tg g) (hi:zFR (zH X zB scope cl s H fp) ifs tc) (he:PE (zH X zB scope cl s H fp) elt te)
  {RR:Value->Addr->Result->Shared->Prop} {QQ:List V->Hp->Prop} {W:Nat->Nat->List V->Hp->Prop} {m0:Nat} (w0:W 0 m0 [] H)
  (turn:∀ i m ys H,W i m ys H->(J.stop i H/\ys.length<=sizeLine/\QQ ys H) \/
   (J.go i H /\ ∀ x H',J.yld i H x H'->g x (clr own σ) H' λσ2 H2=>Ext (clr own σ) σ2/\tc σ2 H2 λb H3=>
    if b=true then te σ2 H3 λv H4=>ys.length<sizeLine /\ ∃ m',m'<m/\W (i+1) m' (ys++[v]) H4 else ∃ m',m'<m/\W (i+1) m' ys H3))
  (fin:∀ σc H' s' its n ys,Inv (zH X zB scope cl s H fp) [(s.heap.objs.size,zd its n)] σc H' s'->zZ ys its->ys.length<=sizeLine->QQ ys H'->RR (.ref s.heap.objs.size) (s.heap.objs.size+1) (.ok .next) s') :
  wpAny (model X.prog X.w) X.A (newList []) (λacc s₃=>wpAny (model X.prog X.w) X.A (newFunctionEnv scope X.env.globals cl [] X.env.qual none .none (some X.env)) (λcenv s₄=>
   codeAny (model X.prog X.w) X.A (.compStart (.ListComp elt [⟨tg,iter,ifs,0⟩] scope pos) 0 (.ref it) acc { cenv with scope:=relabel scope X.env }) (RR acc cenv.locals) s₄) E s₃) E s:=by
 have ob:∀ b:Nat,b∈fp->b<s.heap.objs.size:=λb hb=>let ⟨_,e,_⟩:=T.obj 0 _ st b hb;zVZ e;refine zVr (zCS ?_);have sz1:(s.heap.push (zd [] 0)).objs.size=s.heap.objs.size+1:=zV4 ..;have I4:=zEj (X:=X) (zB:=zB) (σ:=σ) (σc:=clr own σ) (H:=H) (s:=s) (scope:=scope) (cl:=cl) (fp:=fp) C.sc I hf ob c1 c2 (zA8 own σ) (λi x v h1 h2 h3=>by
  obtain ⟨a,b⟩:=zCX own σ i v h2;rcases C.nm i x h1 with z|z|z
  .exact absurd z b
  .exact absurd (zB2 x z) h3
  .exact ⟨z,a⟩) (zd [] 0) (by intro v z;cases z) rfl rfl
 have st4:tn 0 (pushCells ((s.heap.push (zd [] 0)).push { cls:=.type "dict", data:=.dict #[] }) scope.names):=T.keep 0 _ _ st λb _ o e=>pushCells_keeps _ _ b o (zVP _ (zVP _ e));unfold newEnv;rw[sz1];have hDfp:s.heap.objs.size∉fp:=λz=>zV6 _ (ob _ z);have hcD:∀ x c,(zH X zB scope cl s H fp).env.cells.lookup x=some c->c≠s.heap.objs.size:=λx c e z=>by
  obtain ⟨v,o,ho,hd⟩:=I4.cell x c e;obtain ⟨q,_⟩:=I4.pin (s.heap.objs.size,zd [] 0) (by simp);rw[z,q]at ho;cases ho;cases hd
 have fpk:∀ {H':Hp} {pl:Yd},(∀ b∈fp,H' b=none)->(∀ p∈pl,p.1=s.heap.objs.size) -> ∀ b∈fp,zBr (zH X zB scope cl s H fp) pl H' b:=λ{H' pl} hn hp b hb=>
  ⟨hn b hb,(I4.ok.exf b hb).1,I4.ok.exfs b hb,.inl hb,(I4.ok.exf b hb).2,λp hq=>by
   rcases zVo.mp hq with z|z
   .exact (hf b hb).2.2.2.2.2 p z
   .intro e;have e2:=hp p z;rw[e]at e2;exact hDfp (e2▸hb)⟩
 have loop:codeAny (model X.prog X.w) X.A (.compLoop (.ListComp elt [⟨tg,iter,ifs,0⟩] scope pos) 0 (.ref it) (.ref s.heap.objs.size) (zH X zB scope cl s H fp).env) (RR (.ref s.heap.objs.size) (s.heap.objs.size+1))
   { s with heap:=pushCells ((s.heap.push (zd [] 0)).push { cls:=.type "dict", data:=.dict #[] }) scope.names }:=by
  refine zH9 (λn s'=>∃ i H' ys its k,Inv (zH X zB scope cl s H fp) [(s.heap.objs.size,zd its k)] (clr own σ) H' s'/\zZ ys its/\tn i s'.heap/\(∀ b∈fp,H' b=none)/\W i n ys H') ?_ m0
   ⟨0,H,[],[],0,I4,.nil,st4,λb hb=>(hf b hb).1,w0⟩
  rintro n s5 ⟨i,H5,ys,its,k,I5,r5,st5,f5,w5⟩;have pinD:∀ p∈[(s.heap.objs.size,zd its k)],p.1=s.heap.objs.size:=λp hp=>by
   have:p=(s.heap.objs.size,zd its k):=by simpa using hp
   rw[this]
  rcases turn i n ys H5 w5 with ⟨stop,hz,qq⟩|⟨go,step⟩
  .refine thn (T.done (zH X zB scope cl s H fp) rfl rfl rfl hcalm i _ s5 _ H5 _ I5 (fpk f5 pinD) st5 stop) λr s6 ⟨hr,I6⟩=>?_;subst hr;exact fin _ H5 s6 its k ys I6 r5 hz qq
  .refine thn (T.item (zH X zB scope cl s H fp) rfl rfl rfl hcalm i _ s5 _ H5 _ I5 (fpk f5 pinD) st5 go) λr s6 ⟨u,hr,h6⟩=>?_;subst hr;refine thn h6 λ_ s7 ⟨x,H7,I7,r7,y7,st7,f7⟩=>?_;have I7':=I7.pinned (fpk f7 pinD) (T.obj _ _ st7);refine thn (hg _ s7 _ H7 x u _ I7' r7 (step x H7 y7)) λ_ s8 ⟨σ8,H8,I8,x8,q8⟩=>?_;refine thn (hi _ s8 σ8 H8 _ I8 q8) λok s9 ⟨H9,I9,q9⟩=>?_;have back:∀ {s':Yl} {Hx:Hp},Inv (zH X zB scope cl s H fp) ([(s.heap.objs.size,zd its k)]++zCd fp s7.heap) σ8 Hx s'->tn (i+1) s'.heap /\ ∀ b∈fp,Hx b=none:=λ{s' Hx} Ix=>
    ⟨T.keep _ _ _ st7 λb hb o e=>(Ix.pin (b,o) (zVi _ (zVi _ (zAN hb e)))).1,λb hb=>by
     obtain ⟨o,e,d⟩:=T.obj _ _ st7 b hb;exact (Ix.pin (b,o) (zVi _ (zVi _ (zAN hb e)))).2.1⟩
   cases ok with
   |false=>
    obtain ⟨m',hm,w'⟩:=q9;obtain ⟨b1,b2⟩:=back I9;exact ⟨m',hm,i+1,H9,ys,its,k,(I9.weak (by rw[x8.1]) x8.2).unpinned,r5,b1,b2,w'⟩
   |true=>
    refine thn (he _ s9 σ8 H9 _ I9 q9) λv s10 ⟨y,H10,I10,r10,hlt,m',hm,w'⟩=>?_;obtain ⟨b1,b2⟩:=back I10;have J10:=(I10.weak (by rw[x8.1]) x8.2).unpinned;obtain ⟨e10,n10,ne10,nf10,d10⟩:=J10.pin (s.heap.objs.size,zd its k) (by simp);have hlen:its.toArray.size<=sizeLine:=by
     have:=r5.length;rw[zVW,<-this];exact zYK hlt
    refine wpAny_list_append_plain (hsz:=hlen) (show s10.heap.PlainList s.heap.objs.size its.toArray from ⟨k,e10⟩) λh' hl' hs'=>?_;obtain ⟨k',e'⟩:=hl';have e'':h'.get? s.heap.objs.size=some (zd (its++[v]) k'):=by rw[e'];simp[zd]
    refine ⟨m',hm,i+1,H10,ys++[y],its++[v],k',?_,r5.append (.cons r10 .nil),T.keep _ _ _ b1 λb hb o e=>hs'.extBut b o (λz=>hDfp (z▸hb)) e,b2,w'⟩;refine Inv.repin (pl:=[]) J10 (λp hp=>?_) hs' (zVU _) hcD e'' (by intro v z;cases z);rw[zV8]at hp;have hp':p∈X.pn++zB:=hp;exact zVj (zVZ (I.pin p hp').1)
 exact codeAny_compStart_list loop (T.self _ 0 _ _ _ st4 loop)
end
section
theorem zGK (I:Inv X zB σ H s) (hf:∀ b∈fp,zBr X zB H b)
  (Ic:Inv (zH X zB scope cl s H fp) [(s.heap.objs.size,zd its n)] σc H' s') (rv:zZ ys its) (hz:ys.length<=sizeLine) (hs:Heap.SameBut (s.heap.objs.size+1) s'.heap h') :
  Inv X zB σ (upd H' s.heap.objs.size (.lst ys)) { s' with heap:=h' }/\H' s.heap.objs.size=none:=by
 obtain ⟨eD,nD,_⟩:=Ic.pin (s.heap.objs.size,zd its n) (by simp);have nC:H' (s.heap.objs.size+1)=none:=Ic.free;have eD':h'.get? s.heap.objs.size=some (zd its n):=hs.extBut _ _ (zVj (zWL _)) eD;have lt1:∀ {b:Yt} {o:Obj},s.heap.get? b=some o->b≠s.heap.objs.size+1/\b≠s.heap.objs.size:=λe=>⟨zVj (zWD (zVZ e)),zVj (zVZ e)⟩;have tr:∀ b u,H' b=some u->b≠s.heap.objs.size+1/\b≠s.heap.objs.size:=λb u e=>⟨λz=>(by rw[z,nC]at e;cases e),λz=>(by rw[z,nD]at e;cases e)⟩;refine ⟨?_,nD⟩;have B:=Ic.base;have un:Un (frs X.stack) fp H (upd H' s.heap.objs.size (.lst ys)) s.heap h':=by
  refine ⟨λb o e q hb hx=>hs.extBut b o (lt1 e).1 (B.keep b o e q hb hx),λb o e q hb hx=>?_,λb o e q hx=>?_,λb o e hx=>?_,λb xs e=>?_,λb o xs e=>?_,λb ps e=>?_⟩
  .obtain ⟨sl,e1⟩:=B.slot b o e q hb hx;exact ⟨sl,hs.extBut b _ (lt1 e).1 e1⟩
  .rw[zT (lt1 e).2];exact B.free b o e q hx
  .obtain ⟨o',e1⟩:=B.there b o e hx;exact ⟨o',hs.extBut b _ (lt1 e).1 e1⟩
  .have q:=B.tups b xs e;rw[zT (tr b _ q).2];exact q
  .have q:=B.frzs b o xs e;rw[zT (tr b _ q).2];exact q
  .obtain ⟨more,q⟩:=B.tbls b ps e;exact ⟨more,by rw[zT (tr b _ q).2];exact q⟩
 have hok:HOk X.prog X.w (upd H' s.heap.objs.size (.lst ys)) h':=λb u e=>by
  by_cases hb:b=s.heap.objs.size
  .subst hb;rw[zj]at e;cases e;exact ⟨hz,its,n,rv,eD'⟩
  .rw[zT hb]at e;refine (Ic.hok b u e).stay (λc v hc q=>hs.extBut c v ?_ q) (λc q=>by rw[zT (tr c _ q).2];exact q) λc xs q=>by rw[zT (tr c _ q).2];exact q
   rcases hc with z|z
   .rw[z];exact (tr b u e).1
   .exact (tr c _ z).1
 exact I.call' (s':={ s' with heap:=h' }) (ch:=fp) Ic.os un hok Ic.bare λb hb=>⟨(hf b hb).2.2.2.1,(hf b hb).2.1,(hf b hb).2.2.2.2.1,(hf b hb).2.2.2.2.2⟩
end
section
structure CompParts (X:Cx) (scope:Y0) (tg:Expr) (ifs:Yi) (elt:Expr) (g:TG) (tc:TT) (te:TE):Prop where
 g:∀ zB cl s H fp,PG (zH X zB scope cl s H fp) tg g
 c:∀ zB cl s H fp,zFR (zH X zB scope cl s H fp) ifs tc
 e:∀ zB cl s H fp,PE (zH X zB scope cl s H fp) elt te
theorem CompScope.closure (S:CompScope X scope) (I:Inv X zB σ H s) :
  ∃ cl,closureFor scope X.env=pure cl/\(∀ x c,cl.lookup x=some c->X.env.cells.lookup x=some c) /\ ∀ y∈scope.names,y.2=.free->(cl.lookup y.1).isSome=true :=
 zHA λy hy hk=>I.ok.has y.1 (S.free y hy hk)
theorem zRI (C:CompIn X scope own) (hcalm:X.calm=true) (hi:PI X tg iter wi) (p:CompParts X scope tg ifs elt g tc te) (hs:∀ x,foldedSetIterable iter X.env x=pure x:=by intro _;rfl) :
  PE X (.ListComp elt [⟨tg,iter,ifs,0⟩] scope pos) (zOd own wi g tc te):=by
 intro zB s σ H Q I h;obtain ⟨cl,hcl,c1,c2⟩:=C.sc.closure I;rw[eval_ListComp];refine zXI (use:=none) rfl hs hcl C.sc.kind C.sc.names (thn (hi zB s σ H _ I h) λv s1 h1=>thn h1 λitv s2 h2=>?_);obtain ⟨it,fp,tn,J,H2,e,I2,T,st2,f2,W,⟨m0,w0⟩,turn⟩:=h2;subst e;refine zFq C hcalm I2 T st2 f2 c1 c2 (p.g _ _ _ _ _) (p.c _ _ _ _ _) (p.e _ _ _ _ _) (RR:=λacc C r s'=>compPost (model X.prog X.w) X.A X.xe none (EP X zB σ Q) acc C r s') (QQ:=λys H=>∀ D,H D=none->Q (.ref D) (upd H D (.lst ys))) w0 turn ?_;intro σc H' s' its n ys Ic rv hz qq;obtain ⟨m,hn,_⟩:=Ic.loc;refine ⟨m,hn,λh' hs'=>?_⟩;obtain ⟨J',nD⟩:=zGK I2 f2 Ic rv hz hs';exact ⟨.ref s2.heap.objs.size,_,J',rfl,qq _ nD⟩
theorem zLT (hN:X.N.Nodup) (hi':X.N[i]?=some x) (hx:Loc X.env.scope x) (hfn:X.fn x=true\/X.env.scope.names.lookup x=some .local)
  (C:CompIn X scope own) (hcalm:X.calm=true) (hi:PI X tg iter wi) (p:CompParts X scope tg ifs elt g tc te)
  (hsw:swapsWith (.ListComp elt [⟨tg,iter,ifs,0⟩] scope pos) (some (.Name x pos')) pos''.line X.env=pure true) (hs:∀ x,foldedSetIterable iter X.env x=pure x:=by intro _;rfl) :
  PS X (.Assign [.Name x pos'] (.ListComp elt [⟨tg,iter,ifs,0⟩] scope pos) pos'') (zOE (zOd own wi g tc te) (zBS i)):=by
 intro zB s σ H D I h;obtain ⟨cl,hcl,c1,c2⟩:=C.sc.closure I;rw[exec_Assign_Name_used _ _ _ _ hsw];refine zVO (zWM (zVO ?_))
 refine zVO (zVu (zXI (use:=some (assign (.Name x pos') X.env)) (Q:=λ_ s'=>SP X zB D .next s') rfl hs hcl C.sc.kind C.sc.names
  (thn (hi zB s σ H _ I h) λv s1 h1=>thn h1 λitv s2 h2=>?_)) (λ_ s' hq=>zVQ (zVQ hq)) λ_ _ e=>e)
 obtain ⟨it,fp,tn,J,H2,e,I2,T,st2,f2,W,⟨m0,w0⟩,turn⟩:=h2;subst e
 refine zFq C hcalm I2 T st2 f2 c1 c2 (p.g _ _ _ _ _) (p.c _ _ _ _ _) (p.e _ _ _ _ _) (RR:=λacc C r s'=>compPost (model X.prog X.w) X.A X.xe (some (assign (.Name x pos') X.env)) (λ_ s'=>SP X zB D .next s') acc C r s')
  (QQ:=λys H=>∀ E,H E=none->zBS i (.ref E) σ (upd H E (.lst ys)) D.nx) w0 turn ?_
 intro σc H' s' its n ys Ic rv hz qq;obtain ⟨m,hn,_⟩:=Ic.loc;obtain ⟨J',nD⟩:=zGK (h':=s'.heap) I2 f2 Ic rv hz (.refl ..);obtain ⟨oC,es,ep,hoC,hdC,r1,r2⟩:=id hn;have nC:upd H' s2.heap.objs.size (.lst ys) (s2.heap.objs.size+1)=none:=by rw[zT (zWt (zWL _))];exact Ic.free
 have K':Inv X (zB++[(s2.heap.objs.size+1,oC)]) σ (upd H' s2.heap.objs.size (.lst ys)) s':=J'.pins_of λq hq=>by
  rcases zVo.mp hq with z|z
  .exact J'.pin q (zVi _ z)
  .have e:q=(s2.heap.objs.size+1,oC):=by simpa using z
   subst e;refine ⟨hoC,nC,zWt (zWD I2.lt),I2.nofs (zW6 _),λv z=>?_⟩;have z':oC.data=.cell v:=z;rw[hdC]at z';cases z'
 refine thn (zIZ hN hi' hx hfn _ s' σ _ (.ref s2.heap.objs.size) (.ref s2.heap.objs.size) _ K' rfl (qq _ nD)) λ_ s'' ⟨σ'',H'',I'',q''⟩=>?_;obtain ⟨eC,_⟩:=I''.pin (s2.heap.objs.size+1,oC) (by simp);refine ⟨m,⟨oC,es,ep,eC,hdC,r1,r2⟩,λh' hs'=>⟨σ'',H'',?_,q''⟩⟩;have I3:Inv X zB σ'' H'' s'':=I''.unpinned;obtain ⟨_,nC'',neC,_,_⟩:=I''.pin (s2.heap.objs.size+1,oC) (by simp);refine I3.turned (t':=s''.toks) (it:=s2.heap.objs.size+1) (λb o hb e=>hs'.extBut b o hb e) nC'' neC (.inr (zVp I2.sz (zW6 _))) (λx c e z=>?_) (λq hq z=>?_)
 .obtain ⟨v,o,ho,hd⟩:=I3.cell x c e;rw[z,eC]at ho;cases ho;rw[hdC]at hd;cases hd
 .obtain ⟨e,_⟩:=I2.pin q hq;exact zVj (zWD (zVZ e)) z
end
abbrev zBC (elt t1 i1:Expr) (f1:Yi) (t2 i2:Expr) (f2:Yi) (scope:Y0) (pos:Pos):Expr:=.ListComp elt [⟨t1,i1,f1,0⟩,⟨t2,i2,f2,0⟩] scope pos
theorem zG0 (elt t1 i1:Expr) (f1:Yi) (t2 i2:Expr) (f2:Yi) (scope:Y0) (pos:Pos) (it acc:Yu) (env:Env) :
  compTurn (zBC elt t1 i1 f1 t2 i2 f2 scope pos) 0 it acc env=(do
   standAt i1.pos;match <- pyNext it with
   |none=>pure (.done .next)
   |some v=>
    letOwnedTupleGo t1 it v;assign t1 env v;let mut ok:=true
    for c in f1 do
     if ok then ok <- isTrue c env (eval c env)
    if ok then
     let x <- eval i2 env;standAt i2.pos;let x <- foldedSetIterable i2 env x;let _ <- runOwn (.compStart (zBC elt t1 i1 f1 t2 i2 f2 scope pos) 1 (<- holding [x] (pyIter x)) acc env) env
    again (.compLoop (zBC elt t1 i1 f1 t2 i2 f2 scope pos) 0 it acc env)):=by rfl
theorem zIp (elt t1 i1:Expr) (f1:Yi) (t2 i2:Expr) (f2:Yi) (scope:Y0) (pos:Pos) (it acc:Yu) (env:Env) :
  compTurn (zBC elt t1 i1 f1 t2 i2 f2 scope pos) 1 it acc env=(do
   standAt i2.pos;match <- pyNext it with
   |none=>pure (.done .next)
   |some v=>
    letOwnedTupleGo t2 it v;assign t2 env v;let mut ok:=true
    for c in f2 do
     if ok then ok <- isTrue c env (eval c env)
    if ok then
     (do let _ <- call (.builtin "list.append") [acc,<-eval elt env])
    again (.compLoop (zBC elt t1 i1 f1 t2 i2 f2 scope pos) 1 it acc env)):=by rfl
section
theorem zIa (I:Nat->Shared->Prop)
  (turn:∀ n s,I n s->wpAny (model prog w) A (pyNext it) (λr s₁=>match r with
   |none=>R (.ok .next) s₁
   |some v=>wpAny (model prog w) A (letOwnedTupleGo t2 it v) (λ_ s₁'=>wpAny (model prog w) A (assign t2 env v) (λ_ s₂=>
     wpAny (model prog w) A (forIn f2 true λc r=>if r=true then do let ok <- isTrue c env (eval c env);pure (ForInStep.yield ok) else pure (ForInStep.yield r)) (λok s₃=>
      if ok=true then wpAny (model prog w) A (eval elt env) (λx s₄=>
       wpAny (model prog w) A (call (.builtin "list.append") [acc,x]) (λ_ s₅=>∃ m,m<n/\I m s₅) (λ_ _=>False) s₄) (λ_ _=>False) s₃
      else ∃ m,m<n/\I m s₃) (λ_ _=>False) s₂) (λ_ _=>False) s₁') (λ_ _=>False) s₁) (λ_ _=>False) s)
  (n:Nat) (h:I n s) :
  codeAny (model prog w) A (.compLoop (zBC elt t1 i1 f1 t2 i2 f2 scope pos) 1 it acc env) R s:=by
 refine codeAny_loop rfl I (λn s hI=>?_) n h;show wpAny _ A ((compTurn (zBC elt t1 i1 f1 t2 i2 f2 scope pos) 1 it acc env).onRaise (λx=>do noteFrame x env;theTreesLotGoes x)) _ _ s;refine wpAny_noted ?_;rw[zIp];refine zVO (zWM (zVO (zVu (turn n s hI) (λr s₁ h₁=>?_) λ_ _ h'=>h'.elim)));cases r with
 |none=>exact zVQ h₁
 |some v=>
  refine zVO (zVu h₁ (λ_ s₁' h₁'=>?_) λ_ _ h'=>h'.elim);refine zVO (zVu h₁' (λ_ s₂ h₂=>zVO (zVu h₂ (λok s₃ h₃=>?_) λ_ _ h'=>h'.elim)) λ_ _ h'=>h'.elim);cases ok with
  |false=>exact zVQ ⟨rfl,h₃⟩
  |true=>
   exact zVO (zVO (zVu h₃ (λx s₄ h₄=>zVO (zVu h₄ (λ_ s₅ h₅=>zVQ (zVQ ⟨rfl,h₅⟩)) λ_ _ h'=>h'.elim)) λ_ _ h'=>h'.elim))
theorem zGx
  (h0:codeAny (model prog w) A (.compLoop (zBC elt t1 i1 f1 t2 i2 f2 scope pos) 1 it acc env) R s)
  (h:wpAny (model prog w) A (pyIter it) (λit' s'=>codeAny (model prog w) A (.compLoop (zBC elt t1 i1 f1 t2 i2 f2 scope pos) 1 it' acc env) R s')
   (notedBy (model prog w) A env λx s'=>R (.error x) s') s) :
  codeAny (model prog w) A (.compStart (zBC elt t1 i1 f1 t2 i2 f2 scope pos) 1 it acc env) R s:=by
 refine codeAny_of_tree ?_;show wpAny _ _ ((compStart (zBC elt t1 i1 f1 t2 i2 f2 scope pos) 1 it acc env).onRaise (λx=>do noteFrame x env;standAt theWindowsPlace)) _ _ s;refine wpAny_notedAt ?_;unfold compStart;refine zVO (wpAny_askSetting (wpAny_ite ?_));split
 .first
   |exact zVO (zVQ (zVQ (And.intro rfl h0)))
   |exact zVQ (And.intro rfl h0)
 .first
   |exact zVO (zWl (zVO (zWM (zVO (zVu h (λit' s' h'=>zVQ (And.intro rfl h')) λ_ _ x=>x)))))
   | (refine zVO (zWl ?_);show wpAny _ _ (standAt i2.pos >>= _) _ _ s;exact zVO (zWM (zVO (zVu h (λit' s' h'=>zVQ (And.intro rfl h')) λ_ _ x=>x))))
theorem zG8 (hs2:∀ x,foldedSetIterable i2 env x=pure x) (I:Nat->Shared->Prop)
  (turn:∀ n s,I n s->wpAny (model prog w) A (pyNext it) (λr s₁=>match r with
   |none=>R (.ok .next) s₁
   |some v=>wpAny (model prog w) A (letOwnedTupleGo t1 it v) (λ_ s₁'=>wpAny (model prog w) A (assign t1 env v) (λ_ s₂=>
     wpAny (model prog w) A (forIn f1 true λc r=>if r=true then do let ok <- isTrue c env (eval c env);pure (ForInStep.yield ok) else pure (ForInStep.yield r)) (λok s₃=>
      if ok=true then wpAny (model prog w) A (eval i2 env) (λx s₄=>wpAny (model prog w) A (pyIter x) (λit2 s₅=>
       codeAny (model prog w) A (.compStart (zBC elt t1 i1 f1 t2 i2 f2 scope pos) 1 it2 acc env) (λr s₆=>r=.ok .next /\ ∃ m,m<n/\I m s₆) s₅) (λ_ _=>False) s₄) (λ_ _=>False) s₃
      else ∃ m,m<n/\I m s₃) (λ_ _=>False) s₂) (λ_ _=>False) s₁') (λ_ _=>False) s₁) (λ_ _=>False) s)
  (n:Nat) (h:I n s) :
  codeAny (model prog w) A (.compLoop (zBC elt t1 i1 f1 t2 i2 f2 scope pos) 0 it acc env) R s:=by
 refine codeAny_loop rfl I (λn s hI=>?_) n h;show wpAny _ A ((compTurn (zBC elt t1 i1 f1 t2 i2 f2 scope pos) 0 it acc env).onRaise (λx=>do noteFrame x env;theTreesLotGoes x)) _ _ s;refine wpAny_noted ?_;rw[zG0];refine zVO (zWM (zVO (zVu (turn n s hI) (λr s₁ h₁=>?_) λ_ _ h'=>h'.elim)));cases r with
 |none=>exact zVQ h₁
 |some v=>
  refine zVO (zVu h₁ (λ_ s₁' h₁'=>?_) λ_ _ h'=>h'.elim);refine zVO (zVu h₁' (λ_ s₂ h₂=>zVO (zVu h₂ (λok s₃ h₃=>?_) λ_ _ h'=>h'.elim)) λ_ _ h'=>h'.elim);cases ok with
  |false=>exact zVQ ⟨rfl,h₃⟩
  |true=>
   refine zVO (zVu h₃ (λx s₄ h₄=>zVO (zWM (zVO (wpAny_of_eq (hs2 x) (zVO (zWH (zVu h₄ (λit2 s₅ h₅=>?_) λ_ _ h'=>h'.elim))))))) λ_ _ h'=>h'.elim);refine zVO (wpAny_runOwn (codeAny_mono h₅ λr s₆ hr=>?_));obtain ⟨rfl,hr⟩:=hr;exact zVQ ⟨rfl,hr⟩
end
def tIn (own2:Yj) (wi2:TI) (g2:TG) (tc2:TT) (te:TE) (σ2:St) (H3:Hp) (ys:List V) (QQ:List V->Hp->Prop):Prop :=
 wi2 σ2 H3 λJ2 H4=>∃ W2:Nat->Nat->List V->Hp->Prop,(∃ m,W2 0 m ys H4) /\ ∀ j m zs H,W2 j m zs H ->
  (J2.stop j H/\QQ zs H) \/
  (J2.go j H /\ ∀ x H',J2.yld j H x H'->g2 x (clr own2 σ2) H' λσ3 H5=>Ext (clr own2 σ2) σ3/\tc2 σ3 H5 λb H6=>
   if b=true then te σ3 H6 λv H7=>zs.length<sizeLine /\ ∃ m',m'<m/\W2 (j+1) m' (zs++[v]) H7 else ∃ m',m'<m/\W2 (j+1) m' zs H6)
section
variable {D:Yt}
 {own2:Yj} {wi2:TI} {g2:TG} {tc2:TT} {te:TE} {R:Yx}
theorem zPk (hxe:C.xe=λ_ _=>False) (hcalm:C.calm=true) (hi:PI C t2 i2 wi2) (hg:PG C t2 g2) (hc:zFR C f2 tc2) (he:PE C elt te) (hD:C.s₀.heap.objs.size<=D)
  (hcD:∀ x c,C.env.cells.lookup x=some c->c≠D) (hpl:∀ p∈C.pn++pl,p.1≠D) (I:Inv C (pl++[(D,zd its k)]) σ H s) (rv:zZ ys its) (h:tIn own2 wi2 g2 tc2 te σ H ys QQ)
  (fin:∀ s' H' its' k' zs,Inv C (pl++[(D,zd its' k')]) (clr own2 σ) H' s'->zZ zs its'->QQ zs H'->R (.ok .next) s') :
  wpAny (model C.prog C.w) C.A (eval i2 C.env) (λx s₄=>wpAny (model C.prog C.w) C.A (pyIter x) (λit2 s₅=>
   codeAny (model C.prog C.w) C.A (.compStart (zBC elt t1 i1 f1 t2 i2 f2 scope pos) 1 it2 (.ref D) C.env) R s₅) (λ_ _=>False) s₄) (λ_ _=>False) s:=by
 have hpi:=hi _ s σ H _ I h;rw[hxe]at hpi;refine thn hpi λv s1 h1=>thn h1 λitv s2 h2=>?_;obtain ⟨it,fp,tn,J,H2,e,I2,T,st2,f2',W,⟨m0,w0⟩,turn⟩:=h2;subst e;have hDfp:D∉fp:=λz=>(f2' D z).2.2.2.2.2 (D,zd its k) (by simp) rfl;have loop:∀ s',(∃ H',Inv C (pl++[(D,zd its k)]) (clr own2 σ) H' s'/\tn 0 s'.heap/\(∀ b∈fp,H' b=none)/\W 0 m0 ys H')->codeAny (model C.prog C.w) C.A (.compLoop (zBC elt t1 i1 f1 t2 i2 f2 scope pos) 1 (.ref it) (.ref D) C.env) R s':=by
  rintro s' ⟨H',I',st',hn',w'⟩;have fpk:∀ {H':Hp} {its:Yf} {k:Nat},(∀ b∈fp,H' b=none) -> ∀ b∈fp,zBr C (pl++[(D,zd its k)]) H' b:=λ{H' its k} hn b hb=>by
   obtain ⟨_,a2,a3,a4,a5,a6⟩:=f2' b hb;refine ⟨hn b hb,a2,a3,a4,a5,λp hp=>?_⟩;rcases zVo.mp hp with z|z
   .exact a6 p (zWd _ z)
   .rcases zVo.mp z with z|z
    .exact a6 p (zVi _ (zWd _ z))
    .have:p=(D,zd its k):=by simpa using z
     rw[this];intro q;have q':D=b:=q;exact hDfp (q'▸hb)
  refine zIa (λn s'=>∃ i H' ys its k,Inv C (pl++[(D,zd its k)]) (clr own2 σ) H' s'/\zZ ys its/\tn i s'.heap/\(∀ b∈fp,H' b=none)/\W i n ys H') ?_ m0 ⟨0,H',ys,its,k,I',rv,st',hn',w'⟩;rintro n s5 ⟨i,H5,ys,its,k,I5,r5,st5,f5,w5⟩;rcases turn i n ys H5 w5 with ⟨stop,qq⟩|⟨go,step⟩
  .refine thn (T.done C rfl rfl rfl hcalm i _ s5 _ H5 _ I5 (fpk f5) st5 stop) λr s6 ⟨hr,I6⟩=>?_;subst hr;exact fin s6 H5 its k ys I6 r5 qq
  .refine thn (T.item C rfl rfl rfl hcalm i _ s5 _ H5 _ I5 (fpk f5) st5 go) λr s6 ⟨u,hr,h6⟩=>?_;subst hr;refine thn h6 λ_ s7 ⟨x,H7,I7,r7,y7,st7,f7⟩=>?_;have I7':=I7.pinned (fpk f7) (T.obj _ _ st7);have hgg:=hg _ s7 _ H7 x u _ I7' r7 (step x H7 y7);rw[hxe]at hgg;refine thn hgg λ_ s8 ⟨σ8,H8,I8,x8,q8⟩=>?_;have hcc:=hc _ s8 σ8 H8 _ I8 q8;rw[hxe]at hcc;refine thn hcc λok s9 ⟨H9,I9,q9⟩=>?_;have back:∀ {s':Yl} {Hx:Hp},Inv C ((pl++[(D,zd its k)])++zCd fp s7.heap) σ8 Hx s'->tn (i+1) s'.heap /\ ∀ b∈fp,Hx b=none:=λ{s' Hx} Ix=>
    ⟨T.keep _ _ _ st7 λb hb o e=>(Ix.pin (b,o) (zVi _ (zVi _ (zAN hb e)))).1,λb hb=>by
     obtain ⟨o,e,d⟩:=T.obj _ _ st7 b hb;exact (Ix.pin (b,o) (zVi _ (zVi _ (zAN hb e)))).2.1⟩
   cases ok with
   |false=>
    obtain ⟨m',hm,w'⟩:=q9;obtain ⟨b1,b2⟩:=back I9;exact ⟨m',hm,i+1,H9,ys,its,k,(I9.weak (by rw[x8.1]) x8.2).unpinned,r5,b1,b2,w'⟩
   |true=>
    have hee:=he _ s9 σ8 H9 _ I9 q9;rw[hxe]at hee;refine thn hee λv s10 ⟨y,H10,I10,r10,hlt,m',hm,w'⟩=>?_;obtain ⟨b1,b2⟩:=back I10;have J10:=(I10.weak (by rw[x8.1]) x8.2).unpinned;obtain ⟨e10,n10,ne10,nf10,d10⟩:=J10.pin (D,zd its k) (by simp);have hlen:its.toArray.size<=sizeLine:=by
     have:=r5.length;rw[zVW,<-this];exact zYK hlt
    refine wpAny_list_append_plain (hsz:=hlen) (show s10.heap.PlainList D its.toArray from ⟨k,e10⟩) λh' hl' hs'=>?_;obtain ⟨k',e'⟩:=hl';have e'':h'.get? D=some (zd (its++[v]) k'):=by rw[e'];simp[zd]
    refine ⟨m',hm,i+1,H10,ys++[y],its++[v],k',?_,r5.append (.cons r10 .nil),T.keep _ _ _ b1 λb hb o e=>hs'.extBut b o (λz=>hDfp (z▸hb)) e,b2,w'⟩;exact Inv.repin (pl:=pl) J10 hpl hs' hD hcD e'' (by intro v z;cases z)
 have l0:=loop s2 ⟨H2,I2.weak (zA8 own2 σ) (λi v h=>(zCX own2 σ i v h).1),st2,λb hb=>(f2' b hb).1,w0⟩;exact zGx l0 (T.self _ 0 _ _ _ st2 l0)
end
section
variable {pos:Pos}
 {own own2:Yj} {g g2:TG} {tc tc2:TT} {te:TE} {wi wi2:TI} {E:Yc}
theorem zKP:∀ (own:Yj) (σ:St) (j:Nat),j∉own->(clr own σ)[j]?=σ[j]?
 |[],_,_,_=>rfl
 |i::r,σ,j,h=>by
  show (clr r (σ.set i none))[j]?=_;rw[zKP r _ j (λz=>h (zVb _ z)),zVs (λz=>h (by rw[z];exact zVc))]
theorem zJ2 (hsub:∀ i∈own2,i∈own) (C:CompIn X scope own) (hcalm:X.calm=true) (I:Inv X zB σ H s) (T:Turn X.prog X.w X.K t1 J fp it tn) (st:tn 0 s.heap) (hf:∀ b∈fp,zBr X zB H b)
  (c1:∀ x c,cl.lookup x=some c->X.env.cells.lookup x=some c) (c2:∀ y∈scope.names,y.2=.free->(cl.lookup y.1).isSome=true)
  (hg:PG (zH X zB scope cl s H fp) t1 g) (hi:zFR (zH X zB scope cl s H fp) f1 tc)
  (hi2:PI (zH X zB scope cl s H fp) t2 i2 wi2) (hg2:PG (zH X zB scope cl s H fp) t2 g2) (hc2:zFR (zH X zB scope cl s H fp) f2 tc2) (he:PE (zH X zB scope cl s H fp) elt te)
  (hs2:∀ x,foldedSetIterable i2 (zH X zB scope cl s H fp).env x=pure x)
  {RR:Value->Addr->Result->Shared->Prop} {QQ:List V->Hp->Prop} {W:Nat->Nat->List V->Hp->Prop} {m0:Nat} (w0:W 0 m0 [] H)
  (turn:∀ i m ys H,W i m ys H->(J.stop i H/\ys.length<=sizeLine/\QQ ys H) \/
   (J.go i H /\ ∀ x H',J.yld i H x H'->g x (clr own σ) H' λσ2 H2=>Ext (clr own σ) σ2/\tc σ2 H2 λb H3=>
    if b=true then tIn own2 wi2 g2 tc2 te σ2 H3 ys λzs H4=>∃ m',m'<m/\W (i+1) m' zs H4 else ∃ m',m'<m/\W (i+1) m' ys H3))
  (fin:∀ σc H' s' its n ys,Inv (zH X zB scope cl s H fp) [(s.heap.objs.size,zd its n)] σc H' s'->zZ ys its->ys.length<=sizeLine->QQ ys H'->RR (.ref s.heap.objs.size) (s.heap.objs.size+1) (.ok .next) s') :
  wpAny (model X.prog X.w) X.A (newList []) (λacc s₃=>wpAny (model X.prog X.w) X.A (newFunctionEnv scope X.env.globals cl [] X.env.qual none .none (some X.env)) (λcenv s₄=>
   codeAny (model X.prog X.w) X.A (.compStart (zBC elt t1 i1 f1 t2 i2 f2 scope pos) 0 (.ref it) acc { cenv with scope:=relabel scope X.env }) (RR acc cenv.locals) s₄) E s₃) E s:=by
 have ob:∀ b:Nat,b∈fp->b<s.heap.objs.size:=λb hb=>let ⟨_,e,_⟩:=T.obj 0 _ st b hb;zVZ e;refine zVr (zCS ?_);have sz1:(s.heap.push (zd [] 0)).objs.size=s.heap.objs.size+1:=zV4 ..;have I4:=zEj (X:=X) (zB:=zB) (σ:=σ) (σc:=clr own σ) (H:=H) (s:=s) (scope:=scope) (cl:=cl) (fp:=fp) C.sc I hf ob c1 c2 (zA8 own σ) (λi x v h1 h2 h3=>by
  obtain ⟨a,b⟩:=zCX own σ i v h2;rcases C.nm i x h1 with z|z|z
  .exact absurd z b
  .exact absurd (zB2 x z) h3
  .exact ⟨z,a⟩) (zd [] 0) (by intro v z;cases z) rfl rfl
 have st4:tn 0 (pushCells ((s.heap.push (zd [] 0)).push { cls:=.type "dict", data:=.dict #[] }) scope.names):=T.keep 0 _ _ st λb _ o e=>pushCells_keeps _ _ b o (zVP _ (zVP _ e));unfold newEnv;rw[sz1];have hDfp:s.heap.objs.size∉fp:=λz=>zV6 _ (ob _ z);have hcD:∀ x c,(zH X zB scope cl s H fp).env.cells.lookup x=some c->c≠s.heap.objs.size:=λx c e z=>by
  obtain ⟨v,o,ho,hd⟩:=I4.cell x c e;obtain ⟨q,_⟩:=I4.pin (s.heap.objs.size,zd [] 0) (by simp);rw[z,q]at ho;cases ho;cases hd
 have fpk:∀ {H':Hp} {pl:Yd},(∀ b∈fp,H' b=none)->(∀ p∈pl,p.1=s.heap.objs.size) -> ∀ b∈fp,zBr (zH X zB scope cl s H fp) pl H' b:=λ{H' pl} hn hp b hb=>
  ⟨hn b hb,(I4.ok.exf b hb).1,I4.ok.exfs b hb,.inl hb,(I4.ok.exf b hb).2,λp hq=>by
   rcases zVo.mp hq with z|z
   .exact (hf b hb).2.2.2.2.2 p z
   .intro e;have e2:=hp p z;rw[e]at e2;exact hDfp (e2▸hb)⟩
 have loop:codeAny (model X.prog X.w) X.A (.compLoop (zBC elt t1 i1 f1 t2 i2 f2 scope pos) 0 (.ref it) (.ref s.heap.objs.size) (zH X zB scope cl s H fp).env) (RR (.ref s.heap.objs.size) (s.heap.objs.size+1))
   { s with heap:=pushCells ((s.heap.push (zd [] 0)).push { cls:=.type "dict", data:=.dict #[] }) scope.names }:=by
  refine zG8 hs2 (λn s'=>∃ i H' ys its k,Inv (zH X zB scope cl s H fp) [(s.heap.objs.size,zd its k)] (clr own σ) H' s'/\zZ ys its/\tn i s'.heap/\(∀ b∈fp,H' b=none)/\W i n ys H') ?_ m0
   ⟨0,H,[],[],0,I4,.nil,st4,λb hb=>(hf b hb).1,w0⟩
  rintro n s5 ⟨i,H5,ys,its,k,I5,r5,st5,f5,w5⟩;have pinD:∀ p∈[(s.heap.objs.size,zd its k)],p.1=s.heap.objs.size:=λp hp=>by
   have:p=(s.heap.objs.size,zd its k):=by simpa using hp
   rw[this]
  rcases turn i n ys H5 w5 with ⟨stop,hz,qq⟩|⟨go,step⟩
  .refine thn (T.done (zH X zB scope cl s H fp) rfl rfl rfl hcalm i _ s5 _ H5 _ I5 (fpk f5 pinD) st5 stop) λr s6 ⟨hr,I6⟩=>?_;subst hr;exact fin _ H5 s6 its k ys I6 r5 hz qq
  .refine thn (T.item (zH X zB scope cl s H fp) rfl rfl rfl hcalm i _ s5 _ H5 _ I5 (fpk f5 pinD) st5 go) λr s6 ⟨u,hr,h6⟩=>?_;subst hr;refine thn h6 λ_ s7 ⟨x,H7,I7,r7,y7,st7,f7⟩=>?_;have I7':=I7.pinned (fpk f7 pinD) (T.obj _ _ st7);refine thn (hg _ s7 _ H7 x u _ I7' r7 (step x H7 y7)) λ_ s8 ⟨σ8,H8,I8,x8,q8⟩=>?_;refine thn (hi _ s8 σ8 H8 _ I8 q8) λok s9 ⟨H9,I9,q9⟩=>?_;have back:∀ {σx:St} {s':Yl} {Hx:Hp} {its:Yf} {k:Nat},(clr own σ).length=σx.length->(∀ (i:Nat) v,(clr own σ)[i]?=some (some v)->σx[i]?=some (some v))->Inv (zH X zB scope cl s H fp) (zCd fp s7.heap++[(s.heap.objs.size,zd its k)]) σx Hx s'->Inv (zH X zB scope cl s H fp) [(s.heap.objs.size,zd its k)] (clr own σ) Hx s'/\tn (i+1) s'.heap /\ ∀ b∈fp,Hx b=none:=λ{σx s' Hx its k} hl hk Ix=>
    ⟨(Ix.weak hl hk).pins_of λp hp=>Ix.pin p (zVi _ (zVi _ hp)),
     T.keep _ _ _ st7 λb hb o e=>(Ix.pin (b,o) (zVi _ (zWd _ (zAN hb e)))).1,λb hb=>by
     obtain ⟨o,e,d⟩:=T.obj _ _ st7 b hb;exact (Ix.pin (b,o) (zVi _ (zWd _ (zAN hb e)))).2.1⟩
   have I9':Inv (zH X zB scope cl s H fp) (zCd fp s7.heap++[(s.heap.objs.size,zd its k)]) σ8 H9 s9:=I9.pins_of λp hp=>I9.pin p (zVi _ (by
    rcases zVo.mp hp with z|z
    .exact zVi _ z
    .exact zWd _ z))
   cases ok with
   |false=>
    obtain ⟨m',hm,w'⟩:=q9;obtain ⟨b0,b1,b2⟩:=back (by rw[x8.1]) x8.2 I9';exact ⟨m',hm,i+1,H9,ys,its,k,b0,r5,b1,b2,w'⟩
   |true=>
    refine zPk (C:=zH X zB scope cl s H fp) rfl hcalm hi2 hg2 hc2 he (zVU _) hcD (λp hp=>?_) I9' r5 q9 λs' H' its' k' zs I' rv' q'=>?_
    .rcases zVo.mp hp with z|z
     .exact zVj (zVZ (I.pin p z).1)
     .obtain ⟨hb,_⟩:=zHk z;exact zVj (ob _ hb)
    .obtain ⟨m',hm,w'⟩:=q';obtain ⟨b0,b1,b2⟩:=back (by rw[zA8 own2,x8.1]) (λi v hv=>by rw[zKP own2 _ i (λz=>(zCX own σ i v hv).2 (hsub i z))];exact x8.2 i v hv) I';exact ⟨rfl,m',hm,i+1,H',zs,its',k',b0,rv',b1,b2,w'⟩
 exact codeAny_compStart_list loop (T.self _ 0 _ _ _ st4 loop)
def zPx (own own2:Yj) (wi:TI) (g:TG) (tc:TT) (wi2:TI) (g2:TG) (tc2:TT) (te:TE):TE:=λσ H Q=>wi σ H λJ H1=>∃ W:Nat->Nat->List V->Hp->Prop,(∃ m,W 0 m [] H1) /\ ∀ i m ys H,W i m ys H ->
 (J.stop i H/\ys.length<=sizeLine /\ ∀ D,H D=none->Q (.ref D) (upd H D (.lst ys))) \/
 (J.go i H /\ ∀ x H',J.yld i H x H'->g x (clr own σ) H' λσ2 H2=>Ext (clr own σ) σ2/\tc σ2 H2 λb H3=>
  if b=true then tIn own2 wi2 g2 tc2 te σ2 H3 ys λzs H4=>∃ m',m'<m/\W (i+1) m' zs H4 else ∃ m',m'<m/\W (i+1) m' ys H3)
structure CompParts2 (X:Cx) (scope:Y0) (t1:Expr) (f1:Yi) (t2 i2:Expr) (f2:Yi) (elt:Expr) (g:TG) (tc:TT) (wi2:TI) (g2:TG) (tc2:TT) (te:TE):Prop where
 g:∀ zB cl s H fp,PG (zH X zB scope cl s H fp) t1 g
 c:∀ zB cl s H fp,zFR (zH X zB scope cl s H fp) f1 tc
 w2:∀ zB cl s H fp,PI (zH X zB scope cl s H fp) t2 i2 wi2
 g2:∀ zB cl s H fp,PG (zH X zB scope cl s H fp) t2 g2
 c2:∀ zB cl s H fp,zFR (zH X zB scope cl s H fp) f2 tc2
 e:∀ zB cl s H fp,PE (zH X zB scope cl s H fp) elt te
 s2:∀ zB cl s H fp x,foldedSetIterable i2 (zH X zB scope cl s H fp).env x=pure x
theorem zPi (hsub:∀ i∈own2,i∈own) (C:CompIn X scope own) (hcalm:X.calm=true) (hi:PI X t1 i1 wi) (p:CompParts2 X scope t1 f1 t2 i2 f2 elt g tc wi2 g2 tc2 te) (hs:∀ x,foldedSetIterable i1 X.env x=pure x:=by intro _;rfl) :
  PE X (zBC elt t1 i1 f1 t2 i2 f2 scope pos) (zPx own own2 wi g tc wi2 g2 tc2 te):=by
 intro zB s σ H Q I h;obtain ⟨cl,hcl,c1,c2⟩:=C.sc.closure I;rw[eval_ListComp];refine zXI (use:=none) rfl hs hcl C.sc.kind C.sc.names (thn (hi zB s σ H _ I h) λv s1 h1=>thn h1 λitv s2 h2=>?_);obtain ⟨it,fp,tn,J,H2,e,I2,T,st2,f2,W,⟨m0,w0⟩,turn⟩:=h2;subst e;refine zJ2 hsub C hcalm I2 T st2 f2 c1 c2 (p.g _ _ _ _ _) (p.c _ _ _ _ _) (p.w2 _ _ _ _ _) (p.g2 _ _ _ _ _) (p.c2 _ _ _ _ _) (p.e _ _ _ _ _) (p.s2 _ _ _ _ _) (RR:=λacc C r s'=>compPost (model X.prog X.w) X.A X.xe none (EP X zB σ Q) acc C r s') (QQ:=λys H=>∀ D,H D=none->Q (.ref D) (upd H D (.lst ys))) w0 turn ?_;intro σc H' s' its n ys Ic rv hz qq;obtain ⟨m,hn,_⟩:=Ic.loc;refine ⟨m,hn,λh' hs'=>?_⟩;obtain ⟨J',nD⟩:=zGK I2 f2 Ic rv hz hs';exact ⟨.ref s2.heap.objs.size,_,J',rfl,qq _ nD⟩
end
end L2
namespace L3
open PySem PySem.Spec PyProof.Rows L2
abbrev Sv:=List (Option V)
set_option genInjectivity true in
inductive D where
 |non|bl (b:Bool)|int (i:Int)|str (x:Str)|tup (xs:List D)|ref (n:Nat)
set_option genInjectivity true in
inductive MO where
 |lst (xs:List D)|fro (xs:List D)|dict (kvs:List (D × D))|dicT (kvs:List (D × D))|set (xs:List D)|froT (kvs:List (D × D))|froK (kvs:List (D × D))
mutual
def Rep (L:Yg) (H:Hp):D->V->Prop
 |.non,v=>v=.non
 |.bl b,v=>v=.bl b
 |.int i,v=>v=.int i
 |.str x,v=>v=.str x
 |.tup ds,v=>∃ a vs,v=.ref a/\H a=some (.tup vs)/\zL L H ds vs
 |.ref n,v=>∃ a,v=.ref a/\L[n]?=some a
def zL (L:Yg) (H:Hp):List D->List V->Prop
 |[],vs=>vs=[]
 |d::ds,vs=>∃ v r,vs=v::r/\Rep L H d v/\zL L H ds r
end
theorem zL.length:∀ {ds:List D} {vs:List V},zL L H ds vs->vs.length=ds.length
 |[],_,h=>by unfold zL at h;subst h;rfl
 |d::ds,_,h=>by
  unfold zL at h;obtain ⟨v,r,rfl,_,h2⟩:=h;simp[zL.length h2]
theorem zL.nil:zL L H [] []:=by unfold zL;rfl
theorem zL.cons (h:Rep L H d v) (t:zL L H ds vs):zL L H (d::ds) (v::vs):=by
 unfold zL;exact ⟨v,vs,rfl,h,t⟩
theorem zL.get:∀ {ds:List D} {vs:List V} {i:Nat} {d:D},zL L H ds vs->ds[i]?=some d -> ∃ v,vs[i]?=some v/\Rep L H d v
 |[],_,_,_,_,e=>by simp at e
 |d::ds,_,0,d',h,e=>by
  unfold zL at h;obtain ⟨v,r,rfl,h1,h2⟩:=h;simp at e;subst e;exact ⟨v,rfl,h1⟩
 |d::ds,_,i+1,d',h,e=>by
  unfold zL at h;obtain ⟨v,r,rfl,h1,h2⟩:=h;obtain ⟨u,e1,e2⟩:=zL.get (i:=i) h2 (by simpa using e);exact ⟨u,by simpa using e1,e2⟩
theorem zL.app:∀ {ds es:List D} {vs ws:List V},zL L H ds vs->zL L H es ws->zL L H (ds++es) (vs++ws)
 |[],_,_,_,h,t=>by unfold zL at h;subst h;exact t
 |d::ds,_,_,_,h,t=>by
  unfold zL at h;obtain ⟨v,r,rfl,h1,h2⟩:=h;exact .cons h1 (zL.app h2 t)
theorem zL.set (h:Rep L H d v):∀ {ds:List D} {vs:List V} (i:Nat),zL L H ds vs->zL L H (ds.set i d) (vs.set i v)
 |[],_,_,t=>by unfold zL at t;subst t;exact .nil
 |_::_,_,0,t=>by
  unfold zL at t;obtain ⟨v',r,rfl,h1,h2⟩:=t;exact .cons h h2
 |_::_,_,i+1,t=>by
  unfold zL at t;obtain ⟨v',r,rfl,h1,h2⟩:=t;exact .cons h1 (zL.set h i h2)
theorem zL.drop:∀ {ds:List D} {vs:List V} (n:Nat),zL L H ds vs->zL L H (ds.drop n) (vs.drop n)
 |_,_,0,t=>t
 |[],_,n+1,t=>by unfold zL at t;subst t;exact .nil
 |_::_,_,n+1,t=>by
  unfold zL at t;obtain ⟨v',r,rfl,h1,h2⟩:=t;exact zL.drop n h2
theorem zL.take:∀ {ds:List D} {vs:List V} (n:Nat),zL L H ds vs->zL L H (ds.take n) (vs.take n)
 |_,_,0,t=> .nil
 |[],_,n+1,t=>by unfold zL at t;subst t;exact .nil
 |_::_,_,n+1,t=>by
  unfold zL at t;obtain ⟨v',r,rfl,h1,h2⟩:=t;exact .cons h1 (zL.take n h2)
theorem zL.eraseIdx:∀ {ds:List D} {vs:List V} (n:Nat),zL L H ds vs->zL L H (ds.eraseIdx n) (vs.eraseIdx n)
 |[],_,n,t=>by unfold zL at t;subst t;exact .nil
 |_::_,_,0,t=>by
  unfold zL at t;obtain ⟨v',r,rfl,h1,h2⟩:=t;exact h2
 |_::_,_,n+1,t=>by
  unfold zL at t;obtain ⟨v',r,rfl,h1,h2⟩:=t;exact .cons h1 (zL.eraseIdx n h2)
structure Stp (L:Yg) (H:Hp) (L':Yg) (H':Hp):Prop where
 pre:∃ N,L'=L++N
 new:∀ a∈L',a∈L\/H a=none
 old:∀ a o,H a=some o->a∉L->H' a=some o
 tup:∀ a xs,H a=some (.tup xs)->H' a=some (.tup xs)
 frz:∀ a o u,H a=some (.frz o u)->H' a=some (.frz o u)
theorem Stp.refl (L:Yg) (H:Hp):Stp L H L H:=⟨⟨[],by simp⟩,λ_ h=> .inl h,λ_ _ h _=>h,λ_ _ h=>h,λ_ _ _ h=>h⟩
theorem Stp.trans (a:Stp L H L1 H1) (b:Stp L1 H1 L2 H2):Stp L H L2 H2:=by
 obtain ⟨N,rfl⟩:=a.pre;obtain ⟨N',rfl⟩:=b.pre;have back:∀ c,c∉L->H1 c=none->H c=none:=λc hc h1=>by
  cases q:H c with
  |none=>rfl
  |some o=>rw[a.old c o q hc]at h1;cases h1
 refine ⟨⟨N++N',by simp⟩,λc hc=>?_,λc o e hc=>?_,λc xs e=>b.tup c xs (a.tup c xs e),λc o u e=>b.frz c o u (a.frz c o u e)⟩
 .by_cases hL:c∈L
  .exact .inl hL
  .rcases b.new c hc with z|z
   .exact a.new c z
   .exact .inr (back c hL z)
 .refine b.old c o (a.old c o e hc) λz=>?_;rcases a.new c z with q|q
  .exact hc q
  .rw[q]at e;cases e
theorem Stp.grow (h:∀ a o,H a=some o->H' a=some o):Stp L H L H':=⟨⟨[],by simp⟩,λ_ h=> .inl h,λa o e _=>h a o e,λa _ e=>h a _ e,λa _ _ e=>h a _ e⟩
theorem Stp.upd (h:H p=none):Stp L H L (upd H p o):=.grow λa u e=>by rw[zT (zk e h)];exact e
theorem zBg {L N:Yg} {n:Nat} {a:Yt} (h:L[n]?=some a):(L++N)[n]?=some a:=by
 rw[zVV (zVR.mp h).1];exact h
mutual
theorem Rep.stp {L L':Yg} {H H':Hp} (s:Stp L H L' H'):∀ {d:D} {v:V},Rep L H d v->Rep L' H' d v
 |.non,_,h=>by unfold Rep at h ⊢;exact h
 |.bl _,_,h=>by unfold Rep at h ⊢;exact h
 |.int _,_,h=>by unfold Rep at h ⊢;exact h
 |.str _,_,h=>by unfold Rep at h ⊢;exact h
 |.tup ds,_,h=>by
  unfold Rep at h ⊢;obtain ⟨a,vs,rfl,e,r⟩:=h;exact ⟨a,vs,rfl,s.tup a vs e,zL.stp s r⟩
 |.ref n,_,h=>by
  unfold Rep at h ⊢;obtain ⟨a,rfl,e⟩:=h;obtain ⟨N,rfl⟩:=s.pre;exact ⟨a,rfl,zBg e⟩
theorem zL.stp (s:Stp L H L' H'):∀ {ds:List D} {vs:List V},zL L H ds vs->zL L' H' ds vs
 |[],_,h=>by unfold zL at h ⊢;exact h
 |d::ds,_,h=>by
  unfold zL at h ⊢;obtain ⟨v,r,rfl,h1,h2⟩:=h;exact ⟨v,r,rfl,Rep.stp s h1,zL.stp s h2⟩
end
def zBw:D->Option Key
 |.int i=>some (.inl i)
 |.str x=>some (.inr x)
 |_=>none
def zD1:List D->Option (List Key)
 |[]=>some []
 |d::r=>match zBw d,zD1 r with
  |some k,some ks=>some (k::ks)
  |_,_=>none
def tkD:D->Option (List Key)
 |.tup ds=>zD1 ds
 |_=>none
def zAn {κ:Type} (kf:D->Option κ) (L:Yg) (H:Hp):List (D × D)->List (κ × V)->Prop
 |[],vs=>vs=[]
 |p::r,vs=>∃ k v r',vs=(k,v)::r'/\kf p.1=some k/\Rep L H p.2 v/\zAn kf L H r r'
theorem zAn.stp {κ:Type} {kf:D->Option κ} {L L':Yg} {H H':Hp} (s:Stp L H L' H'):∀ {ps:List (D × D)} {vs:List (κ × V)},zAn kf L H ps vs->zAn kf L' H' ps vs
 |[],_,h=>h
 |p::r,_,h=>by
  obtain ⟨k,v,r',rfl,e,h1,h2⟩:=h;exact ⟨k,v,r',rfl,e,h1.stp s,zAn.stp s h2⟩
theorem zAn.length {κ:Type} {kf:D->Option κ} {L:Yg} {H:Hp}:∀ {ps:List (D × D)} {vs:List (κ × V)},zAn kf L H ps vs->vs.length=ps.length
 |[],_,h=>by unfold zAn at h;subst h;rfl
 |p::r,_,h=>by
  obtain ⟨k,v,r',rfl,e,h1,h2⟩:=h;simp[zAn.length h2]
def zGI (K:Yb) (L:Yg) (H:Hp) (a:Yt):MO->Prop
 |.lst xs=>∃ vs,H a=some (.lst vs)/\zL L H xs vs
 |.fro xs=>∃ o vs,H a=some (.frz o (.lst vs))/\zL L H xs vs
 |.dict ps=>∃ vs,H a=some (.dK vs)/\zAn zBw L H ps vs
 |.dicT ps=>∃ vs,H a=some (.dT vs)/\zAn tkD L H ps vs
 |.set _=>∃ o u,H a=some (.frz o u)
 |.froT ps=>∃ o vs,H a=some (.frz o (.dT vs))/\zAn tkD L H ps vs
 |.froK ps=>∃ o vs,H a=some (.frz o (.dK vs))/\zAn zBw L H ps vs
theorem zGI.there {K:Yb} {L:Yg} {H:Hp} {a:Yt} {m:MO} (h:zGI K L H a m):∃ o,H a=some o:=by
 cases m with
 |lst xs=>obtain ⟨vs,e,_⟩:=h;exact ⟨_,e⟩
 |fro xs=>obtain ⟨o,vs,e,_⟩:=h;exact ⟨_,e⟩
 |dict ps=>obtain ⟨vs,e,_⟩:=h;exact ⟨_,e⟩
 |dicT ps=>obtain ⟨vs,e,_⟩:=h;exact ⟨_,e⟩
 |set _=>obtain ⟨o,u,e⟩:=h;exact ⟨_,e⟩
 |froT ps=>obtain ⟨o,vs,e,_⟩:=h;exact ⟨_,e⟩
 |froK ps=>obtain ⟨o,vs,e,_⟩:=h;exact ⟨_,e⟩
theorem zGI.stp {K:Yb} {L L':Yg} {H H':Hp} {a:Yt} {m:MO} (s:Stp L H L' H') (hk:∀ o,H a=some o->H' a=some o) (h:zGI K L H a m):zGI K L' H' a m:=by
 cases m with
 |lst xs=>obtain ⟨vs,e,r⟩:=h;exact ⟨vs,hk _ e,r.stp s⟩
 |fro xs=>obtain ⟨o,vs,e,r⟩:=h;exact ⟨o,vs,hk _ e,r.stp s⟩
 |dict ps=>obtain ⟨vs,e,r⟩:=h;exact ⟨vs,hk _ e,r.stp s⟩
 |dicT ps=>obtain ⟨vs,e,r⟩:=h;exact ⟨vs,hk _ e,r.stp s⟩
 |set _=>obtain ⟨o,u,e⟩:=h;exact ⟨o,u,hk _ e⟩
 |froT ps=>obtain ⟨o,vs,e,r⟩:=h;exact ⟨o,vs,hk _ e,r.stp s⟩
 |froK ps=>obtain ⟨o,vs,e,r⟩:=h;exact ⟨o,vs,hk _ e,r.stp s⟩
structure Cor (K:Yb) (L:Yg) (M:List MO) (H:Hp):Prop where
 len:L.length=M.length
 nd:L.Nodup
 obj:∀ (n:Nat) a m,L[n]?=some a->M[n]?=some m->zGI K L H a m
def zBG (L:Yg) (H:Hp) (σ:List (Option D)) (τ:Sv):Prop:=τ.length=σ.length /\ ∀ (i:Nat) d,σ[i]?=some (some d) -> ∃ v,τ[i]?=some (some v)/\Rep L H d v
theorem zBG.stp (s:Stp L H L' H') (h:zBG L H σ τ):zBG L' H' σ τ :=
 ⟨h.1,λi d e=>let ⟨v,e1,r⟩:=h.2 i d e;⟨v,e1,r.stp s⟩⟩
theorem Cor.tracked {K:Yb} {L:Yg} {M:List MO} {H:Hp} (c:Cor K L M H) {a:Yt} (h:a∈L):∃ o,H a=some o:=by
 obtain ⟨n,hn⟩:=List.getElem?_of_mem h;have hl:n<M.length:=by rw[<-c.len];exact (zVR.mp hn).1
 have m:=c.obj n a M[n] hn (zVS hl);exact m.there
theorem Cor.grow {K:Yb} {L:Yg} {M:List MO} {H H':Hp} (c:Cor K L M H) (h:∀ a o,H a=some o->H' a=some o):Cor K L M H':=by
 exact ⟨c.len,c.nd,λn a m e1 e2=>(c.obj n a m e1 e2).stp (.grow h) λo e=>h a o e⟩
theorem Cor.upd {K:Yb} {L:Yg} {M:List MO} {H:Hp} {p:Yt} {o:HO} (c:Cor K L M H) (h:H p=none):Cor K L M (upd H p o):=c.grow λa u e=>by rw[zT (zk e h)];exact e
theorem Cor.write {K:Yb} {L:Yg} {M:List MO} {H:Hp} {n:Nat} {p:Yt} {xs xs':List D} {vs':List V} (c:Cor K L M H) (h1:L[n]?=some p) (h2:M[n]?=some (.lst xs)) (r:zL L H xs' vs') :
  Cor K L (M.set n (.lst xs')) (L2.upd H p (.lst vs'))/\Stp L H L (L2.upd H p (.lst vs')):=by
 obtain ⟨vs,hp,_⟩:=c.obj n p _ h1 h2;have st:Stp L H L (L2.upd H p (.lst vs')):=by
  refine ⟨⟨[],by simp⟩,λa ha=> .inl ha,λa o e ha=>?_,λa o e=>?_,λa o u e=>?_⟩
  .rw[zT (show a≠p from λz=>ha (by rw[z];exact List.mem_of_getElem? h1))];exact e
  .rw[zT (zGm e hp (by intro z;cases z))];exact e
  .rw[zT (zGm e hp (by intro z;cases z))];exact e
 refine ⟨⟨by simp[c.len],c.nd,λk a m e1 e2=>?_⟩,st⟩;rw[zWx]at e2;split at e2
 .rename_i hk;subst hk;rw[h1]at e1;cases e1;split at e2
  .cases e2;exact ⟨vs',zj,r.stp st⟩
  .cases e2
 .rename_i hk;have hne:a≠p:=λz=>hk (by
   subst z;exact (List.getElem?_inj (zVR.mp h1).1 c.nd).mp (h1.trans e1.symm))
  exact (c.obj k a m e1 e2).stp st λo e=>by rw[zT hne];exact e
set_option genInjectivity true in
inductive EV where
 |dat (d:D)|fl (xs:List D)
def zf (H0:Hp) (L:Yg) (H:Hp):EV->V->Prop
 |.dat d,v=>Rep L H d v
 |.fl xs,v=>∃ p vs,v=.ref p/\H0 p=none/\H p=some (.lst vs)/\p∉L/\zL L H xs vs
abbrev Sd:=List (Option D)
abbrev Mem:=List MO
abbrev FE:=Sd->Mem->Option (EV × Mem)
abbrev FD:=Sd->Mem->Option (D × Mem)
abbrev FT:=Sd->Mem->Option (Bool × Mem)
abbrev FA:=Sd->Mem->Option (List D × Mem)
theorem Stp.out (s:Stp L H L' H') (h:H p=some o) (hp:p∉L):p∉L':=λz=>by
 rcases s.new p z with q|q
 .exact hp q
 .rw[h]at q;cases q
theorem zf.stp (s:Stp L H L' H') (h:zf H0 L H e v):zf H0 L' H' e v:=by
 cases e with
 |dat d=>exact Rep.stp s h
 |fl xs=>
  obtain ⟨p,vs,rfl,e0,e1,e2,r⟩:=h;exact ⟨p,vs,rfl,e0,s.old p _ e1 e2,s.out e1 e2,r.stp s⟩
theorem zf.back {H0 H1:Hp} {L0 L1 L:Yg} {H:Hp} (s:Stp L0 H0 L1 H1) {M:List MO} {K:Yb} (c:Cor K L0 M H0) {e:EV} {v:V} (h:zf H1 L H e v) (hL:∀ a∈L1,a∈L):zf H0 L H e v:=by
 cases e with
 |dat d=>exact h
 |fl xs=>
  obtain ⟨p,vs,rfl,e0,e1,e2,r⟩:=h;refine ⟨p,vs,rfl,?_,e1,e2,r⟩;cases q:H0 p with
  |none=>rfl
  |some o=>
   by_cases hp:p∈L0
   .obtain ⟨N,hN⟩:=s.pre;exact absurd (hL p (by rw[hN];exact zWd _ hp)) e2
   .rw[s.old p o q hp]at e0;cases e0
section
variable (K:Yb)
def trE (f:FE):TE:=λτ H Q=>∃ L σ M d M',Cor K L M H/\zBG L H σ τ/\f σ M=some (d,M') /\ ∀ L' H' v,Stp L H L' H'->Cor K L' M' H'->zf H L' H' d v->Q v H'
def trD (f:FD):TE:=λτ H Q=>∃ L σ M d M',Cor K L M H/\zBG L H σ τ/\f σ M=some (d,M') /\ ∀ L' H' v,Stp L H L' H'->Cor K L' M' H'->Rep L' H' d v->Q v H'
def trT (f:FT):TT:=λτ H Q=>∃ L σ M d M',Cor K L M H/\zBG L H σ τ/\f σ M=some (d,M') /\ ∀ L' H',Stp L H L' H'->Cor K L' M' H'->Q d H'
def trA (f:FA):TA:=λτ H Q=>∃ L σ M ds M',Cor K L M H/\zBG L H σ τ/\f σ M=some (ds,M') /\ ∀ L' H' vs,Stp L H L' H'->Cor K L' M' H'->zL L' H' ds vs->Q vs H'
end
section
theorem PE.imp (h:PE X e t) (hi:∀ τ H Q,t' τ H Q->t τ H Q):PE X e t':=λzB s σ H Q I q=>h zB s σ H Q I (hi _ _ _ q)
theorem PT.imp (h:PT X e t) (hi:∀ τ H Q,t' τ H Q->t τ H Q):PT X e t':=λzB s σ H Q I q=>h zB s σ H Q I (hi _ _ _ q)
theorem PS.imp {st:Stmt} {t t':TS} (h:PS X st t) (hi:∀ D τ H,t' D τ H->t D τ H):PS X st t':=λzB s σ H D I q=>h zB s σ H D I (hi _ _ _ q)
theorem PSs.imp {st:Yy} {t t':TS} (h:PSs X st t) (hi:∀ D τ H,t' D τ H->t D τ H):PSs X st t':=λzB s σ H D I q=>h zB s σ H D I (hi _ _ _ q)
structure QE (X:Cx) (e:Expr) (f:FE):Prop where
 un:PE X e (trE X.K f)
structure QD (X:Cx) (e:Expr) (f:FD):Prop where
 un:PE X e (trD X.K f)
structure QT (X:Cx) (e:Expr) (f:FT):Prop where
 un:PT X e (trT X.K f)
structure QA (X:Cx) (es:Yi) (f:FA):Prop where
 un:PA X es (trA X.K f)
def toD (f:FE):FD:=λσ M=>match f σ M with
 |some (.dat d,M')=>some (d,M')
 |some (.fl xs,M')=>some (.ref M'.length,M'++[.lst xs])
 |none=>none
mutual
theorem Rep.more (N:Yg):∀ {d:D} {v:V},Rep L H d v->Rep (L++N) H d v
 |.non,_,h=>by unfold Rep at h ⊢;exact h
 |.bl _,_,h=>by unfold Rep at h ⊢;exact h
 |.int _,_,h=>by unfold Rep at h ⊢;exact h
 |.str _,_,h=>by unfold Rep at h ⊢;exact h
 |.tup ds,_,h=>by
  unfold Rep at h ⊢;obtain ⟨a,vs,rfl,e,r⟩:=h;exact ⟨a,vs,rfl,e,zL.more N r⟩
 |.ref n,_,h=>by
  unfold Rep at h ⊢;obtain ⟨a,rfl,e⟩:=h;exact ⟨a,rfl,zBg e⟩
theorem zL.more (N:Yg):∀ {ds:List D} {vs:List V},zL L H ds vs->zL (L++N) H ds vs
 |[],_,h=>by unfold zL at h ⊢;exact h
 |d::ds,_,h=>by
  unfold zL at h ⊢;obtain ⟨v,r,rfl,h1,h2⟩:=h;exact ⟨v,r,rfl,Rep.more N h1,zL.more N h2⟩
end
theorem zAn.more {κ:Type} {kf:D->Option κ} {L:Yg} {H:Hp} (N:Yg):∀ {ps:List (D × D)} {vs:List (κ × V)},zAn kf L H ps vs->zAn kf (L++N) H ps vs
 |[],_,h=>h
 |p::r,_,h=>by
  obtain ⟨k,v,r',rfl,e,h1,h2⟩:=h;exact ⟨k,v,r',rfl,e,h1.more N,zAn.more N h2⟩
theorem zGI.more {K:Yb} {L:Yg} {H:Hp} {a:Yt} {m:MO} (N:Yg) (h:zGI K L H a m):zGI K (L++N) H a m:=by
 cases m with
 |lst xs=>obtain ⟨vs,e,r⟩:=h;exact ⟨vs,e,r.more N⟩
 |fro xs=>obtain ⟨o,vs,e,r⟩:=h;exact ⟨o,vs,e,r.more N⟩
 |dict ps=>obtain ⟨vs,e,r⟩:=h;exact ⟨vs,e,r.more N⟩
 |dicT ps=>obtain ⟨vs,e,r⟩:=h;exact ⟨vs,e,r.more N⟩
 |set _=>exact h
 |froT ps=>obtain ⟨o,vs,e,r⟩:=h;exact ⟨o,vs,e,r.more N⟩
 |froK ps=>obtain ⟨o,vs,e,r⟩:=h;exact ⟨o,vs,e,r.more N⟩
theorem zRv {K:Yb} {L L':Yg} {M':List MO} {H H':Hp} {p:Yt} {xs:List D} {vs:List V} (s:Stp L H L' H') (c:Cor K L' M' H') (h0:H p=none) (h1:H' p=some (.lst vs)) (h2:p∉L') (r:zL L' H' xs vs) :
  Cor K (L'++[p]) (M'++[.lst xs]) H'/\Stp L H (L'++[p]) H':=by
 refine ⟨⟨by simp[c.len],?_,λn a m e1 e2=>?_⟩,?_⟩
 .rw[zWc];exact ⟨c.nd,by simp,λa ha b hb z=>by
   have:b=p:=by simpa using hb
   subst this;subst z;exact h2 ha⟩
 .by_cases hn:n<L'.length
  .rw[zVV hn]at e1;rw[zVV (by rw[<-c.len];exact hn)]at e2;exact (c.obj n a m e1 e2).more [p]
  .have hn':n=L'.length:=by
    have:=(zVR.mp e1).1;rw[zVe]at this;simp at this;omega
   subst hn';simp at e1;rw[c.len]at e2;simp at e2;subst e1;subst e2;exact ⟨vs,h1,r.more [p]⟩
 .obtain ⟨N,hN⟩:=s.pre;refine ⟨⟨N++[p],by rw[hN];simp⟩,λa ha=>?_,s.old,s.tup,s.frz⟩;rcases zVo.mp ha with z|z
  .exact s.new a z
  .have:a=p:=by simpa using z
   subst this;exact .inr h0
theorem Rep.last {L:Yg} {M:List MO} {H:Hp} {K:Yb} {p:Yt} (c:Cor K L M H):Rep (L++[p]) H (.ref M.length) (.ref p):=by
 unfold Rep;exact ⟨p,rfl,by rw[<-c.len];simp⟩
theorem zBx {f:FE} (h:QE X e f):QD X e (toD f):=.mk <| PE.imp h.un λτ H Q zz=>by
 obtain ⟨L,σ,M,d,M',c,rs,hf,q⟩:=zz;unfold toD at hf;split at hf
 .rename_i d' M1 e1;cases hf;exact ⟨L,σ,M,_,_,c,rs,e1,λL' H' v s c' r=>q L' H' v s c' r⟩
 .rename_i xs M1 e1;cases hf;refine ⟨L,σ,M,_,_,c,rs,e1,λL' H' v s c' r=>?_⟩;obtain ⟨p,vs,rfl,e0,e2,e3,r⟩:=r;obtain ⟨c2,s2⟩:=zRv s c' e0 e2 e3 r;exact q _ H' _ s2 c2 (Rep.last c')
 .cases hf
def zC (i:Nat):FE:=λσ M=>match σ[i]? with
 |some (some d)=>some (.dat d,M)
 |_=>none
theorem zT2 (h:PE X (.Name x pos) (zRx i)):QE X (.Name x pos) (zC i):=.mk <| PE.imp h λτ H Q zz=>by
 obtain ⟨L,σ,M,d,M',c,rs,hf,q⟩:=zz;unfold zC at hf;split at hf
 .rename_i d' e1;cases hf;obtain ⟨v,e2,r⟩:=rs.2 i d' e1;exact ⟨v,e2,q L H v (.refl L H) c r⟩
 .cases hf
def fC (d:D):FE:=λ_ M=>some (.dat d,M)
theorem zIq (hd:∀ L H,Rep L H d v) (h:PE X e (tC v)):QE X e (fC d):=.mk <| PE.imp h λτ H Q zz=>by
 obtain ⟨L,σ,M,d',M',c,rs,hf,q⟩:=zz;unfold fC at hf;cases hf;exact q L H v (.refl L H) c (hd L H)
theorem zTw {i j pos}:QE X (.Constant (.int i) j pos) (fC (.int i)):=zIq (λ_ _=>by unfold Rep;rfl) zSS
theorem zVA {b j pos}:QE X (.Constant (.bool b) j pos) (fC (.bl b)):=zIq (λ_ _=>by unfold Rep;rfl) zTk
theorem zTu {j pos}:QE X (.Constant .none j pos) (fC .non):=zIq (λ_ _=>by unfold Rep;rfl) zSZ
def zG:FA:=λ_ M=>some ([],M)
def zD (f:FD) (g:FA):FA:=λσ M=>match f σ M with
 |some (d,M1)=>match g σ M1 with
  |some (ds,M2)=>some (d::ds,M2)
  |none=>none
 |none=>none
theorem PA.imp (h:PA X es t) (hi:∀ τ H Q,t' τ H Q->t τ H Q):PA X es t':=λpos zB s σ H Q I q=>h pos zB s σ H Q I (hi _ _ _ q)
theorem zPB:QA X [] zG:=.mk <| PA.imp zE2 λτ H Q zz=>by
 obtain ⟨L,σ,M,d,M',c,rs,hf,q⟩:=zz;unfold zG at hf;cases hf;exact q L H [] (.refl L H) c .nil
theorem zMH (h1:QD X e f) (h2:QA X es g) (hs:starEach (e::es) X.env=(false,eval e X.env)::starEach es X.env:=by rfl):QA X (e::es) (zD f g) :=
 .mk <| PA.imp (zDp h1.un h2.un hs) λτ H Q zz=>by
  obtain ⟨L,σ,M,d,M',c,rs,hf,q⟩:=zz;unfold zD at hf;split at hf
  .rename_i d1 M1 e1;split at hf
   .rename_i ds M2 e2;cases hf;refine ⟨L,σ,M,_,_,c,rs,e1,λL1 H1 v s1 c1 r1=>⟨L1,σ,M1,_,_,c1,rs.stp s1,e2,λL2 H2 vs s2 c2 r2=>?_⟩⟩;exact q L2 H2 _ (s1.trans s2) c2 (.cons (r1.stp s2) r2)
   .cases hf
  .cases hf
def zBL (g:FA):FE:=λσ M=>match g σ M with
 |some (ds,M1)=>if ds.length<=sizeLine then some (.dat (.tup ds),M1) else none
 |none=>none
def zA5 (g:FA):FE:=λσ M=>match g σ M with
 |some (ds,M1)=>if ds.length<=sizeLine then some (.fl ds,M1) else none
 |none=>none
theorem Rep.newTup (h:H p=none) (r:zL L H ds vs):Rep L (upd H p (.tup vs)) (.tup ds) (.ref p):=by
 unfold Rep;exact ⟨p,vs,rfl,zj,r.stp (.upd h)⟩
theorem zUZ {x1 pos} (h:QA X es g):QE X (.Tuple es x1 pos) (zBL g):=.mk <| PE.imp (zR3 h.un) λτ H Q zz=>by
 obtain ⟨L,σ,M,d,M',c,rs,hf,q⟩:=zz;unfold zBL at hf;split at hf
 .rename_i ds M1 e1;split at hf
  .rename_i hz;cases hf;refine ⟨L,σ,M,_,_,c,rs,e1,λL1 H1 vs s1 c1 r1=>⟨by rw[r1.length];exact hz,λp hp=>?_⟩⟩;exact q L1 _ _ (s1.trans (.upd hp)) (c1.upd hp) (Rep.newTup hp r1)
  .cases hf
 .cases hf
theorem zHp {L L1:Yg} {H H1:Hp} {K:Yb} {M M1:List MO} (s:Stp L H L1 H1) (c:Cor K L M H) (c1:Cor K L1 M1 H1) {p:Yt} (hp:H1 p=none):H p=none/\p∉L1:=by
 have hp1:p∉L1:=λz=>by obtain ⟨o,e⟩:=c1.tracked z;rw[hp]at e;cases e
 refine ⟨?_,hp1⟩;cases q:H p with
 |none=>rfl
 |some o=>
  have:p∉L:=λz=>hp1 (by obtain ⟨N,hN⟩:=s.pre;rw[hN];exact zWd _ z);rw[s.old p o q this]at hp;cases hp
theorem zf.newLst {L L1:Yg} {H H1:Hp} {K:Yb} {M M1:List MO} {p:Yt} {ds:List D} {vs:List V} (s:Stp L H L1 H1) (c:Cor K L M H) (c1:Cor K L1 M1 H1) (hp:H1 p=none) (r:zL L1 H1 ds vs) :
  zf H L1 (upd H1 p (.lst vs)) (.fl ds) (.ref p):=by
 obtain ⟨a,b⟩:=zHp s c c1 hp;exact ⟨p,vs,rfl,a,zj,b,r.stp (.upd hp)⟩
theorem zTh {pos} (h:QA X es g):QE X (.List es pos) (zA5 g):=.mk <| PE.imp (zSs h.un) λτ H Q zz=>by
 obtain ⟨L,σ,M,d,M',c,rs,hf,q⟩:=zz;unfold zA5 at hf;split at hf
 .rename_i ds M1 e1;split at hf
  .rename_i hz;cases hf;refine ⟨L,σ,M,_,_,c,rs,e1,λL1 H1 vs s1 c1 r1=>⟨by rw[r1.length];exact hz,λp hp=>?_⟩⟩;exact q L1 _ _ (s1.trans (.upd hp)) (c1.upd hp) (zf.newLst s1 c c1 hp r1)
  .cases hf
 .cases hf
end
abbrev FAE:=Sd->Mem->Option (List EV × Mem)
def zCP (H0:Hp) (L:Yg) (H:Hp):List EV->List V->Prop
 |[],vs=>vs=[]
 |e::es,vs=>∃ v r,vs=v::r/\zf H0 L H e v/\zCP H0 L H es r
theorem Stp.sub (s:Stp L H L' H'):∀ a∈L,a∈L':=λa h=>by
 obtain ⟨N,hN⟩:=s.pre;rw[hN];exact zWd _ h
theorem zCP.back {H0 H1:Hp} {L0 L1 L:Yg} {H:Hp} (s:Stp L0 H0 L1 H1) {M:List MO} {K:Yb} (c:Cor K L0 M H0) (hL:∀ a∈L1,a∈L):∀ {es:List EV} {vs:List V},zCP H1 L H es vs->zCP H0 L H es vs
 |[],_,h=>h
 |e::es,_,h=>by
  obtain ⟨v,r,rfl,h1,h2⟩:=h;exact ⟨v,r,rfl,h1.back s c hL,zCP.back s c hL h2⟩
def zT0 (K:Yb) (f:FAE):TA:=λτ H Q=>∃ L σ M ds M',Cor K L M H/\zBG L H σ τ/\f σ M=some (ds,M') /\ ∀ L' H' vs,Stp L H L' H'->Cor K L' M' H'->zCP H L' H' ds vs->Q vs H'
structure QAE (X:Cx) (es:Yi) (f:FAE):Prop where
 un:PA X es (zT0 X.K f)
section
def za:FAE:=λ_ M=>some ([],M)
def zM (f:FE) (g:FAE):FAE:=λσ M=>match f σ M with
 |some (d,M1)=>match g σ M1 with
  |some (ds,M2)=>some (d::ds,M2)
  |none=>none
 |none=>none
theorem zSB:QAE X [] za:=.mk <| PA.imp zE2 λτ H Q zz=>by
 obtain ⟨L,σ,M,d,M',c,rs,hf,q⟩:=zz;unfold za at hf;cases hf;exact q L H [] (.refl L H) c rfl
theorem zQa (h1:QE X e f) (h2:QAE X es g) (hs:starEach (e::es) X.env=(false,eval e X.env)::starEach es X.env:=by rfl):QAE X (e::es) (zM f g) :=
 .mk <| PA.imp (zDp h1.un h2.un hs) λτ H Q zz=>by
  obtain ⟨L,σ,M,d,M',c,rs,hf,q⟩:=zz;unfold zM at hf;split at hf
  .rename_i d1 M1 e1;split at hf
   .rename_i ds M2 e2;cases hf;refine ⟨L,σ,M,_,_,c,rs,e1,λL1 H1 v s1 c1 r1=>⟨L1,σ,M1,_,_,c1,rs.stp s1,e2,λL2 H2 vs s2 c2 r2=>?_⟩⟩;exact q L2 H2 _ (s1.trans s2) c2 ⟨v,vs,rfl,r1.stp s2,r2.back s1 c s2.sub⟩
   .cases hf
  .cases hf
abbrev K2:=EV->EV->Mem->Option (EV × Mem)
def zDQ (K:Yb) (r:R2) (k:K2):Prop:=∀ {L:Yg} {M M':Mem} {H H0:Hp} {x y d:EV} {v w:V} {Q:VK},Cor K L M H->zf H0 L H x v->zf H0 L H y w->k x y M=some (d,M') ->
 (∀ L' H' u,Stp L H L' H'->Cor K L' M' H'->zf H L' H' d u->Q u H')->r v w H Q
def fOp (k:K2) (f g:FE):FE:=λσ M=>match f σ M with
 |some (x,M1)=>match g σ M1 with
  |some (y,M2)=>k x y M2
  |none=>none
 |none=>none
theorem zDF {K:Yb} {r:R2} {k:K2} {f g:FE} (hk:zDQ K r k) {τ:Sv} {H:Hp} {Q:VK} (h:trE K (fOp k f g) τ H Q):tOp r (trE K f) (trE K g) τ H Q:=by
 obtain ⟨L,σ,M,d,M',c,rs,hf,q⟩:=h;unfold fOp at hf;split at hf
 .rename_i x M1 e1;split at hf
  .rename_i y M2 e2;refine ⟨L,σ,M,_,_,c,rs,e1,λL1 H1 v s1 c1 r1=>⟨L1,σ,M1,_,_,c1,rs.stp s1,e2,λL2 H2 w s2 c2 r2=>?_⟩⟩;refine hk (H0:=H) c2 (r1.stp s2) (r2.back s1 c s2.sub) hf λL3 H3 u s3 c3 r3=>?_;exact q L3 H3 u ((s1.trans s2).trans s3) c3 (r3.back (s1.trans s2) c s3.sub)
  .cases hf
 .cases hf
theorem zLU (hk:zDQ X.K r k) (ho:OpR X (binaryOp op) r) (h1:QE X a f) (h2:QE X b g):QE X (.BinOp a op b pos) (fOp k f g):=.mk <| PE.imp (zTo ho h1.un h2.un) λ_ _ _ h=>zDF hk h
theorem zUd (hk:zDQ X.K r k) (ho:OpR X (compareOp op) r) (h1:QE X a f) (h2:QE X b g) (hm:behindInMarks op b=false):QE X (.Compare a [op] [b] pos) (fOp k f g) :=
 .mk <| PE.imp (zRf ho h1.un h2.un hm) λ_ _ _ h=>zDF hk h
def tst (f:FE):FT:=λσ M=>match f σ M with
 |some (.dat (.bl c),M')=>some (c,M')
 |_=>none
theorem zEp {K:Yb} {f:FE} {τ:Sv} {H:Hp} {Q:Bool->Hp->Prop} (h:trT K (tst f) τ H Q):zLp (trE K f) τ H Q:=by
 obtain ⟨L,σ,M,d,M',c,rs,hf,q⟩:=h;unfold tst at hf;split at hf
 .rename_i k M1 e1;cases hf;refine ⟨L,σ,M,_,_,c,rs,e1,λL1 H1 v s1 c1 r1=>?_⟩;have:v=.bl d:=by unfold zf Rep at r1;exact r1
  exact ⟨d,this,q L1 H1 s1 c1⟩
 .cases hf
theorem zEH (h:∀ τ H Q,t τ H Q->t' τ H Q) (q:zLp t τ H Q):zLp t' τ H Q:=h _ _ _ q
theorem zGE {op:CmpOp} {r:R2} {k:K2} {f g:FE} (hk:zDQ X.K r k) (ho:OpR X (compareOp op) r) (h1:QE X a f) (h2:QE X b g) (hm:behindInMarks op b=false):QT X (.Compare a [op] [b] pos) (tst (fOp k f g)) :=
 .mk <| PT.imp (zRh ho h1.un h2.un hm) λ_ _ _ h=>zEH (λ_ _ _ z=>zDF hk z) (zEp h)
def kI (C:Int->Int->Bool) (g:Int->Int->D):K2:=λx y M=>match x,y with
 |.dat (.int i),.dat (.int j)=>if C i j then some (.dat (g i j),M) else none
 |_,_=>none
def kI0 (g:Int->Int->D):K2:=kI (λ_ _=>true) g
theorem zJV {K:Yb} {C:Int->Int->Bool} {C':Int->Int->Prop} {g:Int->Int->D} {g':Int->Int->V} (hC:∀ i j,C i j=true->C' i j) (hg:∀ L H i j,Rep L H (g i j) (g' i j)):zDQ K (rI C' g') (kI C g):=by
 intro L M M' H H0 x y d v w Q c rx ry hk q;unfold kI at hk;split at hk
 .rename_i i j;split at hk
  .rename_i hc;cases hk;refine ⟨i,j,by unfold zf Rep at rx;exact rx,by unfold zf Rep at ry;exact ry,hC i j hc,q L H _ (.refl L H) c (hg L H i j)⟩
  .cases hk
 .cases hk
theorem zGL {K:Yb} {g:Int->Int->D} {g':Int->Int->V} (hg:∀ L H i j,Rep L H (g i j) (g' i j)):zDQ K (rI0 g') (kI0 g):=by
 intro L M M' H H0 x y d v w Q c rx ry hk q;obtain ⟨i,j,h1,h2,_,h4⟩:=zJV (C:=λ_ _=>true) (C':=λ_ _=>True) (λ_ _ _=>trivial) hg c rx ry hk q;exact ⟨i,j,h1,h2,h4⟩
theorem zAF:Rep L H (.int i) (.int i):=by unfold Rep;rfl
theorem zC3:Rep L H (.bl i) (.bl i):=by unfold Rep;rfl
def zMt (i j:Int):Bool:=(decide (-(2 ^ 64)<i)&&decide (i<2 ^ 64))||(decide (-(2 ^ 64)<j)&&decide (j<2 ^ 64))
abbrev zUx:K2:=kI0 λi j=> .int (i+j)
abbrev zLN:K2:=kI0 λi j=> .int (i-j)
abbrev zNd:K2:=kI zMt λi j=> .int (i*j)
abbrev zFD:K2:=kI (λ_ j=>decide (0<j)) λi j=> .int (i % j)
abbrev zNV:K2:=kI (λ_ j=>decide (0<j)&&decide (j<1073741824)) λi j=> .int (i / j)
abbrev zOc:K2:=kI (λi j=>decide (0<=j)&&decide (j<=1000000)&&decide (i.natAbs<2 ^ 64)) λi j=> .int (i ^ j.toNat)
abbrev kLt:K2:=kI0 λi j=> .bl (decide (i<j))
abbrev kGt:K2:=kI0 λi j=> .bl (decide (j<i))
abbrev kGe:K2:=kI0 λi j=> .bl (decide (j<=i))
section
theorem zUO (h1:QE X a f) (h2:QE X b g):QE X (.BinOp a .Sub b pos) (fOp zLN f g):=zLU (zGL λ_ _ _ _=>zAF) zSN h1 h2
theorem zTf (h1:QE X a f) (h2:QE X b g):QE X (.BinOp a .Mult b pos) (fOp zNd f g):=zLU (zJV (λi j h=>by
 unfold zMt at h;simp only[Bool.or_eq_true,zVy,zWb]at h;exact h) λ_ _ _ _=>zAF) zSk h1 h2
theorem zTr (h1:QE X a f) (h2:QE X b g):QE X (.BinOp a .Mod b pos) (fOp zFD f g):=zLU (zJV (λi j h=>zWK h) λ_ _ _ _=>zAF) zTZ h1 h2
theorem zUN (h1:QE X a f) (h2:QE X b g):QE X (.BinOp a .FloorDiv b pos) (fOp zNV f g):=zLU (zJV (λi j h=>by
 simp only[zVy,zWb]at h;exact h) λ_ _ _ _=>zAF) zQV h1 h2
theorem zUS (h1:QE X a f) (h2:QE X b g):QE X (.BinOp a .Pow b pos) (fOp zOc f g):=zLU (zJV (λi j h=>by
 simp only[zVy,zWb]at h;exact ⟨h.1.1,h.1.2,h.2⟩) λ_ _ _ _=>zAF) zSK h1 h2
theorem zUD (h1:QE X a f) (h2:QE X b g):QT X (.Compare a [.Lt] [b] pos) (tst (fOp kLt f g)):=zGE (zGL λ_ _ _ _=>zC3) zTg h1 h2 (zEv _)
theorem zTl (h1:QE X a f) (h2:QE X b g):QT X (.Compare a [.Gt] [b] pos) (tst (fOp kGt f g)):=zGE (zGL λ_ _ _ _=>zC3) zUA h1 h2 (zEv _)
theorem zUn (h1:QE X a f) (h2:QE X b g):QT X (.Compare a [.GtE] [b] pos) (tst (fOp kGe f g)):=zGE (zGL λ_ _ _ _=>zC3) zUR h1 h2 (zEv _)
end
end
def zBB (M:Mem):EV->Option (List D)
 |.fl xs=>some xs
 |.dat (.ref n)=>match M[n]? with
  |some (.lst xs)=>some xs
  |some (.fro xs)=>some xs
  |_=>none
 |_=>none
def zDK:EV->Option (List D)
 |.dat (.tup xs)=>some xs
 |_=>none
def zAQ (M:Mem) (x:EV):Option (List D):=match zDK x with
 |some xs=>some xs
 |none=>zBB M x
theorem zAw {K:Yb} {L:Yg} {M:Mem} {H H0:Hp} {x:EV} {v:V} {xs:List D} (c:Cor K L M H) (r:zf H0 L H x v) (h:zBB M x=some xs):∃ a vs,v=.ref a/\Rd H a (.lst vs)/\zL L H xs vs:=by
 cases x with
 |fl ys=>
  cases h;obtain ⟨p,vs,rfl,_,e,_,r⟩:=r;exact ⟨p,vs,rfl,.inl e,r⟩
 |dat d=>
  cases d with
  |ref n=>
   unfold zf Rep at r;obtain ⟨a,rfl,e⟩:=r;unfold zBB at h;dsimp only at h;cases q:M[n]? with
   |none=>rw[q]at h;cases h
   |some m=>
    rw[q]at h;have z:=c.obj n a m e q;cases m with
    |lst ys=>cases h;obtain ⟨vs,e1,r1⟩:=z;exact ⟨a,vs,rfl,.inl e1,r1⟩
    |fro ys=>cases h;obtain ⟨o,vs,e1,r1⟩:=z;exact ⟨a,vs,rfl,.inr ⟨o,e1⟩,r1⟩
    |dict _=>cases h
    |dicT _=>cases h
    |set _=>cases h
    |froT _=>cases h
    |froK _=>cases h
  |_=>cases h
theorem zB1 {L:Yg} {H H0:Hp} {x:EV} {v:V} {xs:List D} (r:zf H0 L H x v) (h:zDK x=some xs):∃ a vs,v=.ref a/\H a=some (.tup vs)/\zL L H xs vs:=by
 cases x with
 |fl ys=>cases h
 |dat d=>
  cases d with
  |tup ys=>cases h;unfold zf Rep at r;exact r
  |_=>cases h
theorem zH5 {K:Yb} {L:Yg} {M:Mem} {H H0:Hp} {x:EV} {v:V} {xs:List D} (c:Cor K L M H) (r:zf H0 L H x v) (h:zAQ M x=some xs):∃ a vs,v=.ref a/\(SqL K H a vs\/SqT K H a vs)/\zL L H xs vs:=by
 unfold zAQ at h;cases q:zDK x with
 |some ys=>
  rw[q]at h;cases h;obtain ⟨a,vs,e,h1,h2⟩:=zB1 r q;exact ⟨a,vs,e,.inr (.of h1),h2⟩
 |none=>
  rw[q]at h;obtain ⟨a,vs,e,h1,h2⟩:=zAw c r h;exact ⟨a,vs,e,.inl (.inl h1),h2⟩
theorem zSi {L:Yg} {H:Hp} {xs:List D} {vs:List V} {i:Int} {d:D} (r:zL L H xs vs) (h:atI xs i=some d):∃ v,atI vs i=some v/\Rep L H d v:=by
 unfold atI at h ⊢;rw[r.length];cases q:ixN xs.length i with
 |none=>rw[q]at h;cases h
 |some j=>rw[q]at h;exact r.get h
theorem zQn {L:Yg} {H:Hp} {i:Str}:Rep L H (.str i) (.str i):=by unfold Rep;rfl
def kIx:K2:=λx y M=>match y with
 |.dat (.int i)=>match zAQ M x with
  |some xs=>match atI xs i with
   |some d=>some (.dat d,M)
   |none=>none
  |none=>match x with
   |.dat (.str z)=>if z.length<=sizeLine then match atI z.cps.toList i with
     |some c=>some (.dat (.str ⟨#[c]⟩),M)
     |none=>none
    else none
   |_=>none
 |_=>none
theorem zSl {K:Yb}:zDQ K (rIx K) kIx:=by
 intro L M M' H H0 x y d v w Q c rx ry hk q;unfold kIx at hk;split at hk
 .rename_i i;have ew:w=.int i:=by unfold zf Rep at ry;exact ry
  split at hk
  .rename_i xs e1;split at hk
   .rename_i d' e2;cases hk;obtain ⟨a,vs,rfl,hs,r⟩:=zH5 c rx e1;obtain ⟨u,e3,r3⟩:=zSi r e2;rcases hs with hs|hs
    .exact .inl ⟨a,vs,i,u,rfl,ew,hs,e3,q L H u (.refl L H) c r3⟩
    .exact .inr (.inl ⟨a,vs,i,u,rfl,ew,hs,e3,q L H u (.refl L H) c r3⟩)
   .cases hk
  .split at hk
   .rename_i z _;split at hk
    .rename_i hz;split at hk
     .rename_i ch e2;cases hk;have ev:v=.str z:=by unfold zf Rep at rx;exact rx
      exact .inr (.inr ⟨z,i,ch,ev,ew,hz,e2,q L H _ (.refl L H) c (zQn (L:=L) (H:=H))⟩)
     .cases hk
    .cases hk
   .cases hk
 .cases hk
section
theorem zLV {t sl:Yt} {items:Yp} {vl vu:Yu} {lo hi:Ys} {Q:Yc} (T:IsTup s.heap t items) (S:s.heap.IsSliceOf sl vl vu .none) (pl:IsPart vl lo) (pu:IsPart vu hi)
  (h1:HT.sIx items.size 0 lo=0) (h2:HT.sIx items.size items.size hi=items.size) (h:Q (.ref t) s):wpAny (model prog w) A (getItem (.ref t) (.ref sl)) Q E s:=by
 obtain ⟨o,O,C,G⟩:=id S;have TS:s.TypeIs (.ref sl) "slice" := ⟨o,O,C⟩;unfold getItem;try with_reducible refine zWH ?_
 first|refine zVO (zVQ ?_)|skip
 refine zVO (wpAny_sequenceKey T.typeIs (by decide) ?_);refine zVO (zV0 (name:=Str.ofString "__getitem__") T.typeIs zWw (zV1 zWw T.typeIs entry_tuple_getitem ?_ (args_tuple_getitem _ _)));refine zVO (m:=Builtin.Tuple.tupleItemsOf (.ref t)) (tupleItemsOf_ T (zVO (wpAny_typeOf TS ?_)));rw[zVd (by decide)];refine zVO (HT.zCl S pl pu ?_);rw[h1,h2];show wpAny _ _ (if ((((0:Nat):Int)==0&&(1:Int)==1&&(items.size-0)==items.size))=true then _ else _) _ _ s;rw[zVd (by simp)];unfold Builtin.Tuple.tupleIsExact;refine zVO (zVO (wpAny_typeOf T.typeIs (zVQ ?_)));rw[zVd (by decide)];exact zVO (zWl (zVQ ⟨_,rfl,zVQ h⟩))
end
def zUy (K:Yb):V->Option Int->Option Int->Hp->VK->Prop:=λx lo hi H Q=>∃ a xs,x=.ref a/\SqT K H a xs/\(HT.sIx xs.length 0 lo=0/\HT.sIx xs.length xs.length hi=xs.length)/\Q (.ref a) H
theorem zQD {X:Cx}:SlR X (zUy X.K):=by
 intro zB s σ H x v vl vu lo hi sl Q I rx hs pl pu h;obtain ⟨a,xs,rfl,hx,hw,q⟩:=h;cases rx;obtain ⟨its,r,ht,hz⟩:=I.tuple hx;have hlen:its.toArray.size=xs.length:=by rw[zVW];exact r.length.symm
 exact ⟨"tuple", _,zWw.lookup,ht.typeIs,zLV ht hs pl pu (by rw[hlen];exact hw.1) (by rw[hlen];exact hw.2) ⟨.ref a,H,I,rfl,q⟩⟩
section
variable {X:Cx}
theorem zU5 (h1:QE X a f) (h2:QE X b g) (hs:zLq b:=by intro _ _;rfl):QE X (.Subscript a b pos) (fOp kIx f g):=.mk <| PE.imp (zT7 zS1 h1.un h2.un hs) λ_ _ _ h=>zDF zSl h
abbrev FO:=Sd->Mem->Option (Option Int × Mem)
def trO (K:Yb) (f:FO):TO:=λτ H Q=>∃ L σ M d M',Cor K L M H/\zBG L H σ τ/\f σ M=some (d,M') /\ ∀ L' H',Stp L H L' H'->Cor K L' M' H'->Q d H'
structure QO (X:Cx) (e:Option Expr) (f:FO):Prop where
 un:PO X e (trO X.K f)
def zFM:FO:=λ_ M=>some (none,M)
def zEi (f:FE):FO:=λσ M=>match f σ M with
 |some (.dat (.int i),M')=>some (some i,M')
 |_=>none
theorem PO.imp {e:Option Expr} {t t':TO} (h:PO X e t) (hi:∀ τ H Q,t' τ H Q->t τ H Q):PO X e t':=λzB s σ H Q I q=>h zB s σ H Q I (hi _ _ _ q)
theorem zQz:QO X none zFM:=.mk <| PO.imp zQP λτ H Q zz=>by
 obtain ⟨L,σ,M,d,M',c,rs,hf,q⟩:=zz;unfold zFM at hf;cases hf;exact q L H (.refl L H) c
theorem zRG (h:QE X e f):QO X (some e) (zEi f):=.mk <| PO.imp (zQv h.un) λτ H Q zz=>by
 obtain ⟨L,σ,M,d,M',c,rs,hf,q⟩:=zz;unfold zEi at hf;split at hf
 .rename_i i M1 e1;cases hf;refine ⟨L,σ,M,_,_,c,rs,e1,λL1 H1 v s1 c1 r1=>?_⟩;exact ⟨i,by unfold zf Rep at r1;exact r1,q L1 H1 s1 c1⟩
 .cases hf
def zFS (xs:List D) (lo hi:Ys):List D:=(xs.drop (HT.sIx xs.length 0 lo)).take (HT.sIx xs.length xs.length hi-HT.sIx xs.length 0 lo)
theorem zMD {L:Yg} {H:Hp} {xs:List D} {vs:List V} {lo hi:Ys} (r:zL L H xs vs):zL L H (zFS xs lo hi) (zJp vs lo hi):=by
 unfold zFS zJp;rw[r.length];exact (r.drop _).take _
def kSl (x:EV) (lo hi:Ys) (M:Mem):Option (EV × Mem):=match zDK x with
 |some xs=>some (.dat (.tup (zFS xs lo hi)),M)
 |none=>match zBB M x with
  |some xs=>some (.fl (zFS xs lo hi),M)
  |none=>none
def fSl (f:FE) (fl fh:FO):FE:=λσ M=>match f σ M with
 |some (x,M1)=>match fl σ M1 with
  |some (lo,M2)=>match fh σ M2 with
   |some (hi,M3)=>kSl x lo hi M3
   |none=>none
  |none=>none
 |none=>none
theorem zQ6 {lo hi:Option Expr} {p2:Pos} {fl fh:FO} (h:QE X e f) (hl:QO X lo fl) (hh:QO X hi fh):QE X (.Subscript e (.Slice lo hi none p2) pos) (fSl f fl fh) :=
 .mk <| PE.imp (zPL (SlR.or zRJ (SlR.or zTX zQD)) h.un hl.un hh.un) λτ H Q zz=>by
  obtain ⟨L,σ,M,d,M',c,rs,hf,q⟩:=zz;unfold fSl at hf;split at hf
  .rename_i x M1 e1;split at hf
   .rename_i l M2 e2;split at hf
    .rename_i u M3 e3;refine ⟨L,σ,M,_,_,c,rs,e1,λL1 H1 v s1 c1 r1=>⟨L1,σ,M1,_,_,c1,rs.stp s1,e2,λL2 H2 s2 c2=>⟨L2,σ,M2,_,_,c2,rs.stp (s1.trans s2),e3,λL3 H3 s3 c3=>?_⟩⟩⟩;have s:=(s1.trans s2).trans s3;have r3:zf H L3 H3 x v:=(r1.stp s2).stp s3;unfold kSl at hf;cases t:zDK x with
     |some xs=>
      rw[t]at hf;cases hf;obtain ⟨a,vs,rfl,e4,r4⟩:=zB1 r3 t;by_cases hw:HT.sIx vs.length 0 l=0/\HT.sIx vs.length vs.length u=vs.length
      .refine .inr (.inr ⟨a,vs,rfl,.of e4,hw,?_⟩);have ec:zFS xs l u=xs:=by
        unfold zFS;rw[<-r4.length,hw.1,hw.2,r4.length];simp
       rw[ec]at q;refine q L3 H3 _ s c3 ?_;unfold zf Rep;exact ⟨a,vs,rfl,e4,r4⟩
      .refine .inr (.inl ⟨a,vs,rfl,.of e4,hw,λp hp=>?_⟩);exact q L3 _ _ (s.trans (.upd hp)) (c3.upd hp) (Rep.newTup hp (zMD r4))
     |none=>
      rw[t]at hf;dsimp only at hf;split at hf
      .rename_i xs e4;cases hf;obtain ⟨a,vs,rfl,e5,r5⟩:=zAw c3 r3 e4;refine .inl ⟨a,vs,rfl,.inl e5,λp hp=>?_⟩;exact q L3 _ _ (s.trans (.upd hp)) (c3.upd hp) (zf.newLst s c c3 hp (zMD r5))
      .cases hf
    .cases hf
   .cases hf
  .cases hf
abbrev KB:=List EV->Mem->Option (EV × Mem)
def zEk (K:Yb) (r:List V->Hp->VK->Prop) (k:KB):Prop:=∀ {L:Yg} {M M':Mem} {H H0:Hp} {xs:List EV} {d:EV} {vs:List V} {Q:VK},Cor K L M H->zCP H0 L H xs vs->k xs M=some (d,M') ->
 (∀ L' H' u,Stp L H L' H'->Cor K L' M' H'->zf H L' H' d u->Q u H')->r vs H Q
def fB (k:KB) (f:FAE):FE:=λσ M=>match f σ M with
 |some (xs,M1)=>k xs M1
 |none=>none
theorem zPT {K:Yb} {r:List V->Hp->VK->Prop} {k:KB} {f:FAE} (hk:zEk K r k) {τ:Sv} {H:Hp} {Q:VK} (h:trE K (fB k f) τ H Q):tCB r (zT0 K f) τ H Q:=by
 obtain ⟨L,σ,M,d,M',c,rs,hf,q⟩:=h;unfold fB at hf;split at hf
 .rename_i xs M1 e1;refine ⟨L,σ,M,_,_,c,rs,e1,λL1 H1 vs s1 c1 r1=>?_⟩;refine hk c1 r1 hf λL2 H2 u s2 c2 r2=>?_;exact q L2 H2 u (s1.trans s2) c2 (r2.back s1 c s2.sub)
 .cases hf
theorem zCP.one {H0:Hp} {L:Yg} {H:Hp} {x:EV} {vs:List V} (h:zCP H0 L H [x] vs):∃ v,vs=[v]/\zf H0 L H x v:=by
 obtain ⟨v,r,rfl,h1,h2⟩:=h;unfold zCP at h2;subst h2;exact ⟨v,rfl,h1⟩
def zBM:KB:=λxs M=>match xs with
 |[x]=>match zAQ M x with
  |some ys=>some (.dat (.int ys.length),M)
  |none=>none
 |_=>none
theorem zQF:zEk X.K (λxs H Q=>∃ p ys,xs=[.ref p]/\(SqL X.K H p ys\/SqT X.K H p ys)/\Q (.int ys.length) H) zBM:=by
 intro L M M' H H0 xs d vs Q c r hk q;unfold zBM at hk;split at hk
 .rename_i x;split at hk
  .rename_i ys e1;cases hk;obtain ⟨v,rfl,r1⟩:=r.one;obtain ⟨a,ws,rfl,hs,r2⟩:=zH5 c r1 e1;refine ⟨a,ws,rfl,hs,q L H _ (.refl L H) c ?_⟩;rw[r2.length];exact (zAF (L:=L) (H:=H))
  .cases hk
 .cases hk
theorem zCT {x:Str} {p:Pos} {id:String} {r:List V->Hp->VK->Prop} {k:KB} {f:FAE} (hk:zEk X.K r k) (hc:zBT X (.builtin id) r) (hv:bootBuiltins x=some (.builtin id)) (hg:Gl X x) (hm:X.mg x=none) (ha:QAE X (e::es) f) (hn:x ≠ "__name__" := by decide) (hdb:(x==("__debug__" : Str))=false:=by decide)
  (he:starEach (e::es) X.env=(false,eval e X.env)::starEach es X.env:=by rfl) (hpl:(backTo pos (starEach es X.env)).any (·.1)=false:=by rfl):QE X (.Call (.Name x p) (e::es) [] pos) (fB k f) :=
 .mk <| PE.imp (zOM hc hg hm hv ha.un hn hdb he hpl) λ_ _ _ h=>zPT hk h
theorem zEb {x:Str} {p:Pos} {T:String} {r:List V->Hp->VK->Prop} {k:KB} {f:FAE} (hk:zEk X.K r k) (hc:zBT X (.type T) r) (hv:bootBuiltins x=some (.type T)) (hg:Gl X x) (hm:X.mg x=none) (ha:QAE X (e::es) f) (hn:x ≠ "__name__" := by decide) (hdb:(x==("__debug__" : Str))=false:=by decide)
  (he:starEach (e::es) X.env=(false,eval e X.env)::starEach es X.env:=by rfl) (hpl:(backTo pos (starEach es X.env)).any (·.1)=false:=by rfl):QE X (.Call (.Name x p) (e::es) [] pos) (fB k f) :=
 .mk <| PE.imp (zCn hc hg hm hv ha.un hn hdb he hpl) λ_ _ _ h=>zPT hk h
def zAg:KB:=λxs M=>match xs with
 |[x]=>match zAQ M x with
  |some ys=>some (.dat (.tup ys),M)
  |none=>none
 |_=>none
theorem zNZ:zEk X.K (λxs H Q=>∃ p ys,xs=[.ref p]/\((SqL X.K H p ys /\ ∀ l,H l=none->Q (.ref l) (upd H l (.tup ys)))\/(SqT X.K H p ys/\Q (.ref p) H))) zAg:=by
 intro L M M' H H0 xs d vs Q c r hk q;unfold zAg at hk;split at hk
 .rename_i x;split at hk
  .rename_i ys e1;cases hk;obtain ⟨v,rfl,r1⟩:=r.one;unfold zAQ at e1;cases t:zDK x with
   |some zs=>
    rw[t]at e1;cases e1;obtain ⟨a,ws,rfl,e2,r2⟩:=zB1 r1 t;refine ⟨a,ws,rfl,.inr ⟨.of e2,q L H _ (.refl L H) c ?_⟩⟩;unfold zf Rep;exact ⟨a,ws,rfl,e2,r2⟩
   |none=>
    rw[t]at e1;obtain ⟨a,ws,rfl,e2,r2⟩:=zAw c r1 e1;refine ⟨a,ws,rfl,.inl ⟨.inl e2,λp hp=>?_⟩⟩;exact q L _ _ (.upd hp) (c.upd hp) (Rep.newTup hp r2)
  .cases hk
 .cases hk
end
set_option genInjectivity true in
inductive Out where
 |nx|ret (d:D)|brk|cnt
abbrev FS:=Sd->Mem->Option (Out × Sd × Mem)
def zUf (E:Ends) (L:Yg) (H:Hp) (σ:Sd):Out->Prop
 |.nx=>∀ τ,zBG L H σ τ->E.nx τ H
 |.ret d=>∀ v,Rep L H d v->E.rt v H
 |.brk=>∀ τ,zBG L H σ τ->E.bk τ H
 |.cnt=>∀ τ,zBG L H σ τ->E.ct τ H
def trS (K:Yb) (f:FS):TS:=λE τ H=>∃ L σ M o σ' M',Cor K L M H/\zBG L H σ τ/\f σ M=some (o,σ',M') /\ ∀ L' H',Stp L H L' H'->Cor K L' M' H'->zUf E L' H' σ' o
structure QS (X:Cx) (st:Stmt) (f:FS):Prop where
 un:PS X st (trS X.K f)
structure QSs (X:Cx) (st:Yy) (f:FS):Prop where
 un:PSs X st (trS X.K f)
theorem zBG.set (h:zBG L H σ τ) (r:Rep L H d v):zBG L H (σ.set i (some d)) (τ.set i (some v)):=by
 refine ⟨by simp[h.1],λj e q=>?_⟩;rw[zWx]at q ⊢;split at q
 .rename_i z;subst z;split at q
  .rename_i hl;cases q;rw[zVd rfl,zVd (by rw[h.1];exact hl)];exact ⟨v,rfl,r⟩
  .cases q
 .rename_i z;rw[zVg z];exact h.2 j e q
theorem zJy {K:Yb} {f:FE} {τ:Sv} {H:Hp} {Q:VK} (h:trD K (toD f) τ H Q):trE K f τ H Q:=by
 obtain ⟨L,σ,M,d,M',c,rs,hf,q⟩:=h;unfold toD at hf;split at hf
 .rename_i d' M1 e1;cases hf;exact ⟨L,σ,M,_,_,c,rs,e1,λL' H' v s c' r=>q L' H' v s c' r⟩
 .rename_i xs M1 e1;cases hf;refine ⟨L,σ,M,_,_,c,rs,e1,λL' H' v s c' r=>?_⟩;obtain ⟨p,vs,rfl,e0,e2,e3,r⟩:=r;obtain ⟨c2,s2⟩:=zRv s c' e0 e2 e3 r;exact q _ H' _ s2 c2 (Rep.last c')
 .cases hf
def zBu:FS:=λσ M=>some (.nx,σ,M)
def zV (f g:FS):FS:=λσ M=>match f σ M with
 |some (.nx,σ1,M1)=>g σ1 M1
 |r=>r
def sIf (c:FT) (f g:FS):FS:=λσ M=>match c σ M with
 |some (true,M1)=>f σ M1
 |some (false,M1)=>g σ M1
 |none=>none
def zAY (f:FE):FS:=λσ M=>match toD f σ M with
 |some (d,M1)=>some (.ret d,σ,M1)
 |none=>none
def zh (i:Nat) (f:FE):FS:=λσ M=>match toD f σ M with
 |some (d,M1)=>some (.nx,σ.set i (some d),M1)
 |none=>none
def zBQ (f:FE):FS:=λσ M=>match f σ M with
 |some (_,M1)=>some (.nx,σ,M1)
 |none=>none
section
variable {st:Stmt} {rest:Yy}
theorem zSP:QSs X [] zBu:=.mk <| PSs.imp zRW λE τ H zz=>by
 obtain ⟨L,σ,M,o,σ',M',c,rs,hf,q⟩:=zz;unfold zBu at hf;cases hf;exact q L H (.refl L H) c τ rs
theorem zRY (h1:QS X st f) (h2:QSs X rest g):QSs X (st::rest) (zV f g):=.mk <| PSs.imp (zPm h1.un h2.un) λE τ H zz=>by
 obtain ⟨L,σ,M,o,σ',M',c,rs,hf,q⟩:=zz;unfold zV at hf;split at hf
 .rename_i σ1 M1 e1;refine ⟨L,σ,M,_,_,_,c,rs,e1,λL1 H1 s1 c1 τ1 r1=>⟨L1,σ1,M1,_,_,_,c1,r1,hf,λL2 H2 s2 c2=>q L2 H2 (s1.trans s2) c2⟩⟩
 .rename_i hne;refine ⟨L,σ,M,_,_,_,c,rs,hf,λL1 H1 s1 c1=>?_⟩;have z:=q L1 H1 s1 c1;cases o with
  |nx=>exact absurd hf (hne σ' M')
  |ret d=>exact z
  |brk=>exact z
  |cnt=>exact z
theorem zSQ (h1:QS X st f):QSs X [st] f:=.mk <| PSs.imp (zQX h1.un) λ_ _ _ h=>h
theorem zUp (hc:QT X c fc) (ha:QSs X a f) (hb:QSs X b g):QS X (.If c a b pos) (sIf fc f g):=.mk <| PS.imp (zT8 hc.un ha.un hb.un) λE τ H zz=>by
 obtain ⟨L,σ,M,o,σ',M',c,rs,hf,q⟩:=zz;unfold sIf at hf;split at hf
 .rename_i M1 e1;refine ⟨L,σ,M,_,_,c,rs,e1,λL1 H1 s1 c1=>?_⟩;exact zHC ⟨L1,σ,M1,_,_,_,c1,rs.stp s1,hf,λL2 H2 s2 c2=>q L2 H2 (s1.trans s2) c2⟩
 .rename_i M1 e1;refine ⟨L,σ,M,_,_,c,rs,e1,λL1 H1 s1 c1=>?_⟩;exact zGv ⟨L1,σ,M1,_,_,_,c1,rs.stp s1,hf,λL2 H2 s2 c2=>q L2 H2 (s1.trans s2) c2⟩
 .cases hf
theorem zUV (h:QE X e f):QS X (.Return (some e) pos) (zAY f):=.mk <| PS.imp (zSg (zBx h).un) λE τ H zz=>by
 obtain ⟨L,σ,M,o,σ',M',c,rs,hf,q⟩:=zz;unfold zAY at hf;split at hf
 .rename_i d M1 e1;cases hf;exact ⟨L,σ,M,_,_,c,rs,e1,λL1 H1 v s1 c1 r1=>q L1 H1 s1 c1 v r1⟩
 .cases hf
theorem zF7 {K:Yb} {i:Nat} {f:FE} {t:TE} (ht:∀ τ H Q,trE K f τ H Q->t τ H Q) {E:Ends} {τ:Sv} {H:Hp} (h:trS K (zh i f) E τ H):zOE t (zBS i) E τ H:=by
 obtain ⟨L,σ,M,o,σ',M',c,rs,hf,q⟩:=h;unfold zh at hf;split at hf
 .rename_i d M1 e1;cases hf;exact ht _ _ _ (zJy ⟨L,σ,M,_,_,c,rs,e1,λL1 H1 v s1 c1 r1=>q L1 H1 s1 c1 _ ((rs.stp s1).set r1)⟩)
 .cases hf
theorem zUU {i:Nat} {x:Str} {f:FE} {pos':Pos} (hN:X.N.Nodup) (hi:X.N[i]?=some x) (hx:Loc X.env.scope x) (h:QE X e f) (hs:swapsWith e (some (.Name x pos')) pos.line X.env=pure false:=by rfl)
  (hf:X.fn x=true\/X.env.scope.names.lookup x=some .local:=by first|exact .inl rfl|exact .inr rfl|assumption):QS X (.Assign [.Name x pos'] e pos) (zh i f) :=
 .mk <| PS.imp (zSa hN hi hx h.un hs hf) λ_ _ _ z=>zF7 (λ_ _ _ z=>z) z
theorem zSA (h:QE X e f) (hs:swapsWith e none pos.line X.env=pure false:=by rfl):QS X (.Expr e pos) (zBQ f):=.mk <| PS.imp (zRM h.un hs) λE τ H zz=>by
 obtain ⟨L,σ,M,o,σ',M',c,rs,hf,q⟩:=zz;unfold zBQ at hf;split at hf
 .rename_i d M1 e1;cases hf;exact ⟨L,σ,M,_,_,c,rs,e1,λL1 H1 v s1 c1 r1=>q L1 H1 s1 c1 τ (rs.stp s1)⟩
 .cases hf
abbrev FG:=D->Sd->Option Sd
def GOk (g:TG) (fg:FG):Prop:=∀ {L:Yg} {H:Hp} {σ σ':Sd} {τ:Sv} {d:D} {v:V} {Q:Sv->Hp->Prop},zBG L H σ τ->Rep L H d v->fg d σ=some σ'->(∀ τ',zBG L H σ' τ'->Q τ' H)->g v τ H Q
def gN (i:Nat):FG:=λd σ=>some (σ.set i (some d))
theorem zPp:GOk (zBS i) (gN i):=by
 intro L H σ σ' τ d v Q rs r hf q;unfold gN at hf;cases hf;exact q _ (rs.set r)
abbrev FI:=Sd->Mem->Option (List D × Option (Mem->Prop) × Mem)
def zAo (g:Option (Mem->Prop)) (xs:List D) (M:Mem):Prop:=match g with
 |none=>True
 |some p=>p M
def zTx (K:Yb) (J:It) (L:Yg) (H:Hp) (xs:List D) (g:Option (Mem->Prop)):Prop:=∀ L' H' M',Stp L H L' H'->Cor K L' M' H'->zAo g xs M' ->
 (∀ (i:Nat) d,xs[i]?=some d->J.go i H' /\ ∀ v H'',J.yld i H' v H''->(∀ a o,H' a=some o->H'' a=some o)/\Rep L' H'' d v)/\J.stop xs.length H'
def trI (K:Yb) (f:FI):TI:=λτ H R=>∃ L σ M xs g M',Cor K L M H/\zBG L H σ τ/\f σ M=some (xs,g,M') /\ ∀ L' H' J,Stp L H L' H'->Cor K L' M' H'->zTx K J L' H' xs g->R J H'
structure QI (X:Cx) (tg e:Expr) (f:FI):Prop where
 un:PI X tg e (trI X.K f)
theorem PI.imp (h:PI X tg e t) (hi:∀ τ H R,t' τ H R->t τ H R):PI X tg e t':=λzB s σ H R I q=>h zB s σ H R I (hi _ _ _ q)
def zCV (g:FG) (b:FS) (all:List D) (gd:Option (Mem->Prop)):List D->Sd->Mem->Option (Out × Sd × Mem)
 |[],σ,M=>open Classical in if zAo gd all M then some (.nx,σ,M) else none
 |x::r,σ,M=>open Classical in if zAo gd all M then match g x σ with
   |some σ1=>match b σ1 M with
    |some (.nx,σ2,M2)=>zCV g b all gd r σ2 M2
    |some (.cnt,σ2,M2)=>zCV g b all gd r σ2 M2
    |some (.brk,σ2,M2)=>some (.nx,σ2,M2)
    |some (.ret d,σ2,M2)=>some (.ret d,σ2,M2)
    |none=>none
   |none=>none
  else none
def zCM (fi:FI) (g:FG) (b:FS):FS:=λσ M=>match fi σ M with
 |some (xs,gd,M1)=>zCV g b xs gd xs σ M1
 |none=>none
theorem zB4 {α:Type} {xs:List α} (h:i<xs.length):xs.drop i=xs[i]::xs.drop (i+1):=List.drop_eq_getElem_cons h
theorem Stp.yld (s:Stp L H L' H') (h:∀ a o,H' a=some o->H'' a=some o):Stp L H L' H'':=s.trans (.grow h)
theorem zOm {K:Yb} {fi:FI} {g:TG} {fg:FG} {b:FS} (hg:GOk g fg) {E:Ends} {τ:Sv} {H:Hp} (h:trS K (zCM fi fg b) E τ H):zUj (trI K fi) g (trS K b) E τ H:=by
 obtain ⟨L,σ,M,o,σf,Mf,c,rs,hf,q⟩:=h;unfold zCM at hf;split at hf
 .rename_i xs gd M1 e1;refine ⟨L,σ,M,_,_,_,c,rs,e1,λL1 H1 J s1 c1 it=>?_⟩
  refine ⟨λi m τ' H'=>m=xs.length-i/\i<=xs.length /\ ∃ L' σ' M',Stp L1 H1 L' H'/\Cor K L' M' H'/\zBG L' H' σ' τ'/\zCV fg b xs gd (xs.drop i) σ' M'=some (o,σf,Mf),
   ⟨xs.length,by simp,zWA _,L1,σ,M1,.refl _ _,c1,rs.stp s1,by simpa using hf⟩,?_⟩
  rintro i m τ' H' ⟨rfl,hi,L',σ',M',s',c',rs',e'⟩;by_cases hlt:i<xs.length
  .rw[zB4 hlt]at e';unfold zCV at e';split at e'
   .rename_i hgd;obtain ⟨step,_⟩:=it L' H' M' s' c' hgd;obtain ⟨go,yl⟩:=step i xs[i] (zVS hlt);cases eg:fg xs[i] σ' with
    |none=>rw[eg]at e';cases e'
    |some σ1=>
     rw[eg]at e';dsimp only at e';refine .inr ⟨go,λτ2 H2=>∃ L2 σ2 M2,Stp L1 H1 L2 H2/\Cor K L2 M2 H2/\zBG L2 H2 σ2 τ2/\zCV fg b xs gd (xs.drop (i+1)) σ2 M2=some (o,σf,Mf),λτ2 H2 ⟨L2,σ2,M2,a1,a2,a3,a4⟩=>⟨xs.length-(i+1),by omega,rfl,hlt,L2,σ2,M2,a1,a2,a3,a4⟩,λv H2 hy=>?_⟩;obtain ⟨gr,rv⟩:=yl v H2 hy;refine hg (zBG.stp (.grow gr) rs') rv eg λτ2 r2=>?_;cases eb:b σ1 M' with
     |none=>rw[eb]at e';cases e'
     |some r=>
      obtain ⟨o2,σ2,M2⟩:=r;rw[eb]at e';refine ⟨L',σ1,M',_,_,_,c'.grow gr,r2,eb,λL3 H3 s3 c3=>?_⟩;have s13:Stp L1 H1 L3 H3:=(s'.yld gr).trans s3;cases o2 with
      |nx=>exact λτ3 r3=>⟨L3,σ2,M2,s13,c3,r3,e'⟩
      |cnt=>exact λτ3 r3=>⟨L3,σ2,M2,s13,c3,r3,e'⟩
      |brk=>cases e';exact q L3 H3 (s1.trans s13) c3
      |ret d=>cases e';exact q L3 H3 (s1.trans s13) c3
   .cases e'
  .have hi':i=xs.length:=by omega
   subst hi';rw[List.drop_length]at e';unfold zCV at e';split at e'
   .rename_i hgd;cases e';obtain ⟨_,stop⟩:=it L' H' _ s' c' hgd;exact .inl ⟨stop,q L' H' (s1.trans s') c' τ' rs'⟩
   .cases e'
 .cases hf
theorem zRu (hg:GOk g fg) (hp:PassesOwn (model X.prog X.w) X.A X.env X.xe) (hc:X.calm=true) (hi:QI X tg iter fi) (ht:PG X tg g) (hb:QSs X body b)
  (hs:∀ x,foldedSetIterable iter X.env x=pure x:=by intro _;rfl):QS X (.For tg iter body [] pos) (zCM fi fg b):=.mk <| PS.imp (zTK hp hc hi.un ht hb.un hs) λ_ _ _ h=>zOm hg h
end
section
def zAv (c:FT) (b:FS):Nat->Sd->Mem->Option (Out × Sd × Mem)
 |0,_,_=>none
 |n+1,σ,M=>match c σ M with
  |some (true,M1)=>match b σ M1 with
   |some (.nx,σ2,M2)=>zAv c b n σ2 M2
   |some (.cnt,σ2,M2)=>zAv c b n σ2 M2
   |some (.brk,σ2,M2)=>some (.nx,σ2,M2)
   |some (.ret d,σ2,M2)=>some (.ret d,σ2,M2)
   |none=>none
  |some (false,M1)=>some (.nx,σ,M1)
  |none=>none
theorem zKa {K:Yb} {fc:FT} {b:FS} {n:Nat} {E:Ends} {τ:Sv} {H:Hp} (h:trS K (zAv fc b n) E τ H):zOJ (trT K fc) (trS K b) E τ H:=by
 obtain ⟨L,σ,M,o,σf,Mf,c,rs,hf,q⟩:=h;refine ⟨λm τ' H'=>∃ L' σ' M',Stp L H L' H'/\Cor K L' M' H'/\zBG L' H' σ' τ'/\zAv fc b m σ' M'=some (o,σf,Mf),⟨n,L,σ,M,.refl _ _,c,rs,hf⟩,?_⟩;rintro m τ' H' ⟨L',σ',M',s',c',rs',e'⟩;cases m with
 |zero=>unfold zAv at e';cases e'
 |succ m=>
  unfold zAv at e';split at e'
  .rename_i M1 e1;refine ⟨L',σ',M',_,_,c',rs',e1,λL1 H1 s1 c1=>zHC ?_⟩;refine ⟨λτ2 H2=>∃ L2 σ2 M2,Stp L H L2 H2/\Cor K L2 M2 H2/\zBG L2 H2 σ2 τ2/\zAv fc b m σ2 M2=some (o,σf,Mf),λτ2 H2 h2=>⟨m,zWL m,h2⟩,?_⟩;cases eb:b σ' M1 with
   |none=>rw[eb]at e';cases e'
   |some r=>
    obtain ⟨o2,σ2,M2⟩:=r;rw[eb]at e';refine ⟨L1,σ',M1,_,_,_,c1,rs'.stp s1,eb,λL3 H3 s3 c3=>?_⟩;have s13:Stp L H L3 H3:=(s'.trans s1).trans s3;cases o2 with
    |nx=>exact λτ3 r3=>⟨L3,σ2,M2,s13,c3,r3,e'⟩
    |cnt=>exact λτ3 r3=>⟨L3,σ2,M2,s13,c3,r3,e'⟩
    |brk=>cases e';exact q L3 H3 s13 c3
    |ret d=>cases e';exact q L3 H3 s13 c3
  .rename_i M1 e1;cases e';exact ⟨L',_,M',_,_,c',rs',e1,λL1 H1 s1 c1=>zGv (q L1 H1 (s'.trans s1) c1 τ' (rs'.stp s1))⟩
  .cases e'
theorem zRd (n:Nat) (hp:PassesOwn (model X.prog X.w) X.A X.env X.xe) (hc:QT X c fc) (hb:QSs X body b):QS X (.While c body [] pos) (zAv fc b n) :=
 .mk <| PS.imp (zPR hp hc.un hb.un) λ_ _ _ h=>zKa h
def zA2 (own:Yj) (σ:Sd):Sd:=own.foldl (λσ i=>σ.set i none) σ
theorem zDq:∀ (own:Yj) {σ:Sd} {τ:Sv},zBG L H σ τ->zBG L H (zA2 own σ) (clr own τ)
 |[],_,_,h=>h
 |i::r,σ,τ,h=>by
  refine zDq r (σ:=σ.set i none) (τ:=τ.set i none) ⟨by simp[h.1],λj d q=>?_⟩;rw[zWx]at q ⊢;split at q
  .split at q <;> cases q
  .rename_i z;rw[zVg z];exact h.2 j d q
def zAk (g:FG) (tc:FT) (te:FE) (σ:Sd) (all:List D) (gd:Option (Mem->Prop)):List D->Mem->Option (List D × Mem)
 |[],M=>open Classical in if zAo gd all M then some ([],M) else none
 |x::r,M=>open Classical in if zAo gd all M then match g x σ with
   |some σ1=>match tc σ1 M with
    |some (true,M1)=>match toD te σ1 M1 with
     |some (d,M2)=>match zAk g tc te σ all gd r M2 with
      |some (ds,M3)=>some (d::ds,M3)
      |none=>none
     |none=>none
    |some (false,M1)=>zAk g tc te σ all gd r M1
    |none=>none
   |none=>none
  else none
def zi (own:Yj) (fi:FI) (g:FG) (tc:FT) (te:FE):FE:=λσ M=>match fi σ M with
 |some (xs,gd,M1)=>if xs.length<=sizeLine then match zAk g tc te (zA2 own σ) xs gd xs M1 with
   |some (ys,M2)=>some (.fl ys,M2)
   |none=>none
  else none
 |none=>none
def zEL (own:Yj) (g:TG) (fg:FG):Prop:=∀ {L:Yg} {H:Hp} {σ σ':Sd} {τ τ0:Sv} {d:D} {v:V} {Q:Sv->Hp->Prop},zBG L H σ τ->Ext (clr own τ0) τ->Rep L H d v->fg d σ=some σ'->(∀ τ',zBG L H σ' τ'->Ext (clr own τ0) τ'->Q τ' H)->g v τ H Q
theorem zA9 (hi:i∈own):zEL own (zBS i) (gN i):=by
 intro L H σ σ' τ τ0 d v Q rs ex r hf q;unfold gN at hf;cases hf;exact q _ (rs.set r) (ex.set hi)
theorem zHr {K:Yb} {own:Yj} {fi:FI} {g:TG} {fg:FG} {tc:FT} {te:FE} (hg:zEL own g fg) {τ:Sv} {H:Hp} {Q:VK} (h:trE K (zi own fi fg tc te) τ H Q):zOd own (trI K fi) g (trT K tc) (trD K (toD te)) τ H Q:=by
 obtain ⟨L,σ,M,d,Mf,c,rs,hf,q⟩:=h;unfold zi at hf;split at hf
 .rename_i xs gd M1 e1;split at hf
  .rename_i hz;split at hf
   .rename_i zs M2 e2;cases hf;refine ⟨L,σ,M,_,_,_,c,rs,e1,λL1 H1 J s1 c1 it=>?_⟩
    refine ⟨λi m ys H'=>m=xs.length-i/\i<=xs.length /\ ∃ L' M' as bs,Stp L1 H1 L' H'/\Cor K L' M' H'/\zL L' H' as ys/\as.length<=i/\zAk fg tc te (zA2 own σ) xs gd (xs.drop i) M'=some (bs,Mf)/\as++bs=zs,
     ⟨xs.length,by simp,zWA _,L1,M1,[],zs,.refl _ _,c1,.nil,zVU _,by simpa using e2,rfl⟩,?_⟩
    rintro i m ys H' ⟨rfl,hi,L',M',as,bs,s',c',r',hl,e',hab⟩;have hys:ys.length<=i:=by rw[r'.length];exact hl
    by_cases hlt:i<xs.length
    .rw[zB4 hlt]at e';unfold zAk at e';split at e'
     .rename_i hgd;obtain ⟨step,_⟩:=it L' H' M' s' c' hgd;obtain ⟨go,yl⟩:=step i xs[i] (zVS hlt);split at e'
      .rename_i σ1 eg;refine .inr ⟨go,λv H2 hy=>?_⟩;obtain ⟨gr,rv⟩:=yl v H2 hy;have s2:Stp L1 H1 L' H2:=s'.yld gr;refine hg (zDq own ((rs.stp s1).stp s2)) (.refl _) rv eg λτ2 r2 x2=>⟨x2,?_⟩;split at e'
       .rename_i M3 e3;split at e'
        .rename_i d M4 e4;split at e'
         .rename_i ds M5 e5;cases e';refine ⟨L',σ1,M',_,_,c'.grow gr,r2,e3,λL3 H3 s3 c3=>zHC ?_⟩;refine ⟨L3,σ1,M3,_,_,c3,r2.stp s3,e4,λL4 H4 w s4 c4 r4=>?_⟩;have st:Stp L' H' L4 H4:=((Stp.grow gr).trans s3).trans s4;refine ⟨Nat.lt_of_le_of_lt hys (zVn hlt hz),xs.length-(i+1),by omega,rfl,hlt,L4,M4,as++[d],ds,s'.trans st,c4,(r'.stp st).app (.cons r4 .nil),by simp;omega,e5,by rw[<-hab];simp⟩
         .cases e'
        .cases e'
       .rename_i M3 e3;refine ⟨L',σ1,M',_,_,c'.grow gr,r2,e3,λL3 H3 s3 c3=>zGv ?_⟩;have st:Stp L' H' L3 H3:=(Stp.grow gr).trans s3;exact ⟨xs.length-(i+1),by omega,rfl,hlt,L3,M3,as,bs,s'.trans st,c3,r'.stp st,by omega,e',hab⟩
       .cases e'
      .cases e'
     .cases e'
    .have hi':i=xs.length:=by omega
     subst hi';rw[List.drop_length]at e';unfold zAk at e';split at e'
     .rename_i hgd;cases e';obtain ⟨_,stop⟩:=it L' H' _ s' c' hgd;refine .inl ⟨stop,zVp hys hz,λp hp=>?_⟩;rw[zV8]at hab;subst hab;exact q L' _ _ ((s1.trans s').trans (.upd hp)) (c'.upd hp) (zf.newLst (s1.trans s') c c' hp r')
     .cases e'
   .cases hf
  .cases hf
 .cases hf
structure QIfs (X:Cx) (ifs:Yi) (f:FT):Prop where
 un:zFR X ifs (trT X.K f)
def ze:FT:=λ_ M=>some (true,M)
theorem zSM:QIfs X [] ze:=.mk λzB s σ H Q I h=>by
 obtain ⟨L,σ',M,d,M',c,rs,hf,q⟩:=h;unfold ze at hf;cases hf;exact zPC zB s σ H Q I (q L H (.refl L H) c)
theorem zRy (h:QT X c f):QIfs X [c] f:=.mk (zNq h.un)
structure QParts (X:Cx) (scope:Y0) (tg:Expr) (ifs:Yi) (elt:Expr) (g:TG) (tc:FT) (te:FE):Prop where
 g:∀ zB cl s H fp,PG (zH X zB scope cl s H fp) tg g
 c:∀ zB cl s H fp,QIfs (zH X zB scope cl s H fp) ifs tc
 e:∀ zB cl s H fp,QE (zH X zB scope cl s H fp) elt te
theorem QParts.parts {g:TG} {tc:FT} {te:FE} (p:QParts X scope tg ifs elt g tc te):CompParts X scope tg ifs elt g (trT X.K tc) (trD X.K (toD te)) :=
 ⟨p.g,λzB cl s H fp=>(p.c zB cl s H fp).un,λzB cl s H fp=>(zBx (p.e zB cl s H fp)).un⟩
theorem zH6 (hg:zEL own g fg) (C:CompIn X scope own) (hcalm:X.calm=true) (hi:QI X tg iter fi) (p:QParts X scope tg ifs elt g tc te) (hs:∀ x,foldedSetIterable iter X.env x=pure x:=by intro _;rfl) :
  QE X (.ListComp elt [⟨tg,iter,ifs,0⟩] scope pos) (zi own fi fg tc te):=.mk <| PE.imp (zRI C hcalm hi.un p.parts hs) λ_ _ _ h=>zHr hg h
theorem zMr (hN:X.N.Nodup) (hi':X.N[i]?=some x) (hx:Loc X.env.scope x) (hfn:X.fn x=true\/X.env.scope.names.lookup x=some .local)
  (hsw:swapsWith (.ListComp elt [⟨tg,iter,ifs,0⟩] scope pos) (some (.Name x pos')) pos''.line X.env=pure true)
  (hg:zEL own g fg) (C:CompIn X scope own) (hcalm:X.calm=true) (hi:QI X tg iter fi) (p:QParts X scope tg ifs elt g tc te) (hs:∀ x,foldedSetIterable iter X.env x=pure x:=by intro _;rfl) :
  QS X (.Assign [.Name x pos'] (.ListComp elt [⟨tg,iter,ifs,0⟩] scope pos) pos'') (zh i (zi own fi fg tc te)) :=
 .mk <| PS.imp (zLT hN hi' hx hfn C hcalm hi.un p.parts hsw hs) λ_ _ _ z=>zF7 (λ_ _ _ z=>zHr hg z) z
end
abbrev FF:=List D->Mem->Option (D × Mem)
def spF (K:Yb) (n:Nat) (g:FF):Sp:=λvs H Q _=>∃ L ds M d M',Cor K L M H/\zL L H ds vs/\ds.length=n/\g ds M=some (d,M') /\ ∀ L' H' v,Stp L H L' H'->Cor K L' M' H'->Rep L' H' d v->Q v H'
def zP (g:FF) (fa:FA):FE:=λσ M=>match fa σ M with
 |some (ds,M1)=>match g ds M1 with
  |some (d,M2)=>some (.dat d,M2)
  |none=>none
 |none=>none
section
theorem zST (F:FnOk X.prog X.w X.K X.mg X.base CX0 k f fd ps (spF X.K (e::es).length g)) (hr:Room k X.A) (hg:Gl X x) (hm:X.mg x=some (.ref f)) (hk:PySem.W.keepIn X.K (.ref f)=true) (hb:zF1 X.K fd ps [])
  (ha:QA X (e::es) fa) (hl:∀ σ M ds M1,fa σ M=some (ds,M1)->ds.length=(e::es).length) (hdb:(x==("__debug__" : Str))=false:=by decide) (he:starEach (e::es) X.env=(false,eval e X.env)::starEach es X.env:=by rfl) (hpl:(backTo pos (starEach es X.env)).any (·.1)=false:=by rfl) :
  QE X (.Call (.Name x p) (e::es) [] pos) (zP g fa) :=
 .mk <| PE.imp (zQK F hr hg hm hk hb .nil zTp ha.un hdb he hpl) λτ H Q zz=>by
  obtain ⟨L,σ,M,d,M',c,rs,hf,q⟩:=zz;unfold zP at hf;split at hf
  .rename_i ds M1 e1;split at hf
   .rename_i d' M2 e2;cases hf;refine ⟨L,σ,M,_,_,c,rs,e1,λL1 H1 vs s1 c1 r1=>?_⟩;dsimp only;rw[zV8];exact ⟨L1,ds,M1,d',_,c1,r1,hl _ _ _ _ e1,e2,λL2 H2 v s2 c2 r2=>q L2 H2 v (s1.trans s2) c2 r2⟩
   .cases hf
  .cases hf
def zQl (fa:FA) (n:Nat):Prop:=∀ σ M ds M1,fa σ M=some (ds,M1)->ds.length=n
theorem zPY:zQl zG 0:=λσ M ds M1 h=>by unfold zG at h;cases h;rfl
theorem zNK {f:FD} {g:FA} {n:Nat} (h:zQl g n):zQl (zD f g) (n+1):=λσ M ds M1 q=>by
 unfold zD at q;split at q
 .split at q
  .rename_i e2;cases q;simp[h _ _ _ _ e2]
  .cases q
 .cases q
def zBH (n:Nat) (b:FS):FF:=λds M=>match b (ds.map some++List.replicate (n-ds.length) none) M with
 |some (.ret d,_,M')=>some (d,M')
 |some (.nx,_,M')=>some (.non,M')
 |_=>none
theorem zHL:∀ {ds:List D} {vs:List V},zL L H ds vs->zBG L H (ds.map some++List.replicate (N.length-ds.length) none) (L2.start N vs):=λ{ds vs} r=>by
 unfold L2.start;have hl:=r.length;refine ⟨by simp[hl],λi d q=>?_⟩;by_cases hi:i<ds.length
 .rw[zVV (by simpa using hi),zVl]at q;rw[zVV (by simpa [hl] using hi),zVl];cases e1:ds[i]? with
  |none=>rw[e1]at q;cases q
  |some d'=>
   rw[e1]at q;cases q;obtain ⟨v,e2,r2⟩:=r.get e1;exact ⟨v,by rw[e2];rfl,r2⟩
 .rw[zWY (by simpa using hi),List.getElem?_replicate]at q;split at q <;> cases q
theorem zAL {P:Ym} {w:Yo} {K:Yb} {mg:Yh} {base:Heap} {qual:Str} {st:Stmt} {N:Yk} {b:FS} {n:Nat} (F:Fun K x qual st f fd) (S:FnScope N ps (zR st)) (hn:ps.length=n)
  (hb:∀ (cdv:Yu) (A:Yn) (outer:List Env) (s:Yl) (H:Hp) (E:XK),Room k (A.deeper (envOfC qual (zR st) s.heap.objs.size f cdv))->QSs (zLe CX0 P w K mg base N qual (zR st) f cdv A outer s H E).nox (zCQ st) b) :
  FnOk P w K mg base CX0 (k+1) f fd ps (spF K n (zBH N.length b)):=by
 refine F.ok S (λvs H Q E h=>?_) (λcdv A outer s H vs Q E hr h=>⟨_,(hb cdv A outer s H E hr).un,?_⟩)
 .obtain ⟨L,ds,M,d,M',c,r,hl,_⟩:=h;rw[r.length,hl,hn]
 .obtain ⟨L,ds,M,d,M',c,r,hl,hf,q⟩:=h;unfold zBH at hf;split at hf
  .rename_i d' σ' M1 e1;cases hf;exact ⟨L,_,M,_,_,_,c,zHL r,e1,λL1 H1 s1 c1 v r1=>q L1 H1 v s1 c1 r1⟩
  .rename_i σ' M1 e1;cases hf;exact ⟨L,_,M,_,_,_,c,zHL r,e1,λL1 H1 s1 c1 τ' r1=>q L1 H1 .non s1 c1 (by unfold Rep;rfl)⟩
  .cases hf
mutual
def D.und (n:Nat):D->Bool
 |.tup ds=>D.unds n ds
 |.ref k=>decide (k<n)
 |_=>true
def D.unds (n:Nat):List D->Bool
 |[]=>true
 |d::ds=>D.und n d&&D.unds n ds
end
mutual
theorem Rep.less:∀ {d:D} {v:V},D.und L.length d=true->Rep (L++N) H d v->Rep L H d v
 |.non,_,_,h=>by unfold Rep at h ⊢;exact h
 |.bl _,_,_,h=>by unfold Rep at h ⊢;exact h
 |.int _,_,_,h=>by unfold Rep at h ⊢;exact h
 |.str _,_,_,h=>by unfold Rep at h ⊢;exact h
 |.tup ds,_,hb,h=>by
  unfold D.und at hb;unfold Rep at h ⊢;obtain ⟨a,vs,rfl,e,r⟩:=h;exact ⟨a,vs,rfl,e,zL.less hb r⟩
 |.ref n,_,hb,h=>by
  unfold D.und at hb;unfold Rep at h ⊢;obtain ⟨a,rfl,e⟩:=h;exact ⟨a,rfl,by rwa [zVV (zWK hb)]at e⟩
theorem zL.less:∀ {ds:List D} {vs:List V},D.unds L.length ds=true->zL (L++N) H ds vs->zL L H ds vs
 |[],_,_,h=>by unfold zL at h ⊢;exact h
 |d::ds,_,hb,h=>by
  unfold D.unds at hb;rw[zVy]at hb;unfold zL at h ⊢;obtain ⟨v,r,rfl,h1,h2⟩:=h;exact ⟨v,r,rfl,Rep.less hb.1 h1,zL.less hb.2 h2⟩
end
theorem zAn.less {κ:Type} {kf:D->Option κ} {L N:Yg} {H:Hp}:∀ {ps:List (D × D)} {vs:List (κ × V)},(ps.all λp=>D.und L.length p.1&&D.und L.length p.2)=true->zAn kf (L++N) H ps vs->zAn kf L H ps vs
 |[],_,_,h=>h
 |p::r,_,hb,h=>by
  rw[List.all_cons,zVy,zVy]at hb;obtain ⟨k,v,r',rfl,e,h1,h2⟩:=h;exact ⟨k,v,r',rfl,e,Rep.less hb.1.2 h1,zAn.less hb.2 h2⟩
def MO.und (n:Nat):MO->Bool
 |.lst xs=>D.unds n xs
 |.fro xs=>D.unds n xs
 |.dict kvs=>kvs.all λp=>D.und n p.1&&D.und n p.2
 |.dicT kvs=>kvs.all λp=>D.und n p.1&&D.und n p.2
 |.set xs=>D.unds n xs
 |.froT kvs=>kvs.all λp=>D.und n p.1&&D.und n p.2
 |.froK kvs=>kvs.all λp=>D.und n p.1&&D.und n p.2
def zJ3 (g:FF):FF:=λds M=>match g ds M with
 |some (d,M')=>if D.und M.length d&&(M'.take M.length).all (MO.und M.length)&&decide (M.length<=M'.length) then some (d,M'.take M.length) else none
 |none=>none
theorem zQG {P:Ym} {w:Yo} {K:Yb} {mg:Yh} {base:Heap} {n:Nat} {g:FF} (h:FnOk P w K mg base CX0 k f fd ps (spF K n g)):FnOk P w K mg base CX0 k f fd ps (spF K n (zJ3 g)) :=
 h.imp λvs H Q E ⟨L,ds,M,d,M',c,r,hl,hf,q⟩=>by
  unfold zJ3 at hf;split at hf
  .rename_i d' M1 e1;split at hf
   .rename_i hb;cases hf;simp only[zVy,zWb,zVz]at hb;obtain ⟨⟨hb1,hb2⟩,hb3⟩:=hb;refine ⟨L,ds,M,_,_,c,r,hl,e1,λL1 H1 v s1 c1 r1=>?_⟩;obtain ⟨N,rfl⟩:=s1.pre;rw[<-c.len]at hb1 hb2 hb3;refine q L H1 v ⟨⟨[],by simp⟩,λa ha=> .inl ha,s1.old,s1.tup,s1.frz⟩ ⟨?_,?_,λi a m e2 e3=>?_⟩ (Rep.less hb1 r1)
    .rw[zWm,<-c.len];omega
    .exact (zWc.mp c1.nd).1
    .rw[<-c.len]at e3;have hi:i<L.length:=(zVR.mp e2).1;have hm:m∈M1.take L.length:=List.mem_of_getElem? e3;rw[List.getElem?_take_of_lt hi]at e3;have z:=c1.obj i a m (zBg e2) e3;have bl:=hb2 m hm;cases m with
     |lst xs=>obtain ⟨ws,e4,r4⟩:=z;exact ⟨ws,e4,zL.less bl r4⟩
     |fro xs=>obtain ⟨o,ws,e4,r4⟩:=z;exact ⟨o,ws,e4,zL.less bl r4⟩
     |dict ps=>obtain ⟨vs,e,r⟩:=z;exact ⟨vs,e,zAn.less bl r⟩
     |dicT ps=>obtain ⟨vs,e,r⟩:=z;exact ⟨vs,e,zAn.less bl r⟩
     |set _=>exact z
     |froT ps=>obtain ⟨o,vs,e,r⟩:=z;exact ⟨o,vs,e,zAn.less bl r⟩
     |froK ps=>obtain ⟨o,vs,e,r⟩:=z;exact ⟨o,vs,e,zAn.less bl r⟩
   .cases hf
  .cases hf
def zDX (g:FF):FF:=λds M=>if D.unds 0 ds then match g ds [] with
  |some (d,_)=>if D.und 0 d then some (d,M) else none
  |none=>none
 else none
theorem zDC {P:Ym} {w:Yo} {K:Yb} {mg:Yh} {base:Heap} {n:Nat} {g:FF} (h:FnOk P w K mg base CX0 k f fd ps (spF K n g)):FnOk P w K mg base CX0 k f fd ps (spF K n (zDX g)) :=
 h.imp λvs H Q E ⟨L,ds,M,d,M',c,r,hl,hf,q⟩=>by
  unfold zDX at hf;split at hf
  .rename_i hb0;split at hf
   .rename_i d' M1 e1;split at hf
    .rename_i hb;cases hf;refine ⟨[],ds,[],_,_,⟨rfl,.nil,λi a m e=>by simp at e⟩,zL.less (L:=[]) (N:=L) hb0 (by simpa using r),hl,e1,λL1 H1 v s1 c1 r1=>?_⟩;have gr:∀ a o,H a=some o->H1 a=some o:=λa o e=>s1.old a o e (by simp);exact q L H1 v (.grow gr) (c.grow gr) ((Rep.less (L:=[]) (N:=L1) hb (by simpa using r1)).more L |> λz=>by simpa using z)
    .cases hf
   .cases hf
  .cases hf
theorem zR0 (hl:PE X l tl):PI X tg l (λσ H R=>tl σ H λx H1=>∃ a,x=.ref a/\((∃ xs,SqL X.K H1 a xs)/\R (Itl X.K a) H1\/(∃ xs,SqT X.K H1 a xs)/\R (Itt X.K a) H1)):=by
 intro zB s σ H R I h;refine thn (hl zB s σ H _ I h) λv s1 ⟨y,H1,I1,r1,a,hy,h1⟩=>?_;subst hy;cases r1;have fpk:∀ b∈[s1.heap.objs.size],zBr X zB H1 b:=λb hb=>by
  have e:b=s1.heap.objs.size:=by simpa using hb
  subst e;exact I1.fpOk (zVU _) (I1.hok.fresh (zVU _))
 rcases h1 with ⟨⟨xs,hq⟩,q⟩|⟨⟨xs,hq⟩,q⟩
 .obtain ⟨its,rv,pl,hz⟩:=I1.list hq;exact wpAny_pyIter_list pl.isList ⟨s1.heap.objs.size,[s1.heap.objs.size],_,_,H1,rfl,I1.kept (t':=s1.toks) λb o e=>zVP _ e,zMZ a _,⟨_,zVY _ rfl,rfl,rfl⟩,fpk,q⟩
 .obtain ⟨its,rv,pl,hz⟩:=I1.tuple hq;exact wpAny_pyIter_tuple (show s1.heap.IsTuple a its.toArray from pl) ⟨s1.heap.objs.size,[s1.heap.objs.size],_,_,H1,rfl,I1.kept (t':=s1.toks) λb o e=>zVP _ e,zLA a _,⟨_,zVY _ rfl,rfl,rfl⟩,fpk,q⟩
def zDn (x:EV) (xs:List D):Option (Mem->Prop):=match x with
 |.dat (.ref n)=>some λM=>M[n]?=some (.lst xs)\/M[n]?=some (.fro xs)
 |_=>none
def zv (f:FE):FI:=λσ M=>match f σ M with
 |some (x,M1)=>match zAQ M1 x with
  |some xs=>some (xs,zDn x xs,M1)
  |none=>none
 |none=>none
def zy (f:FA):FI:=λσ M=>match f σ M with
 |some ([.int j],M1)=>if -(2 ^ 62)<=j/\j<2 ^ 62 then some ((List.range j.toNat).map λ(k:Nat)=>D.int k,none,M1) else none
 |some ([.int i,.int j],M1)=>if -(2 ^ 62)<=i/\i<2 ^ 62 /\ -(2 ^ 62)<=j/\j<2 ^ 62 then some ((List.range (j-i).toNat).map λ(k:Nat)=>D.int (i+k),none,M1) else none
 |_=>none
theorem zSb (h:QE X e g):QI X tg e (zv g):=.mk <| PI.imp (zR0 h.un) λτ H R zz=>by
 obtain ⟨L,σ,M,xs,gd,M',c,rs,hf,q⟩:=zz;unfold zv at hf;split at hf
 .rename_i y M1 e1;split at hf
  .rename_i zs e2;cases hf;refine ⟨L,σ,M,_,_,c,rs,e1,λL1 H1 v s1 c1 r1=>?_⟩;unfold zAQ at e2;cases t:zDK y with
   |some ws=>
    rw[t]at e2;cases e2;obtain ⟨a,vs,rfl,e3,r3⟩:=zB1 r1 t;refine ⟨a,rfl,.inr ⟨⟨vs,.of e3⟩,q L1 H1 _ s1 c1 λL2 H2 M2 s2 c2 _=>?_⟩⟩;have e4:=s2.tup a vs e3;have r4:=r3.stp s2;refine ⟨λi d hd=>?_,⟨vs,.of e4,by rw[r4.length];exact zVU _⟩⟩;obtain ⟨u,hu,ru⟩:=r4.get hd;refine ⟨⟨vs,u,.of e4,hu⟩,λv H3 ⟨hH,hv⟩=>?_⟩;subst hH;have:=hv vs (.of e4);rw[hu]at this;cases this;exact ⟨λ_ _ z=>z,ru⟩
   |none=>
    rw[t]at e2;obtain ⟨a,vs,rfl,e3,r3⟩:=zAw c1 r1 e2;refine ⟨a,rfl,.inl ⟨⟨vs,.inl e3⟩,q L1 H1 _ s1 c1 λL2 H2 M2 s2 c2 hgd=>?_⟩⟩;have key:∃ vs',SqL X.K H2 a vs'/\zL L2 H2 xs vs':=by
     cases y with
     |fl ys=>
      cases e2;obtain ⟨p',vs',hp',_,e5,e6,r6⟩:=r1;cases hp';exact ⟨vs',.of (s2.old _ _ e5 e6),r6.stp s2⟩
     |dat d=>
      cases d with
      |ref n=>
       unfold zf Rep at r1;obtain ⟨a',ha',e5⟩:=r1;cases ha';have e6:L2[n]?=some a:=by obtain ⟨N,hN⟩:=s2.pre;rw[hN];exact zBg e5
       rcases hgd with z|z
       .obtain ⟨vs',e7,r7⟩:=c2.obj n a _ e6 z;exact ⟨vs',.of e7,r7⟩
       .obtain ⟨o,vs',e7,r7⟩:=c2.obj n a _ e6 z;exact ⟨vs',.inl (.inr ⟨o,e7⟩),r7⟩
      |_=>cases e2
    obtain ⟨vs',hq,r7⟩:=key;refine ⟨λi d hd=>?_,⟨vs',hq,by rw[r7.length];exact zVU _⟩⟩;obtain ⟨u,hu,ru⟩:=r7.get hd;refine ⟨⟨vs',u,hq,hu⟩,λv H3 ⟨hH,hv⟩=>?_⟩;subst hH;have:=hv vs' hq;rw[hu]at this;cases this;exact ⟨λ_ _ z=>z,ru⟩
  .cases hf
 .cases hf
theorem zE7 (h:zL L H [.int j] vs):vs=[.int j]:=by
 unfold zL at h;obtain ⟨v,r,rfl,h1,h2⟩:=h;unfold zL at h2;unfold Rep at h1;subst h1 h2;rfl
theorem zPd {K:Yb} {L:Yg} {H:Hp} {lo:Int} {n:Nat}:zTx K (Itr lo n) L H ((List.range n).map λ(k:Nat)=>D.int (lo+k)) none:=by
 intro L' H' M' s c _;refine ⟨λi d hd=>?_,by simp[Itr]⟩;rw[zVl]at hd;cases q:(List.range n)[i]? with
 |none=>rw[q]at hd;cases hd
 |some k=>
  rw[q]at hd;cases hd;have hi:i<n:=by have:=(zVR.mp q).1;simpa using this
  rw[List.getElem?_range hi]at q;cases q;refine ⟨hi,λv H'' ⟨hH,hv⟩=>?_⟩;subst hH hv;exact ⟨λ_ _ z=>z,zAF⟩
theorem zMo {tg a:Expr} {g:FA} (hg:Gl X "range") (hm:X.mg "range" = none) (ha:QA X [a] g) (hl:zQl g 1) (hs:starEach [a] X.env=[(false,eval a X.env)]:=by rfl):QI X tg (.Call (.Name "range" p) [a] [] pos) (zy g) :=
 .mk <| PI.imp (zNR hg hm ha.un hs) λτ H R zz=>by
  obtain ⟨L,σ,M,xs,gd,M',c,rs,hf,q⟩:=zz;unfold zy at hf;split at hf
  .rename_i j M1 e1;split at hf
   .rename_i hb;cases hf;refine ⟨L,σ,M,_,_,c,rs,e1,λL1 H1 vs s1 c1 r1=>⟨j,zE7 r1,hb.1,hb.2,q L1 H1 _ s1 c1 ?_⟩⟩;have z:=zPd (K:=X.K) (L:=L1) (H:=H1) (lo:=0) (n:=j.toNat);simpa using z
   .cases hf
  .rename_i e1;have:=hl _ _ _ _ e1;simp at this
  .cases hf
end
section
variable {es rest:Yi}
def zBO (f g:FT):FT:=λσ M=>match f σ M with
 |some (true,M1)=>g σ M1
 |r=>r
def zIg (f g:FT):FT:=λσ M=>match f σ M with
 |some (false,M1)=>g σ M1
 |r=>r
structure QW (X:Cx) (e:Expr) (f:FT):Prop where
 un:PW X e (trT X.K f)
theorem PW.imp (h:PW X e t) (hi:∀ τ H Q,t' τ H Q->t τ H Q):PW X e t':=λwh zB s σ H Q I q=>h wh zB s σ H Q I (hi _ _ _ q)
theorem zRK (h:QT X a f):QW X (.BoolOp .And [a] pos) f:=.mk (zQL h.un)
theorem zS8 (h:QT X a f):QW X (.BoolOp .Or [a] pos) f:=.mk (zSc h.un)
theorem zTM (h1:QT X a f) (h2:QW X (.BoolOp .And (b::rest) pos) g):QW X (.BoolOp .And (a::b::rest) pos) (zBO f g):=.mk <| PW.imp (zSu h1.un h2.un) λτ H Q zz=>by
 obtain ⟨L,σ,M,d,M',c,rs,hf,q⟩:=zz;unfold zBO at hf;split at hf
 .rename_i M1 e1;exact ⟨L,σ,M,_,_,c,rs,e1,λL1 H1 s1 c1=>zHC ⟨L1,σ,M1,_,_,c1,rs.stp s1,hf,λL2 H2 s2 c2=>q L2 H2 (s1.trans s2) c2⟩⟩
 .rename_i hne;cases d with
  |true=>exact absurd hf (hne M')
  |false=>exact ⟨L,σ,M,_,_,c,rs,hf,λL1 H1 s1 c1=>zGv (q L1 H1 s1 c1)⟩
theorem zTn (h1:QT X a f) (h2:QW X (.BoolOp .Or (b::rest) pos) g):QW X (.BoolOp .Or (a::b::rest) pos) (zIg f g):=.mk <| PW.imp (zUW h1.un h2.un) λτ H Q zz=>by
 obtain ⟨L,σ,M,d,M',c,rs,hf,q⟩:=zz;unfold zIg at hf;split at hf
 .rename_i M1 e1;exact ⟨L,σ,M,_,_,c,rs,e1,λL1 H1 s1 c1=>zGv ⟨L1,σ,M1,_,_,c1,rs.stp s1,hf,λL2 H2 s2 c2=>q L2 H2 (s1.trans s2) c2⟩⟩
 .rename_i hne;cases d with
  |false=>exact absurd hf (hne M')
  |true=>exact ⟨L,σ,M,_,_,c,rs,hf,λL1 H1 s1 c1=>zHC (q L1 H1 s1 c1)⟩
theorem zUT (h:QW X e f):QT X e f:=.mk (PW.pt h.un)
theorem zNP (h:zf H0 L H (.dat (.bl k)) v):v=.bl k:=by unfold zf Rep at h;exact h
def vIf (t:FT) (f g:FE):FE:=λσ M=>match t σ M with
 |some (true,M1)=>f σ M1
 |some (false,M1)=>g σ M1
 |none=>none
theorem zQr (hc:QT X c t) (h1:QE X a f) (h2:QE X b g):QE X (.IfExp c a b pos) (vIf t f g):=.mk <| PE.imp (zPz hc.un h1.un h2.un) λτ H Q zz=>by
 obtain ⟨L,σ,M,d,M',c,rs,hf,q⟩:=zz;unfold vIf at hf;split at hf
 .rename_i M1 e1;exact ⟨L,σ,M,_,_,c,rs,e1,λL1 H1 s1 c1=>zHC ⟨L1,σ,M1,_,_,c1,rs.stp s1,hf,λL2 H2 w s2 c2 r2=>q L2 H2 w (s1.trans s2) c2 (r2.back s1 c s2.sub)⟩⟩
 .rename_i M1 e1;exact ⟨L,σ,M,_,_,c,rs,e1,λL1 H1 s1 c1=>zGv ⟨L1,σ,M1,_,_,c1,rs.stp s1,hf,λL2 H2 w s2 c2 r2=>q L2 H2 w (s1.trans s2) c2 (r2.back s1 c s2.sub)⟩⟩
 .cases hf
abbrev KM:=EV->List D->Mem->Option (D × Mem)
def fM (k:KM) (f:FE) (g:FA):FE:=λσ M=>match f σ M with
 |some (x,M1)=>match zBB M1 x with
  |some _=>match g σ M1 with
   |some (ds,M2)=>match k x ds M2 with
    |some (d,M3)=>some (.dat d,M3)
    |none=>none
   |none=>none
  |none=>none
 |none=>none
def zN8 (K:Yb) (r:V->List V->Hp->VK->Prop) (k:KM):Prop:=∀ {L:Yg} {M M':Mem} {H H0:Hp} {x:EV} {ds:List D} {d:D} {v:V} {vs:List V} {Q:VK},Cor K L M H->zf H0 L H x v->zL L H ds vs->k x ds M=some (d,M') ->
 (∀ L' H' u,Stp L H L' H'->Cor K L' M' H'->Rep L' H' d u->Q u H')->r v vs H Q
theorem zIA {K:PySem.W.Frag} {r:V->List V->Hp->VK->Prop} {k:KM} {f:FE} {g:FA} (hk:zN8 K r k) {τ:Sv} {H:Hp} {Q:VK} (h:trE K (fM k f g) τ H Q):tBM K "list" r (trE K f) (trA K g) τ H Q:=by
 obtain ⟨L,σ,M,d,M',c,rs,hf,q⟩:=h;unfold fM at hf;split at hf
 .rename_i x M1 e1;split at hf
  .rename_i xs e2;split at hf
   .rename_i ds M2 e3;split at hf
    .rename_i d' M3 e4;cases hf;refine ⟨L,σ,M,_,_,c,rs,e1,λL1 H1 v s1 c1 r1=>?_⟩;obtain ⟨a,vs,rfl,e5,r5⟩:=zAw c1 r1 e2;refine ⟨.inl ⟨rfl,vs,.inl e5⟩,L1,σ,M1,_,_,c1,rs.stp s1,e3,λL2 H2 ws s2 c2 r2=>?_⟩;exact hk c2 (r1.stp s2) r2 e4 λL3 H3 u s3 c3 r3=>q L3 H3 u ((s1.trans s2).trans s3) c3 r3
    .cases hf
   .cases hf
  .cases hf
 .cases hf
def zAq:KM:=λx ds M=>match x,ds with
 |.dat (.ref n),[d]=>match M[n]? with
  |some (.lst xs)=>if xs.length<sizeLine then some (.non,M.set n (.lst (xs++[d]))) else none
  |_=>none
 |_,_=>none
theorem zL.one (h:zL L H [d] vs):∃ v,vs=[v]/\Rep L H d v:=by
 unfold zL at h;obtain ⟨v,r,rfl,h1,h2⟩:=h;unfold zL at h2;subst h2;exact ⟨v,rfl,h1⟩
theorem zKr {K:Yb}:zN8 K zLm zAq:=by
 intro L M M' H H0 x ds d v vs Q c rx rd hk q;unfold zAq at hk;split at hk
 .rename_i n d';split at hk
  .rename_i xs e1;split at hk
   .rename_i hz;cases hk;unfold zf Rep at rx;obtain ⟨a,rfl,e2⟩:=rx;obtain ⟨ws,e3,r3⟩:=c.obj n a _ e2 e1;obtain ⟨w,rfl,r4⟩:=rd.one;obtain ⟨c5,s5⟩:=c.write e2 e1 (r3.app (.cons r4 .nil));exact ⟨a,ws,w,rfl,rfl,e3,by rw[r3.length];exact hz,q L _ _ s5 c5 (by unfold Rep;rfl)⟩
   .cases hk
  .cases hk
 .cases hk
theorem zOr (h:QE X a f) (hg:QA X [e] g) (hbase:attributeBase a "append" X.env (eval a X.env)=eval a X.env:=by rfl)
  (hfew:((backTo cpos (starEach [e] X.env)).all (λx=> !x.1)&&(backToKw cpos (keywordEach [] X.env)).all (λx=>x.1.isSome)&&decide ([e].length+([]:List Keyword).length+(if ([]:List Keyword).isEmpty then 0 else 1)<30))=true:=by rfl)
  (hline:(apos.endLine==cpos.line)=true:=by rfl) (hs:starEach [e] X.env=(false,eval e X.env)::starEach [] X.env:=by rfl) (hplain:(backTo cpos (starEach [] X.env)).any (·.1)=false:=by rfl) :
  QE X (.Call (.Attribute a "append" apos) [e] [] cpos) (fM zAq f g) :=
 .mk <| PE.imp (zJu PySem.F.plainAttrs_list PySem.F.slot_list_append PySem.F.type_list_append zM2 h.un hg.un hbase hfew hline hs hplain) λ_ _ _ z=>zIA zKr z
def zKQ:KM:=λx ds M=>match x,ds with
 |.dat (.ref n),[.int i]=>match M[n]? with
  |some (.lst xs)=>match ixN xs.length i with
   |some k=>match xs[k]? with
    |some d=>if -(2 ^ 63)<=i/\i<2 ^ 63 then some (d,M.set n (.lst (xs.eraseIdx k))) else none
    |none=>none
   |none=>none
  |_=>none
 |_,_=>none
theorem zRZ {K:Yb}:zN8 K zOx zKQ:=by
 intro L M M' H H0 x ds d v vs Q c rx rd hk q;unfold zKQ at hk;split at hk
 .rename_i n i;split at hk
  .rename_i xs e1;split at hk
   .rename_i k e2;split at hk
    .rename_i d' e3;split at hk
     .rename_i hb;cases hk;unfold zf Rep at rx;obtain ⟨a,rfl,e4⟩:=rx;obtain ⟨ws,e5,r5⟩:=c.obj n a _ e4 e1;obtain ⟨u,e6,r6⟩:=r5.get e3;obtain ⟨c5,s5⟩:=c.write e4 e1 (r5.eraseIdx k);exact ⟨a,ws,i,k,u,rfl,zE7 rd,e5,hb.1,hb.2,by rw[r5.length];exact (zIf e2).1,e6,q L _ _ s5 c5 (r6.stp s5)⟩
     .cases hk
    .cases hk
   .cases hk
  .cases hk
 .cases hk
theorem zTj (h:QE X a f) (hg:QA X [e] g) (hbase:attributeBase a "pop" X.env (eval a X.env)=eval a X.env:=by rfl)
  (hfew:((backTo cpos (starEach [e] X.env)).all (λx=> !x.1)&&(backToKw cpos (keywordEach [] X.env)).all (λx=>x.1.isSome)&&decide ([e].length+([]:List Keyword).length+(if ([]:List Keyword).isEmpty then 0 else 1)<30))=true:=by rfl)
  (hline:(apos.endLine==cpos.line)=true:=by rfl) (hs:starEach [e] X.env=(false,eval e X.env)::starEach [] X.env:=by rfl) (hplain:(backTo cpos (starEach [] X.env)).any (·.1)=false:=by rfl) :
  QE X (.Call (.Attribute a "pop" apos) [e] [] cpos) (fM zKQ f g) :=
 .mk <| PE.imp (zJu PySem.F.plainAttrs_list PySem.F.slot_list_pop PySem.F.type_list_pop zOW h.un hg.un hbase hfew hline hs hplain) λ_ _ _ z=>zIA zRZ z
def zJi (x:EV) (i:D) (d:D) (M:Mem):Option Mem:=match x,i with
 |.dat (.ref n),.int i=>match M[n]? with
  |some (.lst xs)=>match ixN xs.length i with
   |some j=>some (M.set n (.lst (xs.set j d)))
   |none=>none
  |_=>none
 |_,_=>none
def zLH (fv fo fi:FE):FS:=λσ M=>match toD fv σ M with
 |some (d,M1)=>match fo σ M1 with
  |some (x,M2)=>match toD fi σ M2 with
   |some (i,M3)=>match zJi x i d M3 with
    |some M4=>some (.nx,σ,M4)
    |none=>none
   |none=>none
  |none=>none
 |none=>none
theorem zOK (hv:QE X v fv) (ho:QE X o fo) (hi:QE X i fi)
  (ha:∀ v,assign (.Subscript o i p) X.env v=(do
   let ov <- holding [v] (eval o X.env);let iv <- holding [v,ov] (eval i X.env);standAt p;holding [v,ov,iv] (setItem ov iv v);release [v,ov,iv] []):=by intro _;rfl)
  (hs:swapsWithSole [.Subscript o i p] v pos.line X.env=pure false:=by rfl) (hw:swappedStores [.Subscript o i p] v X.env=pure none:=by rfl) (h1:(assignEach [.Subscript o i p] X.env).map (·.2)=[assign (.Subscript o i p) X.env]:=by rfl) :
  QS X (.Assign [.Subscript o i p] v pos) (zLH fv fo fi):=.mk <| PS.imp (zOB (zBx hv).un (zSC ho.un (zBx hi).un zPD ha) hs hw h1) λE τ H zz=>by
 obtain ⟨L,σ,M,out,σ',M',c,rs,hf,q⟩:=zz;unfold zLH at hf;split at hf
 .rename_i d M1 e1;split at hf
  .rename_i x M2 e2;split at hf
   .rename_i j M3 e3;split at hf
    .rename_i M4 e4;cases hf;refine ⟨L,σ,M,_,_,c,rs,e1,λL1 H1 u s1 c1 r1=>⟨L1,σ,M1,_,_,c1,rs.stp s1,e2,λL2 H2 w s2 c2 r2=>⟨L2,σ,M2,_,_,c2,rs.stp (s1.trans s2),e3,λL3 H3 z s3 c3 r3=>?_⟩⟩⟩;have st:=(s1.trans s2).trans s3;unfold zJi at e4;split at e4
     .rename_i n k;split at e4
      .rename_i xs e5;split at e4
       .rename_i m e6;cases e4;have r2':=r2.stp s3;unfold zf Rep at r2';obtain ⟨a,rfl,e7⟩:=r2';obtain ⟨ws,e8,r8⟩:=c3.obj n a _ e7 e5;obtain ⟨c9,s9⟩:=c3.write e7 e5 (zL.set ((r1.stp s2).stp s3) m r8);exact ⟨a,ws,k,m,rfl,by unfold Rep at r3;exact r3,e8,by rw[r8.length];exact e6,q L3 _ (st.trans s9) c9 τ ((rs.stp st).stp s9)⟩
       .cases e4
      .cases e4
     .cases e4
    .cases hf
   .cases hf
  .cases hf
 .cases hf
end
section
def zH3:D->Option V
 |.non=>some .non
 |.bl k=>some (.bl k)
 |.int i=>some (.int i)
 |.str x=>some (.str x)
 |_=>none
theorem zEP (h:Rep L H d v) (e:zH3 d=some u):v=u:=by
 cases d with
 |non=>cases e;unfold Rep at h;exact h
 |bl _=>cases e;unfold Rep at h;exact h
 |int _=>cases e;unfold Rep at h;exact h
 |str _=>cases e;unfold Rep at h;exact h
 |tup _=>cases e
 |ref _=>cases e
def zK5 (neg:Bool):K2:=λx y M=>match x,y with
 |.dat d,.dat d'=>match zH3 d,zH3 d' with
  |some u,some w=>if zRc u w then some (.dat (.bl (if neg then !decide (u=w) else decide (u=w))),M) else none
  |_,_=>none
 |_,_=>none
theorem zHx (h:zK5 neg x y M=some (r,M')):∃ d d' u w,x=.dat d/\y=.dat d'/\zH3 d=some u/\zH3 d'=some w/\zRc u w=true/\r=.dat (.bl (if neg then !decide (u=w) else decide (u=w)))/\M'=M:=by
 unfold zK5 at h;split at h
 .rename_i d d';split at h
  .rename_i u w e1 e2;split at h
   .rename_i hs;cases h;exact ⟨d,d',u,w,rfl,rfl,e1,e2,hs,rfl,rfl⟩
   .cases h
  .cases h
 .cases h
theorem zMM {K:Yb}:zDQ K rEq (zK5 false):=by
 intro L M M' H H0 x y d v w Q c rx ry hk q;obtain ⟨d1,d2,u,z,rfl,rfl,e1,e2,hs,rfl,rfl⟩:=zHx hk;have a1:=zEP rx e1;have a2:=zEP ry e2;subst a1 a2;exact ⟨hs,q L H _ (.refl L H) c (zC3 (L:=L) (H:=H))⟩
theorem zQp {K:Yb}:zDQ K rNe (zK5 true):=by
 intro L M M' H H0 x y d v w Q c rx ry hk q;obtain ⟨d1,d2,u,z,rfl,rfl,e1,e2,hs,rfl,rfl⟩:=zHx hk;have a1:=zEP rx e1;have a2:=zEP ry e2;subst a1 a2;exact ⟨hs,q L H _ (.refl L H) c (zC3 (L:=L) (H:=H))⟩
def zS2 (neg:Bool) (K:Yb):R2:=λx y H Q=>∃ p q xs,x=.ref p/\y=.ref q/\SqL K H p xs/\SqL K H q []/\Q (.bl (if neg then !xs.isEmpty else xs.isEmpty)) H
theorem zH7 (r:zZ [] its):its=[]:=by cases r;rfl
theorem zJO (hu:X.A.units<cLine):OpR X (compareOp .Eq) (zS2 false X.K):=by
 intro zB s σ H x y v u Q I rx ry h;obtain ⟨p,q,xs,rfl,rfl,h1,h2,hq⟩:=h;cases rx;cases ry;obtain ⟨its,rv,pl,_⟩:=I.list h1;obtain ⟨its2,rv2,pl2,_⟩:=I.list h2;cases zH7 rv2;cases rv with
 |nil=>exact SeqAt.eq_listAt (e:=λ_=>true) pl.isList pl2.isList rfl hu (λj h1=>by simp at h1) ⟨.bl true,H,I,rfl,hq⟩
 |cons _ _=>exact SeqAt.eq_list_lengthsAt pl.isList pl2.isList (by simp) hu ⟨.bl false,H,I,rfl,hq⟩
theorem zPP (hu:X.A.units<cLine):OpR X (compareOp .NotEq) (zS2 true X.K):=by
 intro zB s σ H x y v u Q I rx ry h;obtain ⟨p,q,xs,rfl,rfl,h1,h2,hq⟩:=h;cases rx;cases ry;obtain ⟨its,rv,pl,_⟩:=I.list h1;obtain ⟨its2,rv2,pl2,_⟩:=I.list h2;cases zH7 rv2;cases rv with
 |nil=>exact SeqAt.RcNeAt.lists (e:=λ_=>true) pl.isList pl2.isList rfl hu (λj h1=>by simp at h1) _ _ _ _ ⟨.bl false,H,I,rfl,hq⟩
 |cons _ _=>exact SeqAt.RcNeAt.lists_lengths pl.isList pl2.isList (by simp) hu _ _ _ _ ⟨.bl true,H,I,rfl,hq⟩
def zPo (neg:Bool):K2:=λx y M=>match zBB M x,zBB M y with
 |some xs,some []=>some (.dat (.bl (if neg then !xs.isEmpty else xs.isEmpty)),M)
 |_,_=>none
theorem zI9 {K:Yb} {neg:Bool}:zDQ K (zS2 neg K) (zPo neg):=by
 intro L M M' H H0 x y d v w Q c rx ry hk q;unfold zPo at hk;split at hk
 .rename_i xs e1 e2;cases hk;obtain ⟨p1,vs,rfl,h1,r1⟩:=zAw c rx e1;obtain ⟨p2,ws,rfl,h2,r2⟩:=zAw c ry e2;unfold zL at r2;subst r2;refine ⟨p1,p2,vs,rfl,rfl,.inl h1,.inl h2,q L H _ (.refl L H) c ?_⟩;have:vs.isEmpty=xs.isEmpty:=by
   have:=r1.length;cases vs <;> cases xs <;> simp_all
  rw[this];exact (zC3 (L:=L) (H:=H))
 .cases hk
def kOr (k1 k2:K2):K2:=λx y M=>match k1 x y M with
 |some r=>some r
 |none=>k2 x y M
theorem zIU {K:Yb} {r1 r2:R2} {k1 k2:K2} (h1:zDQ K r1 k1) (h2:zDQ K r2 k2):zDQ K (λx y H Q=>r1 x y H Q\/r2 x y H Q) (kOr k1 k2):=by
 intro L M M' H H0 x y d v w Q c rx ry hk q;unfold kOr at hk;split at hk
 .rename_i r e1;cases hk;exact .inl (h1 c rx ry e1 q)
 .exact .inr (h2 c rx ry hk q)
abbrev kEq:K2:=kOr (zK5 false) (zPo false)
abbrev kNe:K2:=kOr (zK5 true) (zPo true)
theorem zUu (hu:X.A.units<cLine) (h1:QE X a f) (h2:QE X b g):QE X (.Compare a [.Eq] [b] pos) (fOp kEq f g):=zUd (zIU zMM zI9) (zRr.or (zJO hu)) h1 h2 (zEv _)
theorem zTc (hu:X.A.units<cLine) (h1:QE X a f) (h2:QE X b g):QT X (.Compare a [.Eq] [b] pos) (tst (fOp kEq f g)):=zGE (zIU zMM zI9) (zRr.or (zJO hu)) h1 h2 (zEv _)
theorem zTd (hu:X.A.units<cLine) (h1:QE X a f) (h2:QE X b g):QT X (.Compare a [.NotEq] [b] pos) (tst (fOp kNe f g)):=zGE (zIU zQp zI9) (zTz.or (zPP hu)) h1 h2 (zEv _)
def zMQ:KB:=λxs M=>match xs with
 |[.dat (.int i)]=>some (.dat (.int (if i<0 then -i else i)),M)
 |_=>none
theorem zRE {K:Yb}:zEk K (λxs H Q=>∃ i,xs=[.int i]/\Q (.int (if i<0 then -i else i)) H) zMQ:=by
 intro L M M' H H0 xs d vs Q c r hk q;unfold zMQ at hk;split at hk
 .rename_i i;cases hk;obtain ⟨v,rfl,r1⟩:=r.one;have:v=.int i:=by unfold zf Rep at r1;exact r1
  subst this;exact ⟨i,rfl,q L H _ (.refl L H) c (zAF (L:=L) (H:=H))⟩
 .cases hk
def zLM:KB:=λxs M=>match xs with
 |[.dat (.int i)]=>some (.dat (.int i),M)
 |[.dat (.bl k)]=>some (.dat (.int (if k then 1 else 0)),M)
 |_=>none
theorem zRC {K:Yb}:zEk K (λxs H Q=>(∃ i,xs=[.int i]/\Q (.int i) H) \/ ∃ k,xs=[.bl k]/\Q (.int (if k then 1 else 0)) H) zLM:=by
 intro L M M' H H0 xs d vs Q c r hk q;unfold zLM at hk;split at hk
 .rename_i i;cases hk;obtain ⟨v,rfl,r1⟩:=r.one;have:v=.int i:=by unfold zf Rep at r1;exact r1
  subst this;exact .inl ⟨i,rfl,q L H _ (.refl L H) c (zAF (L:=L) (H:=H))⟩
 .rename_i k;cases hk;obtain ⟨v,rfl,r1⟩:=r.one;have:=zNP r1;subst this;exact .inr ⟨k,rfl,q L H _ (.refl L H) c (zAF (L:=L) (H:=H))⟩
 .cases hk
end
section
theorem zPe {prog:Ym} {w:Yo} {A:Yn} {E:Yc} {s:Yl} {t b:Yt} {ws:Yf} {Q:Yc} (ht:IsTup s.heap t #[]) (hb:IsTup s.heap b ws.toArray) (h1:Q (.ref b) s) :
  wpAny (model prog w) A (binaryOp .Add (.ref t) (.ref b)) Q E s:=by
 obtain ⟨⟨cls,dd,data,sl⟩,ho,hc,n,hd⟩:=id ht;obtain ⟨⟨cls2,dd2,data2,sl2⟩,ho2,hc2,n2,hd2⟩:=id hb;simp only at hc hd hc2 hd2;subst hc hd hc2 hd2
 exact concat_meets ⟨_,ho,rfl⟩ ⟨_,ho2,rfl⟩ noFill_tuple_add seq_tuple_add PySem.F.slot_tuple_add PySem.F.entry_tuple_add (PySem.F.args_tuple_add_2 _ _)
   (tuple_addW0 t b #[] ws.toArray n n2 dd dd2 sl sl2 (by simp)) ⟨ho,ho2,h1⟩
def zPV (K:Yb):R2:=λx y H Q=>∃ a b ys,x=.ref a/\y=.ref b/\SqT K H a []/\SqT K H b ys/\Q (.ref b) H
theorem zO0:OpR X (binaryOp .Add) (zPV X.K):=by
 intro zB s σ H x y v u Q I rx ry h;obtain ⟨a,b,ys,rfl,rfl,ha,hb,q⟩:=h;cases rx;cases ry;obtain ⟨its,r1,p1,_⟩:=I.tuple ha;obtain ⟨its2,r2,p2,_⟩:=I.tuple hb;cases zH7 r1;exact zPe p1 p2 ⟨.ref b,H,I,rfl,q⟩
def zO8:K2:=λx y M=>match zDK x,zDK y with
 |some xs,some ys=>if xs.length+ys.length<=sizeLine then some (.dat (.tup (xs++ys)),M) else none
 |_,_=>none
theorem zPZ {K:Yb}:zDQ K (λx y H Q=>zRp K x y H Q\/zPV K x y H Q) zO8:=by
 intro L M M' H H0 x y d v w Q c rx ry hk q;unfold zO8 at hk;split at hk
 .rename_i xs ys e1 e2;split at hk
  .rename_i hz;cases hk;obtain ⟨p1,vs,rfl,h1,r1⟩:=zB1 rx e1;obtain ⟨p2,ws,rfl,h2,r2⟩:=zB1 ry e2;cases xs with
   |nil=>
    refine .inr ⟨p1,p2,ws,rfl,rfl,.of (by unfold zL at r1;subst r1;exact h1),.of h2,q L H _ (.refl L H) c ?_⟩;unfold zf Rep;exact ⟨p2,ws,rfl,h2,r2⟩
   |cons x0 xr=>
    have hv:vs≠[]:=λz=>by have:=r1.length;rw[z]at this;simp at this
    refine .inl ⟨p1,p2,vs,ws,rfl,rfl,.of h1,.of h2,hv,by rw[r1.length,r2.length];exact hz,λz=>?_,λz pp hp=>?_⟩
    .have:ys=[]:=by
      have:=r2.length;rw[z]at this;cases ys with
      |nil=>rfl
      |cons _ _=>simp at this
     subst this;refine q L H _ (.refl L H) c ?_;unfold zf Rep;rw[zV8];exact ⟨p1,vs,rfl,h1,r1⟩
    .exact q L _ _ (.upd hp) (c.upd hp) (Rep.newTup hp (r1.app r2))
  .cases hk
 .cases hk
abbrev zAP:K2:=kOr zUx zO8
theorem zS7 (h1:QE X a f) (h2:QE X b g):QE X (.BinOp a .Add b pos) (fOp zAP f g):=zLU (zIU (zGL λ_ _ _ _=>zAF) zPZ) (zRz.or (zQy.or zO0)) h1 h2
def isT (t T:String):Bool:=decide (t=T)||(decide (t = "bool")&&decide (T = "int"))
theorem zL.two (h:zL L H [d,d'] vs):∃ v v',vs=[v,v']/\Rep L H d v/\Rep L H d' v':=by
 unfold zL at h;obtain ⟨v,r,rfl,h1,h2⟩:=h;obtain ⟨v',rfl,h3⟩:=h2.one;exact ⟨v,v',rfl,h1,h3⟩
section
theorem zTi (hg:Gl X "len") (hm:X.mg "len" = none) (ha:QAE X [e] fa) (he:starEach [e] X.env=(false,eval e X.env)::starEach [] X.env:=by rfl) (hpl:(backTo pos (starEach [] X.env)).any (·.1)=false:=by rfl):QE X (.Call (.Name "len" p) [e] [] pos) (fB zBM fa) :=
 zCT zQF zIh PySem.boot_len hg hm ha (by decide) (by decide) he hpl
theorem zRH (hg:Gl X "tuple") (hm:X.mg "tuple" = none) (ha:QAE X [e] fa) (he:starEach [e] X.env=(false,eval e X.env)::starEach [] X.env:=by rfl) (hpl:(backTo pos (starEach [] X.env)).any (·.1)=false:=by rfl):QE X (.Call (.Name "tuple" p) [e] [] pos) (fB zAg fa) :=
 zEb zNZ zG6 (by rfl) hg hm ha (by decide) (by decide) he hpl
theorem zUC (hg:Gl X "abs") (hm:X.mg "abs" = none) (ha:QAE X [e] fa) (he:starEach [e] X.env=(false,eval e X.env)::starEach [] X.env:=by rfl) (hpl:(backTo pos (starEach [] X.env)).any (·.1)=false:=by rfl):QE X (.Call (.Name "abs" p) [e] [] pos) (fB zMQ fa) :=
 zCT zRE zO9 (by rfl) hg hm ha (by decide) (by decide) he hpl
theorem zSo (hg:Gl X "int") (hm:X.mg "int" = none) (ha:QAE X [e] fa) (he:starEach [e] X.env=(false,eval e X.env)::starEach [] X.env:=by rfl) (hpl:(backTo pos (starEach [] X.env)).any (·.1)=false:=by rfl):QE X (.Call (.Name "int" p) [e] [] pos) (fB zLM fa) :=
 zEb zRC zMk (by rfl) hg hm ha (by decide) (by decide) he hpl
end
end
def zER (sc scope:Y0):Bool:=scope.names.all λy=>
 (y.2 != .local||scope.names.lookup y.1==some .local)&&(y.2 != .cell||scope.names.lookup y.1==some .cell)&&(y.2 != .free||(sc.names.lookup y.1==some .cell||sc.names.lookup y.1==some .free))
def zFY (N:Yk) (scope:Y0) (own:Yj):Bool:=(List.range N.length).all λi=>match N[i]? with
 |some x=>decide (i∈own)||(scope.names.lookup x==none)||(scope.names.lookup x==some .free)
 |none=>true
theorem zH2 (hk:scope.kind=.function) (hs:X.env.scope=sc) (hN:X.N=N) (h1:zER sc scope=true) (h2:zFY N scope own=true):CompIn X scope own:=by
 unfold zER at h1;rw[zVz]at h1;refine ⟨⟨hk,λy hy e=>?_,λy hy e=>?_,λy hy e=>?_⟩,λi x e=>?_⟩
 .have:=h1 y hy;simp[e]at this;exact this
 .have:=h1 y hy;simp[e]at this;exact this
 .have:=h1 y hy;simp[e]at this;show X.env.scope.names.lookup y.1=_\/X.env.scope.names.lookup y.1=_;rw[hs];exact this
 .unfold zFY at h2;rw[zVz]at h2;rw[hN]at e;have hi:i<N.length:=(zVR.mp e).1;have:=h2 i (by simpa using hi);rw[e]at this;simp only[Bool.or_eq_true,zWb,beq_iff_eq,or_assoc]at this;exact this
def zIQ (K:Yb):Bool:=K.all λp=>match p.2.cls with
 |.type n=>n != "list"
 |_=>true
theorem zJk:∀ {K:Yb},K.lookup a=some o->(a,o)∈K
 |[],h=>by cases h
 | (b,u)::r,h=>by
  have h':List.lookup a ((b,u)::r)=some o:=h;rw[zXT]at h';cases q:a==b with
  |true=>rw[q]at h';cases h';rw[beq_iff_eq.mp q];exact zVc
  |false=>rw[q]at h';exact zVb _ (zJk h')
theorem zMj {K:PySem.W.Frag} (h:zIQ K=true) {o:Obj} (e:K.lookup a=some o) (hc:o.cls=.type "list"):False:=by
 unfold zIQ at h;rw[zVz]at h;have:=h (a,o) (zJk e);simp[hc]at this
theorem zHR:∀ (ns:Ye),zL L H (ns.map D.int) (ns.map V.int)
 |[]=> .nil
 |n::r=> .cons (by unfold Rep;rfl) (zHR r)
theorem zMe {K:Yb} {m:FF} {H:Hp} {a:Yt} {ns:Ye} {E:XK} (hL:zIQ K=true) (hO:zQj H) (hS:SqL K H a (ns.map V.int)) (h:∃ M',m [.ref 0] [.fro (ns.map D.int)]=some (.bl true,M')) :
  spF K 1 m [.ref a] H (λv _=>v=.bl true) E:=by
 obtain ⟨M',e⟩:=h;have hf:∃ o,H a=some (.frz o (.lst (ns.map V.int))):=by
  rcases hS with (h1|h1)|⟨o,its,n,h1,h2,_⟩
  .rcases hO a with z|⟨o,xs,z⟩
   .rw[h1]at z;cases z
   .rw[h1]at z;cases z
  .exact h1
  .exact (zMj hL h1 h2).elim
 obtain ⟨o,hf⟩:=hf;refine ⟨[a],[.ref 0],[.fro (ns.map D.int)],_,_,⟨rfl,by simp,λn b m e1 e2=>?_⟩,.cons ?_ .nil,rfl,e,λL' H' v s c r=>?_⟩
 .cases n with
  |zero=>simp at e1 e2;subst e1;subst e2;exact ⟨o,_,hf,zHR ns⟩
  |succ n=>simp at e1
 .unfold Rep;exact ⟨a,rfl,rfl⟩
 .unfold Rep at r;exact r
def Ok {α:Type} (x:Option (α × Mem)) (P:α->Mem->Prop):Prop:=∃ a M,x=some (a,M)/\P a M
def OkS (x:Option (Out × Sd × Mem)) (P:Out->Sd->Mem->Prop):Prop:=∃ o σ M,x=some (o,σ,M)/\P o σ M
theorem Ok.mono {α:Type} {x:Option (α × Mem)} {P Q:α->Mem->Prop} (h:Ok x P) (hq:∀ a M,P a M->Q a M):Ok x Q:=let ⟨a,M,e,p⟩:=h;⟨a,M,e,hq a M p⟩
theorem OkS.mono {x:Option (Out × Sd × Mem)} {P Q:Out->Sd->Mem->Prop} (h:OkS x P) (hq:∀ o σ M,P o σ M->Q o σ M):OkS x Q:=let ⟨a,σ,M,e,p⟩:=h;⟨a,σ,M,e,hq a σ M p⟩
theorem zp {α:Type} {a:α} {M:Mem} {P:α->Mem->Prop}:Ok (some (a,M)) P ↔ P a M:=⟨λ⟨_,_,e,p⟩=>by cases e;exact p,λp=>⟨a,M,rfl,p⟩⟩
theorem zFc {α:Type} {P:α->Mem->Prop}:Ok (none:Option (α × Mem)) P ↔ False:=⟨(λ⟨_,_,e,_⟩=>(nomatch e)),λh=>h.elim⟩
theorem zOU {o:Out} {σ:Sd} {M:Mem} {P:Out->Sd->Mem->Prop}:OkS (some (o,σ,M)) P ↔ P o σ M:=⟨λ⟨_,_,_,e,p⟩=>by cases e;exact p,λp=>⟨o,σ,M,rfl,p⟩⟩
section
theorem zt {i:Nat}:Ok (zC i σ M) P ↔ ∃ d,σ[i]?=some (some d)/\P (.dat d) M:=by
 unfold zC;constructor
 .rintro ⟨a,M1,e,p⟩;split at e
  .rename_i d e1;cases e;exact ⟨d,e1,p⟩
  .cases e
 .rintro ⟨d,e1,p⟩;rw[e1];exact ⟨_,_,rfl,p⟩
theorem zCO {d:D}:Ok (fC d σ M) P ↔ P (.dat d) M:=zp
theorem zAH {k:K2}:Ok (fOp k f g σ M) P ↔ Ok (f σ M) λx M1=>Ok (g σ M1) λy M2=>Ok (k x y M2) P:=by
 unfold fOp;constructor
 .rintro ⟨a,M1,e,p⟩;split at e
  .rename_i x M2 e1;split at e
   .rename_i y M3 e2;exact ⟨x,M2,e1,y,M3,e2,a,M1,e,p⟩
   .cases e
  .cases e
 .rintro ⟨x,M2,e1,y,M3,e2,a,M1,e,p⟩;rw[e1];dsimp only;rw[e2];exact ⟨a,M1,e,p⟩
def zFT (P:D->Mem->Prop):EV->Mem->Prop
 |.dat d,M=>P d M
 |.fl xs,M=>P (.ref M.length) (M++[.lst xs])
theorem zAf {P:D->Mem->Prop}:Ok (toD f σ M) P ↔ Ok (f σ M) (zFT P):=by
 unfold toD;constructor
 .rintro ⟨a,M1,e,p⟩;split at e
  .rename_i d M2 e1;cases e;exact ⟨_,_,e1,p⟩
  .rename_i xs M2 e1;cases e;exact ⟨_,_,e1,p⟩
  .cases e
 .rintro ⟨x,M2,e1,p⟩;rw[e1];cases x with
  |dat d=>exact ⟨d,M2,rfl,p⟩
  |fl xs=>exact ⟨_,_,rfl,p⟩
theorem zI {P:D->Mem->Prop} {d:D} {M:Mem}:zFT P (.dat d) M ↔ P d M:=Iff.rfl
theorem zFd {P:D->Mem->Prop} {xs:List D} {M:Mem}:zFT P (.fl xs) M ↔ P (.ref M.length) (M++[.lst xs]):=Iff.rfl
section
theorem zCW:Ok (zG σ M) P ↔ P [] M:=zp
theorem zAm {f:FD} {g:FA}:Ok (zD f g σ M) P ↔ Ok (f σ M) λd M1=>Ok (g σ M1) λds M2=>P (d::ds) M2:=by
 unfold zD;constructor
 .rintro ⟨a,M1,e,p⟩;split at e
  .rename_i x M2 e1;split at e
   .rename_i y M3 e2;cases e;exact ⟨x,M2,e1,y,_,e2,p⟩
   .cases e
  .cases e
 .rintro ⟨x,M2,e1,y,M3,e2,p⟩;rw[e1];dsimp only;rw[e2];exact ⟨_,_,rfl,p⟩
end
section
theorem zCt:Ok (za σ M) P ↔ P [] M:=zp
theorem zCK {f:FE} {g:FAE}:Ok (zM f g σ M) P ↔ Ok (f σ M) λd M1=>Ok (g σ M1) λds M2=>P (d::ds) M2:=by
 unfold zM;constructor
 .rintro ⟨a,M1,e,p⟩;split at e
  .rename_i x M2 e1;split at e
   .rename_i y M3 e2;cases e;exact ⟨x,M2,e1,y,_,e2,p⟩
   .cases e
  .cases e
 .rintro ⟨x,M2,e1,y,M3,e2,p⟩;rw[e1];dsimp only;rw[e2];exact ⟨_,_,rfl,p⟩
end
theorem zLR {a:FA}:Ok (zA5 a σ M) P ↔ Ok (a σ M) λds M1=>ds.length<=sizeLine/\P (.fl ds) M1:=by
 unfold zA5;constructor
 .rintro ⟨x,M1,e,p⟩;split at e
  .rename_i ds M2 e1;split at e
   .rename_i hz;cases e;exact ⟨ds,_,e1,hz,p⟩
   .cases e
  .cases e
 .rintro ⟨ds,M1,e1,hz,p⟩;rw[e1];dsimp only;rw[zVd hz];exact ⟨_,_,rfl,p⟩
theorem zKc {k:KB} {a:FAE}:Ok (fB k a σ M) P ↔ Ok (a σ M) λxs M1=>Ok (k xs M1) P:=by
 unfold fB;constructor
 .rintro ⟨x,M1,e,p⟩;split at e
  .rename_i ds M2 e1;exact ⟨ds,_,e1,x,M1,e,p⟩
  .cases e
 .rintro ⟨ds,M1,e1,p⟩;rw[e1];exact p
theorem zBi {m:FF} {a:FA}:Ok (zP m a σ M) P ↔ Ok (a σ M) λds M1=>Ok (m ds M1) λd M2=>P (.dat d) M2:=by
 unfold zP;constructor
 .rintro ⟨x,M1,e,p⟩;split at e
  .rename_i ds M2 e1;split at e
   .rename_i d M3 e2;cases e;exact ⟨ds,_,e1,d,_,e2,p⟩
   .cases e
  .cases e
 .rintro ⟨ds,M1,e1,d,M2,e2,p⟩;rw[e1];dsimp only;rw[e2];exact ⟨_,_,rfl,p⟩
theorem zLP {k:KM} {a:FA}:Ok (fM k f a σ M) P ↔ Ok (f σ M) λx M1=>(∃ xs,zBB M1 x=some xs)/\Ok (a σ M1) λds M2=>Ok (k x ds M2) λd M3=>P (.dat d) M3:=by
 unfold fM;constructor
 .rintro ⟨x,M1,e,p⟩;split at e
  .rename_i y M2 e1;split at e
   .rename_i xs e2;split at e
    .rename_i ds M3 e3;split at e
     .rename_i d M4 e4;cases e;exact ⟨y,_,e1,⟨xs,e2⟩,ds,_,e3,d,_,e4,p⟩
     .cases e
    .cases e
   .cases e
  .cases e
 .rintro ⟨y,M1,e1,⟨xs,e2⟩,ds,M2,e3,d,M3,e4,p⟩;rw[e1];dsimp only;rw[e2];dsimp only;rw[e3];dsimp only;rw[e4];exact ⟨_,_,rfl,p⟩
section
theorem zKN:Ok (zFM σ M) P ↔ P none M:=zp
def zUQ (P:Option Int->Mem->Prop):EV->Mem->Prop
 |.dat (.int i),M=>P (some i) M
 |_,_=>False
theorem zKD {i:Int} {M:Mem}:zUQ P (.dat (.int i)) M ↔ P (some i) M:=Iff.rfl
theorem zKT:Ok (zEi f σ M) P ↔ Ok (f σ M) (zUQ P):=by
 unfold zEi;constructor
 .rintro ⟨x,M1,e,p⟩;split at e
  .rename_i i M2 e1;cases e;exact ⟨_,_,e1,p⟩
  .cases e
 .rintro ⟨x,M1,e1,p⟩;rw[e1];cases x with
  |fl xs=>exact p.elim
  |dat d=>
   cases d with
   |int i=>exact ⟨_,_,rfl,p⟩
   |_=>exact p.elim
end
theorem zRq {l h:FO}:Ok (fSl f l h σ M) P ↔ Ok (f σ M) λx M1=>Ok (l σ M1) λlo M2=>Ok (h σ M2) λhi M3=>Ok (kSl x lo hi M3) P:=by
 unfold fSl;constructor
 .rintro ⟨x,M1,e,p⟩;split at e
  .rename_i y M2 e1;split at e
   .rename_i lo M3 e2;split at e
    .rename_i hi M4 e3;exact ⟨y,_,e1,lo,_,e2,hi,_,e3,x,M1,e,p⟩
    .cases e
   .cases e
  .cases e
 .rintro ⟨y,M1,e1,lo,M2,e2,hi,M3,e3,p⟩;rw[e1];dsimp only;rw[e2];dsimp only;rw[e3];exact p
def blP (P:Bool->Mem->Prop):EV->Mem->Prop
 |.dat (.bl k),M=>P k M
 |_,_=>False
theorem zK0 {P:Bool->Mem->Prop} {k:Bool} {M:Mem}:blP P (.dat (.bl k)) M ↔ P k M:=Iff.rfl
theorem zKq {P:Bool->Mem->Prop}:Ok (tst f σ M) P ↔ Ok (f σ M) (blP P):=by
 unfold tst;constructor
 .rintro ⟨x,M1,e,p⟩;split at e
  .rename_i i M2 e1;cases e;exact ⟨_,_,e1,p⟩
  .cases e
 .rintro ⟨x,M1,e1,p⟩;rw[e1];cases x with
  |fl xs=>exact p.elim
  |dat d=>
   cases d with
   |bl i=>exact ⟨_,_,rfl,p⟩
   |_=>exact p.elim
section
theorem zJF:Ok (ze σ M) P ↔ P true M:=zp
theorem zRX:Ok (zBO s t σ M) P ↔ Ok (s σ M) λk M1=>if k then Ok (t σ M1) P else P false M1:=by
 unfold zBO;constructor
 .rintro ⟨x,M1,e,p⟩;split at e
  .rename_i M2 e1;exact ⟨true,M2,e1,by dsimp only;rw[zVd rfl];exact ⟨x,M1,e,p⟩⟩
  .rename_i hn;cases x with
   |true=>exact absurd e (hn M1)
   |false=>exact ⟨false,M1,e,by simpa using p⟩
 .rintro ⟨x,M1,e1,p⟩;rw[e1];cases x with
  |true=>simpa using p
  |false=>exact ⟨false,M1,rfl,by simpa using p⟩
end
theorem zPF {t:FT}:Ok (vIf t f g σ M) P ↔ Ok (t σ M) λk M1=>if k then Ok (f σ M1) P else Ok (g σ M1) P:=by
 unfold vIf;constructor
 .rintro ⟨x,M1,e,p⟩;split at e
  .rename_i M2 e1;exact ⟨_,_,e1,by dsimp only;rw[zVd rfl];exact ⟨x,M1,e,p⟩⟩
  .rename_i M2 e1;exact ⟨_,_,e1,by simpa using ⟨x,M1,e,p⟩⟩
  .cases e
 .rintro ⟨x,M1,e1,p⟩;rw[e1];cases x with
  |true=>simpa using p
  |false=>simpa using p
end
section
def nxP (k:Sd->Mem->Prop) (P:Out->Sd->Mem->Prop):Out->Sd->Mem->Prop
 |.nx,σ,M=>k σ M
 |o,σ,M=>P o σ M
theorem zQ {k:Sd->Mem->Prop}:nxP k P .nx σ M ↔ k σ M:=Iff.rfl
theorem zCv {k:Sd->Mem->Prop} {d:D}:nxP k P (.ret d) σ M ↔ P (.ret d) σ M:=Iff.rfl
theorem zAx:OkS (zBu σ M) P ↔ P .nx σ M:=zOU
theorem zJ:OkS (zV f g σ M) P ↔ OkS (f σ M) (nxP (λσ1 M1=>OkS (g σ1 M1) P) P):=by
 unfold zV;constructor
 .rintro ⟨o,σ1,M1,e,p⟩;split at e
  .rename_i σ2 M2 e1;exact ⟨_,_,_,e1,o,σ1,M1,e,p⟩
  .rename_i hn;refine ⟨o,σ1,M1,e,?_⟩;cases o with
   |nx=>exact absurd e (hn σ1 M1)
   |_=>exact p
 .rintro ⟨o,σ1,M1,e1,p⟩;rw[e1];cases o with
  |nx=>exact p
  |_=>exact ⟨_,_,_,rfl,p⟩
theorem zBW {c:FT}:OkS (sIf c f g σ M) P ↔ Ok (c σ M) λk M1=>if k then OkS (f σ M1) P else OkS (g σ M1) P:=by
 unfold sIf;constructor
 .rintro ⟨o,σ1,M1,e,p⟩;split at e
  .rename_i M2 e1;exact ⟨_,_,e1,by dsimp only;rw[zVd rfl];exact ⟨o,σ1,M1,e,p⟩⟩
  .rename_i M2 e1;exact ⟨_,_,e1,by simpa using ⟨o,σ1,M1,e,p⟩⟩
  .cases e
 .rintro ⟨x,M1,e1,p⟩;rw[e1];cases x with
  |true=>simpa using p
  |false=>simpa using p
theorem zAG {h:FE}:OkS (zAY h σ M) P ↔ Ok (h σ M) (zFT λd M1=>P (.ret d) σ M1):=by
 rw[<-zAf];unfold zAY;constructor
 .rintro ⟨o,σ1,M1,e,p⟩;split at e
  .rename_i d M2 e1;cases e;exact ⟨_,_,e1,p⟩
  .cases e
 .rintro ⟨x,M1,e1,p⟩;rw[e1];exact ⟨_,_,_,rfl,p⟩
theorem zW {i:Nat} {h:FE}:OkS (zh i h σ M) P ↔ Ok (h σ M) (zFT λd M1=>P .nx (σ.set i (some d)) M1):=by
 rw[<-zAf];unfold zh;constructor
 .rintro ⟨o,σ1,M1,e,p⟩;split at e
  .rename_i d M2 e1;cases e;exact ⟨_,_,e1,p⟩
  .cases e
 .rintro ⟨x,M1,e1,p⟩;rw[e1];exact ⟨_,_,_,rfl,p⟩
theorem zCI {h:FE}:OkS (zBQ h σ M) P ↔ Ok (h σ M) λ_ M1=>P .nx σ M1:=by
 unfold zBQ;constructor
 .rintro ⟨o,σ1,M1,e,p⟩;split at e
  .rename_i d M2 e1;cases e;exact ⟨_,_,e1,p⟩
  .cases e
 .rintro ⟨x,M1,e1,p⟩;rw[e1];exact ⟨_,_,_,rfl,p⟩
theorem zIe {v o i:FE}:OkS (zLH v o i σ M) P ↔ Ok (v σ M) (zFT λd M1=>Ok (o σ M1) λx M2=>Ok (i σ M2) (zFT λj M3=>∃ M4,zJi x j d M3=some M4/\P .nx σ M4)):=by
 rw[<-zAf];unfold zLH;constructor
 .rintro ⟨o,σ1,M1,e,p⟩;split at e
  .rename_i d M2 e1;split at e
   .rename_i x M3 e2;split at e
    .rename_i j M4 e3;split at e
     .rename_i M5 e4;cases e;refine ⟨_,_,e1,_,_,e2,?_⟩;dsimp only;rw[<-zAf];exact ⟨_,_,e3,_,e4,p⟩
     .cases e
    .cases e
   .cases e
  .cases e
 .rintro ⟨d,M1,e1,x,M2,e2,p⟩;rw[<-zAf]at p;obtain ⟨j,M3,e3,M4,e4,p⟩:=p;rw[e1];dsimp only;rw[e2];dsimp only;rw[e3];dsimp only;rw[e4];exact ⟨_,_,_,rfl,p⟩
theorem zAK {n:Nat} {ds:List D} {Q:D->Mem->Prop}:Ok (zBH n f ds M) Q ↔ OkS (f (ds.map some++List.replicate (n-ds.length) none) M) λo _ M1=>match o with|.ret d=>Q d M1|.nx=>Q .non M1|_=>False:=by
 unfold zBH;constructor
 .rintro ⟨o,M1,e,p⟩;split at e
  .rename_i d σ1 M2 e1;cases e;exact ⟨_,_,_,e1,p⟩
  .rename_i σ1 M2 e1;cases e;exact ⟨_,_,_,e1,p⟩
  .cases e
 .rintro ⟨o,σ1,M1,e1,p⟩;rw[e1];cases o with
  |ret d=>exact ⟨_,_,rfl,p⟩
  |nx=>exact ⟨_,_,rfl,p⟩
  |brk=>exact p.elim
  |cnt=>exact p.elim
theorem zB8 {c:FT} {b:FS} (I:Nat->Sd->Mem->Prop) (hs:∀ m σ M,I m σ M->Ok (c σ M) λk M1=>if k then OkS (b σ M1) λo σ2 M2=>match o with|.nx=>∃ m',m'<m/\I m' σ2 M2|.cnt=>∃ m',m'<m/\I m' σ2 M2|.brk=>P .nx σ2 M2|.ret d=>P (.ret d) σ2 M2 else P .nx σ M1) :
  ∀ (n m:Nat) (σ:Sd) (M:Mem),m<n->I m σ M->OkS (zAv c b n σ M) P
 |0,m,σ,M,h,_=>absurd h (Nat.not_lt_zero _)
 |n+1,m,σ,M,h,hi=>by
  obtain ⟨k,M1,e,q⟩:=hs m σ M hi;unfold zAv;rw[e];cases k with
  |false=>exact ⟨_,_,_,rfl,by simpa using q⟩
  |true=>
   rw[zVd rfl]at q;obtain ⟨o,σ2,M2,e2,q⟩:=q;dsimp only;rw[e2];cases o with
   |nx=>obtain ⟨m',hm,q⟩:=q;exact zB8 I hs n m' σ2 M2 (by omega) q
   |cnt=>obtain ⟨m',hm,q⟩:=q;exact zB8 I hs n m' σ2 M2 (by omega) q
   |brk=>exact ⟨_,_,_,rfl,q⟩
   |ret d=>exact ⟨_,_,_,rfl,q⟩
theorem zAr {g:FG} {b:FS} {all:List D} {gd:Option (Mem->Prop)} (I:List D->Sd->Mem->Prop)
  (hs:∀ x r σ M,I (x::r) σ M->zAo gd all M /\ ∃ σ1,g x σ=some σ1/\OkS (b σ1 M) λo σ2 M2=>match o with|.nx=>I r σ2 M2|.cnt=>I r σ2 M2|.brk=>P .nx σ2 M2|.ret d=>P (.ret d) σ2 M2)
  (he:∀ σ M,I [] σ M->zAo gd all M/\P .nx σ M):∀ (xs:List D) (σ:Sd) (M:Mem),I xs σ M->OkS (zCV g b all gd xs σ M) P
 |[],σ,M,hi=>by
  unfold zCV;obtain ⟨h1,h2⟩:=he σ M hi;rw[zVd h1];exact ⟨_,_,_,rfl,h2⟩
 |x::r,σ,M,hi=>by
  unfold zCV;obtain ⟨h1,σ1,e1,o,σ2,M2,e2,q⟩:=hs x r σ M hi;rw[zVd h1,e1];dsimp only;rw[e2];cases o with
  |nx=>exact zAr I hs he r σ2 M2 q
  |cnt=>exact zAr I hs he r σ2 M2 q
  |brk=>exact ⟨_,_,_,rfl,q⟩
  |ret d=>exact ⟨_,_,_,rfl,q⟩
theorem zA6 {i:FI} {g:FG} {b:FS}:OkS (zCM i g b σ M) P ↔ ∃ xs gd M1,i σ M=some (xs,gd,M1)/\OkS (zCV g b xs gd xs σ M1) P:=by
 unfold zCM;constructor
 .rintro ⟨o,σ1,M1,e,p⟩;split at e
  .rename_i xs gd M2 e1;exact ⟨_,_,_,e1,_,_,_,e,p⟩
  .cases e
 .rintro ⟨xs,gd,M1,e1,p⟩;rw[e1];exact p
theorem zDm {g:FG} {tc:FT} {te:FE} {all:List D} {gd:Option (Mem->Prop)} (I:List D->List D->Mem->Prop)
  (hs:∀ x r acc M,I (x::r) acc M->zAo gd all M /\ ∃ σ1,g x σ=some σ1/\Ok (tc σ1 M) λk M1=>if k then Ok (te σ1 M1) (zFT λd M2=>I r (acc++[d]) M2) else I r acc M1)
  {Q:List D->Mem->Prop} (he:∀ acc M,I [] acc M->zAo gd all M/\Q acc M):∀ (xs acc:List D) (M:Mem),I xs acc M->Ok (zAk g tc te σ all gd xs M) λys M1=>Q (acc++ys) M1
 |[],acc,M,hi=>by
  unfold zAk;obtain ⟨h1,h2⟩:=he acc M hi;rw[zVd h1];exact ⟨_,_,rfl,by simpa using h2⟩
 |x::r,acc,M,hi=>by
  unfold zAk;obtain ⟨h1,σ1,e1,k,M1,e2,q⟩:=hs x r acc M hi;rw[zVd h1,e1];dsimp only;rw[e2];cases k with
  |false=>exact zDm I hs he r acc M1 (by simpa using q)
  |true=>
   rw[zVd rfl,<-zAf]at q;obtain ⟨d,M2,e3,q⟩:=q;dsimp only;rw[e3];obtain ⟨ys,M3,e4,p⟩:=zDm I hs he r (acc++[d]) M2 q;dsimp only;rw[e4];exact ⟨_,_,rfl,by simpa using p⟩
theorem zDs {own:Yj} {i:FI} {g:FG} {tc:FT} {te:FE} {Q:EV->Mem->Prop}:Ok (zi own i g tc te σ M) Q ↔ ∃ xs gd M1,i σ M=some (xs,gd,M1)/\xs.length<=sizeLine/\Ok (zAk g tc te (zA2 own σ) xs gd xs M1) λys M2=>Q (.fl ys) M2:=by
 unfold zi;constructor
 .rintro ⟨o,M1,e,p⟩;split at e
  .rename_i xs gd M2 e1;split at e
   .rename_i hz;split at e
    .rename_i ys M3 e2;cases e;exact ⟨_,_,_,e1,hz,_,_,e2,p⟩
    .cases e
   .cases e
  .cases e
 .rintro ⟨xs,gd,M1,e1,hz,ys,M2,e2,p⟩;rw[e1];dsimp only;rw[zVd hz,e2];exact ⟨_,_,rfl,p⟩
theorem zCU {h:FE} {x:EV} {M1:Mem} {xs:List D} (e:h σ M=some (x,M1)) (e2:zAQ M1 x=some xs):zv h σ M=some (xs,zDn x xs,M1):=by
 unfold zv;rw[e];dsimp only;rw[e2]
theorem zGl {a:FA} {M1:Mem} {j:Int} (e:a σ M=some ([.int j],M1)) (h1:0<=j) (h2:j<2 ^ 62):zy a σ M=some ((List.range j.toNat).map λ(k:Nat)=>D.int k,none,M1):=by
 unfold zy;rw[e];dsimp only;rw[zVd ⟨by omega,h2⟩]
end
section
theorem zEK:Ok (zAP (.dat (.int i)) (.dat (.int j)) M) P ↔ P (.dat (.int (i+j))) M:=zp
theorem zON:Ok (zNd (.dat (.int i)) (.dat (.int j)) M) P ↔ zMt i j=true/\P (.dat (.int (i*j))) M:=by
 unfold zNd kI;dsimp only;split
 .rename_i h;rw[zp];simp[h]
 .rename_i h;rw[zFc];simp[h]
theorem zFK:Ok (zFD (.dat (.int i)) (.dat (.int j)) M) P ↔ 0<j/\P (.dat (.int (i % j))) M:=by
 unfold zFD kI;dsimp only;split
 .rename_i h;rw[zp];simp at h;simp[h]
 .rename_i h;rw[zFc];simp at h;simp;intro h';omega
theorem zOo:Ok (zNV (.dat (.int i)) (.dat (.int j)) M) P ↔ (0<j/\j<1073741824)/\P (.dat (.int (i / j))) M:=by
 unfold zNV kI;dsimp only;split
 .rename_i h;rw[zp];simp at h;simp[h]
 .rename_i h;rw[zFc];simp at h;simp;intro h' h2;have:=h h';omega
theorem zRo:Ok (zOc (.dat (.int i)) (.dat (.int j)) M) P ↔ (0<=j/\j<=1000000/\i.natAbs<2 ^ 64)/\P (.dat (.int (i ^ j.toNat))) M:=by
 unfold zOc kI;dsimp only;split
 .rename_i h;rw[zp];simp only[zVy,zWb]at h;simp[h]
 .rename_i h;rw[zFc];simp only[zVy,zWb,not_and]at h;simp only[false_iff,not_and];intro ⟨a,b,c⟩;exact absurd c (h ⟨a,b⟩)
theorem zU9:Ok (kLt (.dat (.int i)) (.dat (.int j)) M) P ↔ P (.dat (.bl (decide (i<j)))) M:=zp
theorem zVI:Ok (kGt (.dat (.int i)) (.dat (.int j)) M) P ↔ P (.dat (.bl (decide (j<i)))) M:=zp
theorem zVJ:Ok (kGe (.dat (.int i)) (.dat (.int j)) M) P ↔ P (.dat (.bl (decide (j<=i)))) M:=zp
theorem zJP:Ok (kEq (.dat (.int i)) (.dat (.int j)) M) P ↔ P (.dat (.bl (decide (i=j)))) M:=by
 have:kEq (.dat (.int i)) (.dat (.int j)) M=some (.dat (.bl (decide (V.int i=V.int j))),M):=rfl;rw[this,zp];simp
theorem zTP:Ok (kNe (.dat (.int i)) (.dat (.int j)) M) P ↔ P (.dat (.bl (decide (i≠j)))) M:=by
 have:kNe (.dat (.int i)) (.dat (.int j)) M=some (.dat (.bl (!decide (V.int i=V.int j))),M):=rfl;rw[this,zp];simp
theorem zQk {x:EV} {xs:List D} (h:zBB M x=some xs) (hx:∀ d,x=.dat d->zH3 d=none):Ok (kNe x (.fl []) M) P ↔ P (.dat (.bl (!xs.isEmpty))) M:=by
 have e1:zK5 true x (.fl []) M=none:=by cases x <;> rfl
 have e2:kNe x (.fl []) M=some (.dat (.bl (!xs.isEmpty)),M):=by
  unfold kNe kOr;rw[e1];unfold zPo;rw[h];rfl
 rw[e2,zp]
theorem zKU {x:EV} {xs:List D} {d:D} (h:zAQ M x=some xs) (hd:atI xs i=some d) (p:P (.dat d) M):Ok (kIx x (.dat (.int i)) M) P:=by
 have:kIx x (.dat (.int i)) M=some (.dat d,M):=by unfold kIx;dsimp only;rw[h];dsimp only;rw[hd]
 rw[this,zp];exact p
theorem zIk {xs:List D} {k:Nat} {d:D} (h:xs[k]?=some d):atI xs (k:Int)=some d:=zL9 h
theorem zI3 {xs:List D} {i:Int} {d:D} (h0:0<=i) (h:xs[i.toNat]?=some d):atI xs i=some d:=by
 have:i=((i.toNat:Nat):Int):=by omega
 rw[this];exact zL9 h
theorem zRm {x:EV} {xs:List D} (h:zAQ M x=some xs):Ok (zBM [x] M) P ↔ P (.dat (.int xs.length)) M:=by
 have:zBM [x] M=some (.dat (.int xs.length),M):=by unfold zBM;dsimp only;rw[h]
 rw[this,zp]
theorem zFZ {x:EV} {xs:List D} (h:zAQ M x=some xs):Ok (zAg [x] M) P ↔ P (.dat (.tup xs)) M:=by
 have:zAg [x] M=some (.dat (.tup xs),M):=by unfold zAg;dsimp only;rw[h]
 rw[this,zp]
theorem zRl:Ok (zMQ [.dat (.int i)] M) P ↔ P (.dat (.int (if i<0 then -i else i))) M:=zp
theorem zN7 {x:EV} {xs:List D} {lo hi:Ys} (h:zBB M x=some xs) (ht:zDK x=none):Ok (kSl x lo hi M) P ↔ P (.fl (zFS xs lo hi)) M:=by
 have:kSl x lo hi M=some (.fl (zFS xs lo hi),M):=by unfold kSl;rw[ht];dsimp only;rw[h]
 rw[this,zp]
theorem zg {xs:List D}:zAQ M (.dat (.tup xs))=some xs:=rfl
theorem zCh {xs:List D}:zAQ M (.fl xs)=some xs:=rfl
theorem zTE {xs:List D}:zBB M (.fl xs)=some xs:=rfl
theorem zBj {n:Nat} {xs:List D} (h:M[n]?=some (.lst xs)):zBB M (.dat (.ref n))=some xs:=by unfold zBB;dsimp only;rw[h]
theorem zLk {n:Nat} {xs:List D} (h:M[n]?=some (.fro xs)):zBB M (.dat (.ref n))=some xs:=by unfold zBB;dsimp only;rw[h]
theorem zAA {n:Nat} {xs:List D} (h:M[n]?=some (.lst xs)):zAQ M (.dat (.ref n))=some xs:=zBj h
theorem zQB {n:Nat} {xs:List D} (h:M[n]?=some (.fro xs)):zAQ M (.dat (.ref n))=some xs:=zLk h
theorem zGB {n:Nat} {xs:List D} {d:D} {Q:D->Mem->Prop} (h:M[n]?=some (.lst xs)) (hz:xs.length<sizeLine):Ok (zAq (.dat (.ref n)) [d] M) Q ↔ Q .non (M.set n (.lst (xs++[d]))):=by
 have:zAq (.dat (.ref n)) [d] M=some (.non,M.set n (.lst (xs++[d]))):=by unfold zAq;dsimp only;rw[h];dsimp only;rw[zVd hz]
 rw[this,zp]
theorem zTL {n:Nat} {x:D} {xs:List D} {Q:D->Mem->Prop} (h:M[n]?=some (.lst (x::xs))):Ok (zKQ (.dat (.ref n)) [.int 0] M) Q ↔ Q x (M.set n (.lst xs)):=by
 have:zKQ (.dat (.ref n)) [.int 0] M=some (x,M.set n (.lst xs)):=by
  unfold zKQ;dsimp only;rw[h];dsimp only;have e:ixN (x::xs).length 0=some 0:=by unfold ixN;rw[zVd (by omega),zVd (by simp)];rfl
  rw[e];dsimp only[List.getElem?_cons_zero];rw[zVd (by decide)];rfl
 rw[this,zp]
theorem zGb {n k:Nat} {xs:List D} {d:D} (h:M[n]?=some (.lst xs)) (hk:k<xs.length):zJi (.dat (.ref n)) (.int k) d M=some (M.set n (.lst (xs.set k d))):=by
 unfold zJi;dsimp only;rw[h];dsimp only;have e:ixN xs.length (k:Int)=some k:=by unfold ixN;rw[zVd (by omega),zVd (by omega)];simp
 rw[e]
end
theorem zQC {m:FF} {ds:List D} {M:Mem} {Q:D->Mem->Prop} (h:Ok (m ds M) λd M1=>(D.und M.length d=true/\M.length<=M1.length /\ ∀ (j:Nat) u,j<M.length->M1[j]?=some u->MO.und M.length u=true)/\Q d (M1.take M.length)):Ok (zJ3 m ds M) Q:=by
 obtain ⟨d,M1,e,⟨h1,h2,h3⟩,q⟩:=h;unfold zJ3;rw[e];dsimp only;rw[zVd]
 .exact ⟨_,_,rfl,q⟩
 .simp only[zVy,zWb,zVz];refine ⟨⟨h1,λu hu=>?_⟩,h2⟩;obtain ⟨j,hj⟩:=List.getElem?_of_mem hu;have hlt:j<M.length:=by
   have:=(zVR.mp hj).1;rw[zWm]at this;omega
  rw[List.getElem?_take_of_lt hlt]at hj;exact h3 j u hlt hj
theorem zDG {m:FF} {ds:List D} {M:Mem} {Q:D->Mem->Prop} (h0:D.unds 0 ds=true) (h:Ok (m ds []) λd _=>D.und 0 d=true/\Q d M):Ok (zDX m ds M) Q:=by
 obtain ⟨d,M1,e,h1,q⟩:=h;unfold zDX;rw[zVd h0,e];dsimp only;rw[zVd h1];exact ⟨_,_,rfl,q⟩
section
theorem Tup.but (x:h.IsTuple a its) (hs:Heap.ExtBut b h h') (n:a≠b):h'.IsTuple a its:=x.extBut hs n
theorem zGa (I:s.heap.IsTupleIter it t i) (T:s.heap.IsTuple t its) (hx:its[i]?=some x)
  (q:∀ h',h'.IsTupleIter it t (i+1)->Heap.SameBut it s.heap h'->Q x { s with heap:=h' }):wpAny (model prog w) A (Builtin.SmallTypes.nextOf (.ref it)) Q E s:=by
 obtain ⟨o,O,C,FD⟩:=id I;obtain ⟨u,U,_,m,G⟩:=T;unfold Builtin.SmallTypes.nextOf;refine zVO (zV0 (name:=Str.ofString "__next__") I.typeIs PySem.F.slot_tuple_iterator_next (zV1 PySem.F.slot_tuple_iterator_next I.typeIs PySem.F.entry_tuple_iterator_next ?_ (PySem.F.args_tuple_iterator_next_1 _)));refine zVO (m:=field (.ref it) 0) (zV3 O FD (x:=.ref t) rfl ?_);rw[zVg (show ¬ ((Value.ref t==Value.none)=true) by exact zVk)];refine zVO (m:=field (.ref it) 1) (zV3 O FD (x:=.int i 0) rfl ?_);refine zVO (m:=seqItems? (.ref t)) (zWE U G ?_);simp only[hx,zX8];refine zVO (zW9 O FD (by simp) (zVQ ⟨x,rfl,zVQ (q _ ⟨_,zWB _ O (Obj.isFreed_of_fields (zWf FD _)),(Obj.cls_mapFields ..).trans C,?_⟩ (zWR ..))⟩));rw[zWf FD];simp[rawInt]
theorem zE4 (hh:A.handled=none) (I:s.heap.IsTupleIter it t i) (T:s.heap.IsTuple t its) (hx:its[i]?=none)
  (q:∀ h' e,Heap.ExtBut it s.heap h'->(∃ o,h'.get? e=some o/\o.cls=.type "StopIteration")->E (.ref e) { s with heap:=h' }):wpAny (model prog w) A (Builtin.SmallTypes.nextOf (.ref it)) Q E s:=by
 obtain ⟨o,O,C,FD⟩:=id I;obtain ⟨u,U,_,m,G⟩:=T;unfold Builtin.SmallTypes.nextOf;refine zVO (zV0 (name:=Str.ofString "__next__") I.typeIs PySem.F.slot_tuple_iterator_next (zV1 PySem.F.slot_tuple_iterator_next I.typeIs PySem.F.entry_tuple_iterator_next ?_ (PySem.F.args_tuple_iterator_next_1 _)));refine zVO (m:=field (.ref it) 0) (zV3 O FD (x:=.ref t) rfl ?_);rw[zVg (show ¬ ((Value.ref t==Value.none)=true) by exact zVk)];refine zVO (m:=field (.ref it) 1) (zV3 O FD (x:=.int i 0) rfl ?_);refine zVO (m:=seqItems? (.ref t)) (zWE U G ?_);simp only[hx,zX8];refine zVO (zWl (zVO (zW9 O FD (by simp) ?_)));refine zVO (m:=newExc (.type "StopIteration") []) ?_;simp only[newTuple,newExc];refine zVO (zVr (zVO (m:=firstArgMember _ _) (wpAny_of_eq (a:=Value.none) (by first|rfl|(simp only[firstArgMember];rfl)) (zVr ?_ (by size_fits)))) (by size_fits));simp only[raiseNew];refine zVO (wpAny_handled ?_);first|rw[hh]|rw[show A.in1.handled=none from hh]
 exact zVO (zVQ (wpAny_throw (q _ _ (((zWR ..).extBut.push _).push _) ⟨_,zVY _ rfl,rfl⟩)))
end
theorem zFI {X:Cx} {zB:Yd} {σ:L2.St} {H:Hp} {s:Yl} {h':Heap} {t':Nat} {ch:Yg} {T:Yt} {o:HO} (I:Inv X zB σ H s) (hf:∀ b∈ch,zBr X zB H b)
  (k:∀ b u,b∉ch->s.heap.get? b=some u->h'.get? b=some u) (hT:s.heap.objs.size<=T) (new:zAT X.prog X.w (upd H T o) h' T o):Inv X zB σ (upd H T o) { s with heap:=h',toks:=t' }:=by
 have hn:H T=none:=I.hok.fresh hT;have nch:∀ b u,H b=some u->b∉ch:=λb u e z=>by rw[(hf b z).1]at e;cases e
 have un:∀ b u,H b=some u->upd H T o b=some u:=λb u e=>by rw[zT (zk e hn)];exact e
 refine I.step (g':=s.gens) (d':=s.drawn) (ch:=ch) (λb hb=>⟨(hf b hb).2.2.2.1,(hf b hb).2.1,(hf b hb).2.2.2.2.1,(hf b hb).2.2.2.2.2⟩) (λb u _ _ hc e _=>k b u hc e) (λb u _ _ hc e _=>⟨u.slots,k b u hc e⟩)
  (λb u _ e n=>by rw[zT (λz=>by rw[z]at e;exact absurd (zVZ e) (Nat.not_lt.mpr hT))];exact n) (λb u hc e=>⟨u,k b u hc e⟩) (λb xs e=>un b _ e) (λb p u e=>un b _ e) (λb ps e=>⟨#[],by rw[un b _ e];simp⟩) (λm hm=>?_) (λb u e=>?_) I.bare
 .obtain ⟨p,es,ep,ho,r⟩:=hm;exact ⟨p,es,ep,k _ p (λz=>(hf _ z).2.1 rfl) ho,r⟩
 .by_cases hb:b=T
  .subst hb;rw[zj]at e;cases e;exact new
  .rw[zT hb]at e;refine (I.hok b u e).stay (λc v hc q=>k c v ?_ q) (λc q=>un c _ q) λc xs q=>un c _ q;rcases hc with z|z
   .rw[z];exact nch b u e
   .exact nch c _ z
theorem zDy {X:Cx} {zB:Yd} {σ:L2.St} {H:Hp} {s:Yl} {h':Heap} {t':Nat} {ch:Yg} (I:Inv X zB σ H s) (hf:∀ b∈ch,zBr X zB H b)
  (k:∀ b u,b∉ch->s.heap.get? b=some u->h'.get? b=some u):Inv X zB σ H { s with heap:=h',toks:=t' }:=by
 have nch:∀ b u,H b=some u->b∉ch:=λb u e z=>by rw[(hf b z).1]at e;cases e
 refine I.step (g':=s.gens) (d':=s.drawn) (ch:=ch) (λb hb=>⟨(hf b hb).2.2.2.1,(hf b hb).2.1,(hf b hb).2.2.2.2.1,(hf b hb).2.2.2.2.2⟩) (λb u _ _ hc e _=>k b u hc e) (λb u _ _ hc e _=>⟨u.slots,k b u hc e⟩)
  (λb u _ e n=>n) (λb u hc e=>⟨u,k b u hc e⟩) (λb xs e=>e) (λb p u e=>e) (λb ps e=>⟨#[],by rw[e];simp⟩) (λm hm=>?_) (λb u e=>?_) I.bare
 .obtain ⟨p,es,ep,ho,r⟩:=hm;exact ⟨p,es,ep,k _ p (λz=>(hf _ z).2.1 rfl) ho,r⟩
 .refine (I.hok b u e).stay (λc v hc q=>k c v ?_ q) (λc q=>q) λc xs q=>q;rcases hc with z|z
  .rw[z];exact nch b u e
  .exact nch c _ z
section
def zD2 (i j:Nat):FG:=λd σ=>match d with
 |.tup [x,y]=>some ((σ.set i (some x)).set j (some y))
 |_=>none
abbrev gP2 (K:Yb) (i j:Nat):TG:=zOp K 2 (zD3 (zBS i) (zD3 (zBS j) zOb))
theorem zNp {K:Yb} {i j:Nat}:GOk (gP2 K i j) (zD2 i j):=by
 intro L H σ σ' τ d v Q rs r hf q;unfold zD2 at hf;split at hf
 .rename_i x y;cases hf;unfold Rep at r;obtain ⟨a,vs,rfl,e,r⟩:=r;obtain ⟨v1,v2,rfl,r1,r2⟩:=r.two;exact ⟨a,_,rfl,.of e,rfl,v1,[v2],rfl,v2,[],rfl,rfl,q _ ((rs.set r1).set r2)⟩
 .cases hf
theorem zMf {K:Yb} {own:Yj} {i j:Nat} (hi:i∈own) (hj:j∈own):zEL own (gP2 K i j) (zD2 i j):=by
 intro L H σ σ' τ τ0 d v Q rs ex r hf q;unfold zD2 at hf;split at hf
 .rename_i x y;cases hf;unfold Rep at r;obtain ⟨a,vs,rfl,e,r⟩:=r;obtain ⟨v1,v2,rfl,r1,r2⟩:=r.two;exact ⟨a,_,rfl,.of e,rfl,v1,[v2],rfl,v2,[],rfl,rfl,q _ ((rs.set r1).set r2) ((ex.set hi).set hj)⟩
 .cases hf
end
section
variable {X:Cx}
theorem zLu:∀ {bs:List Bool} {its:Yf},zZ (bs.map V.bl) its -> ∀ (i:Nat) v,its[i]?=some v -> ∃ k,bs[i]?=some k/\v=.bool k
 |[],_,.nil,_,_,h=>by simp at h
 |k::bs,_,.cons r t,0,v,h=>by
  simp at h;subst h;exact ⟨k,rfl,r⟩
 |k::bs,_,.cons r t,i+1,v,h=>by
  obtain ⟨k',e1,e2⟩:=zLu t i v (by simpa using h);exact ⟨k',by simpa using e1,e2⟩
theorem zKy (bs:List Bool):((List.range bs.length).all λi=>(bs[i]?).getD true)=bs.all id:=by
 rw[Bool.eq_iff_iff,zVz,zVz];constructor
 .intro q k hk;obtain ⟨i,hi,rfl⟩:=zXR hk;have:=q i (zV2.mpr hi);rw[zVS hi]at this;exact this
 .intro q i hi;rw[zVS (zV2.mp hi)];exact q _ (zVw _)
def zUX (K:Yb) (F:List Bool->Bool):List V->Hp->VK->Prop:=λxs H Q=>∃ q bs,xs=[.ref q]/\SqL K H q (bs.map V.bl)/\Q (.bl (F bs)) H
theorem zNI (hc:X.calm=true):zBT X (.builtin "all") (zUX X.K λbs=>bs.all id):=by
 intro zB s σ H xs us Q I r h;obtain ⟨l,bs,rfl,hq,q⟩:=h;obtain ⟨u,rfl,rx⟩:=zCo r;cases rx;obtain ⟨its,rv,pl,_⟩:=I.list hq;have hlt:l<s.heap.objs.size:=by obtain ⟨_,z,_⟩:=pl.isList;exact zVZ z
 refine call_all_walk (wpAny_pyIter_list pl.isList ⟨s.heap.objs.size,[s.heap.objs.size,l],[s.heap.objs.size],its.toArray.size,_,_,λi=>(bs[i]?).getD true,rfl,Walks.list (A:=X.A.in1) (I.ok.hd hc) _ l (zVj hlt) its.toArray,
  ⟨⟨_,zVY _ rfl,rfl,rfl⟩,pl.isList.push _⟩,λi v s' Q' E' hP hQ=>?_,λh' tk hk=>?_⟩)
 .obtain ⟨k,z,rfl⟩:=zLu rv i v (by simpa using hP);dsimp only at hQ;rw[z]at hQ;exact wpAny_truthy_bool hQ
 .have hl:=rv.length;rw[zVX]at hl;rw[zVW,<-hl,zKy];exact ⟨.bl _,H,I.kept (t':=tk) λb o z=>hk b o (λm=>by rw[zVq.mp m]at z;exact zV6 _ (zVZ z)) (zVP _ z),rfl,q⟩
def zFG:List D->Option (List Bool)
 |[]=>some []
 |.bl k::r=>match zFG r with
  |some bs=>some (k::bs)
  |none=>none
 |_=>none
theorem zLj:∀ {ds:List D} {bs:List Bool} {vs:List V},zFG ds=some bs->zL L H ds vs->vs=bs.map V.bl
 |[],bs,vs,e,r=>by cases e;unfold zL at r;exact r
 |d::ds,bs,vs,e,r=>by
  unfold zL at r;obtain ⟨v,r',rfl,r1,r2⟩:=r;cases d with
  |bl k=>
   unfold zFG at e;cases q:zFG ds with
   |none=>rw[q]at e;cases e
   |some bs'=>
    rw[q]at e;cases e;unfold Rep at r1;rw[r1,zLj q r2];rfl
  |_=>cases e
def zNQ (F:List Bool->Bool):KB:=λxs M=>match xs with
 |[x]=>match zBB M x with
  |some ds=>match zFG ds with
   |some bs=>some (.dat (.bl (F bs)),M)
   |none=>none
  |none=>none
 |_=>none
theorem zQT {K:Yb} {F:List Bool->Bool}:zEk K (zUX K F) (zNQ F):=by
 intro L M M' H H0 xs d vs Q c r hk q;unfold zNQ at hk;split at hk
 .rename_i x;split at hk
  .rename_i ds e1;split at hk
   .rename_i bs e2;cases hk;obtain ⟨v,rfl,r1⟩:=r.one;obtain ⟨l,ws,rfl,h1,r2⟩:=zAw c r1 e1;have:=zLj e2 r2;subst this;exact ⟨l,bs,rfl,.inl h1,q L H _ (.refl L H) c (zC3 (L:=L) (H:=H))⟩
   .cases hk
  .cases hk
 .cases hk
abbrev zS6:KB:=zNQ λbs=>bs.all id
section
theorem zT4 (hc:X.calm=true) (hg:Gl X "all") (hm:X.mg "all" = none) (ha:QAE X [e] fa) (he:starEach [e] X.env=(false,eval e X.env)::starEach [] X.env:=by rfl) (hpl:(backTo pos (starEach [] X.env)).any (·.1)=false:=by rfl):QE X (.Call (.Name "all" p) [e] [] pos) (fB zS6 fa) :=
 zCT zQT (zNI hc) (by rfl) hg hm ha (by decide) (by decide) he hpl
end
theorem zUL (h:zBB M x=some ds) (hb:zFG ds=some bs):Ok (zNQ F [x] M) P ↔ P (.dat (.bl (F bs))) M:=by
 have:zNQ F [x] M=some (.dat (.bl (F bs)),M):=by unfold zNQ;dsimp only;rw[h];dsimp only;rw[hb]
 rw[this,zp]
theorem zH4:∀ bs:List Bool,zFG (bs.map D.bl)=some bs
 |[]=>rfl
 |k::bs=>by rw[zVh];unfold zFG;rw[zH4 bs]
def zGF:KB:=λxs M=>match xs with
 |[x]=>match zAQ M x with
  |some ys=>some (.fl ys,M)
  |none=>none
 |_=>none
theorem zNt:zEk X.K (λxs H Q=>∃ q ys,xs=[.ref q]/\(SqL X.K H q ys\/SqT X.K H q ys) /\ ∀ l,H l=none->Q (.ref l) (upd H l (.lst ys))) zGF:=by
 intro L M M' H H0 xs d vs Q cc r hk q;unfold zGF at hk;split at hk
 .rename_i x;split at hk
  .rename_i ys e1;cases hk;obtain ⟨v,rfl,r1⟩:=r.one;obtain ⟨l,ws,rfl,hs,r2⟩:=zH5 cc r1 e1;refine ⟨l,ws,rfl,hs,λk hk=>?_⟩;exact q L _ _ (.upd hk) (cc.upd hk) (zf.newLst (.refl L H) cc cc hk r2)
  .cases hk
 .cases hk
theorem zTD (hg:Gl X "list") (hm:X.mg "list" = none) (ha:QAE X [e] fa) (he:starEach [e] X.env=(false,eval e X.env)::starEach [] X.env:=by rfl) (hpl:(backTo pos (starEach [] X.env)).any (·.1)=false:=by rfl):QE X (.Call (.Name "list" p) [e] [] pos) (fB zGF fa) :=
 zEb zNt zIJ (by rfl) hg hm ha (by decide) (by decide) he hpl
theorem zSx (hh:zAQ M x=some xs):Ok (zGF [x] M) P ↔ P (.fl xs) M:=by
 have:zGF [x] M=some (.fl xs,M):=by unfold zGF;dsimp only;rw[hh]
 rw[this,zp]
end
open AutoSeq1 (wpAny_loadPart')
section
theorem zO2 {r:Yt} {lo hi:Int} {t u v:Tok} {n:Nat} {Q:List Value->Shared->Prop} (hh:A.handled=none) (R:IsRange s.heap r lo hi 1 t u v) (sm:Builtin.Range.small lo hi 1=true) (hn:Builtin.Range.rangeSize lo hi 1=n) (hz:n<=2 ^ 24)
  (q:∀ h' tk (acc:Yp),(∀ b o,s.heap.get? b=some o->h'.get? b=some o)->ItemsOf (λi v=>∃ t,v=.int (lo+i*1) t) acc n->Q acc.toList { s with heap:=h',toks:=tk }):wpAny (model prog w) A (collect (.ref r)) Q E s:=by
 unfold collect;refine zVO (wpAny_runValue (codeAny_builtin PySem.F.entry_proto_collect ?_));rw[zWJ PySem.F.plain_proto_collect _];refine zVO (m:=newList []) (zVr (zVQ ⟨plainId_quiet PySem.F.plain_list_iadd _,codeAny_builtin PySem.F.entry_list_iadd ?_⟩));rw[zWJ PySem.F.plain_list_iadd _];have S0:(s.heap.push { cls:=.type "list", data:=.seq ([]:List Value).toArray }).get? s.heap.objs.size=some { cls:=.type "list", data:=.seq #[] 0 }:=zVY _ rfl
 have fin:∀ (h':Heap) (tk:Nat) (acc:Array Value) (k:Nat),(∀ b o,b≠s.heap.objs.size->(s.heap.push { cls:=.type "list", data:=.seq ([]:List Value).toArray }).get? b=some o->h'.get? b=some o) ->
   h'.get? s.heap.objs.size=some { cls:=.type "list", dict:=none,data:=.seq acc k,slots:=#[] }->ItemsOf (λi v=>∃ t,v=.int (lo+i*1) t) acc n ->
   wpAny (model prog w) A (match Value.ref s.heap.objs.size with
    |Value.ref a=>do
     match (<- load a).data with
      |Data.seq xs _=>pure xs.toList
      |_=>unsupported "internal:collect"
    |_=>unsupported "internal:collect") Q E { s with heap:=h',toks:=tk }:=λh' tk acc k kp e it=>by
  refine zVO (m:=load s.heap.objs.size) (wpAny_load e (zVQ (q h' tk acc (λb o m=>kp b o (zVj (zVZ m)) (zVP _ m)) it)))
 refine zVu (wpAny_extend_range (A:=A) (s:={ s with heap:=s.heap.push { cls:=.type "list", data:=.seq ([]:List Value).toArray } })
  (R:=λr s'=>r=.ok (.ret (.ref s.heap.objs.size)) /\ ∃ h' tk acc k,s'={ s with heap:=h',toks:=tk }/\(∀ b o,b≠s.heap.objs.size->(s.heap.push { cls:=.type "list", data:=.seq ([]:List Value).toArray }).get? b=some o->h'.get? b=some o) /\
   h'.get? s.heap.objs.size=some { cls:=.type "list", dict:=none,data:=.seq acc k,slots:=#[] }/\ItemsOf (λi v=>∃ t,v=.int (lo+i*1) t) acc n)
  hh (zVP _ R) sm hn hz s.heap.objs.size (.ref s.heap.objs.size) 0 S0 λh' tk acc k kp e it=>⟨rfl,h',tk,acc,k,rfl,kp,e,it⟩) (λf s' z=>?_) (λe s' z=>?_)
 .cases f with
  |done f=>
   obtain ⟨e,h',tk,acc,k,rfl,z1,z2,z3⟩:=z;cases e;exact fin h' tk acc k z1 z2 z3
  |again c'=>exact ⟨z.1,codeAny_mono z.2 λr s'' z=>by obtain ⟨rfl,h',tk,acc,k,rfl,z1,z2,z3⟩:=z;exact fin h' tk acc k z1 z2 z3⟩
 .exact absurd z.1 (by simp)
end
theorem zIT (r:Yt) (lo hi:Int) (t u v:Tok) (n:Nat) (sm:Builtin.Range.small lo hi 1=true) (hn:Builtin.Range.rangeSize lo hi 1=n) (hz:n<=2 ^ 24) :
  Meets (Builtin.«tuple.__new__» ⟨[.type "tuple", .ref r],[]⟩) (λA R s=>A.handled=none/\IsRange s.heap r lo hi 1 t u v /\
   ∀ (h':Heap) (tk:Nat) (acc:Array Value),(∀ b o,s.heap.get? b=some o->h'.get? b=some o)->ItemsOf (λi v=>∃ t,v=.int (lo+i*1) t) acc n->R (.ok (.ret (.ref h'.objs.size))) { s with heap:=h'.push { cls:=.type "tuple", data:=.seq acc },toks:=tk }) :=
 .of_wp λprog w A R s h=>by
  obtain ⟨hp,g,d,tk,os⟩:=s;obtain ⟨hh,Ra,h⟩:=h;have h1:=sub_tuple_self;have h2:=init_tuple_lookup;have h3:=madeHere_tuple;have T:Shared.TypeIs ⟨hp,g,d,tk,os⟩ (.ref r) "range" := ⟨_,Ra,rfl⟩;wp_walk using wpAny_loadPart' Ra,wpAny_typeOf T,zO2 (show A.in1.handled=none from hh) Ra sm hn hz;intro h' tk' acc kp it;refine zVO (m:=Builtin.Tuple.tupleExact acc.toList.toArray) ?_;unfold Builtin.Tuple.tupleExact;have sz:acc.toList.toArray.size<=sizeLine:=by rw[zVW,zV7,it.1,sizeLine_eq];omega
  refine zVr (zVQ ⟨_,rfl,?_⟩) sz;have e:acc.toList.toArray=acc:=by simp
  rw[e];exact h h' tk' acc kp it
section
theorem zKH:zBT X (.type "range") (λxs H Q=>∃ j,xs=[.int j] /\ ∀ l,H l=none->Q (.ref l) (upd H l (.rng 0 j))):=by
 intro zB s σ H xs us Q I r h;obtain ⟨j,rfl,q⟩:=h;obtain ⟨u,rfl,rx⟩:=zCo r;obtain ⟨t,rfl⟩:=rx;refine call_range_1 ⟨.ref s.heap.objs.size,_,I.laid (λb o z=>zVP _ z) (zVU _) ?_,rfl,q _ (I.hok.fresh (zVU _))⟩;exact ⟨_,_,_,zVY _ rfl⟩
def upV (n:Nat):List V:=(List.range n).map λ(k:Nat)=>V.int k
theorem zKM (h:ItemsOf (λi v=>∃ t,v=.int ((0:Int)+i*1) t) acc n):zZ (upV n) acc.toList:=by
 obtain ⟨hz,hi⟩:=h;have:∀ (xs:Yf) (k:Nat),(∀ j v,xs[j]?=some v -> ∃ t,v=Value.int ((k+j:Nat):Int) t)->zZ ((List.range' k xs.length).map λ(k:Nat)=>V.int k) xs:=by
  intro xs;induction xs with
  |nil=>intro k _;exact .nil
  |cons x xs ih=>
   intro k hk;rw[zVv,List.range'_succ,zVh];refine .cons ?_ (ih (k+1) λj v e=>?_)
   .obtain ⟨t,e⟩:=hk 0 x rfl;exact ⟨t,by simpa using e⟩
   .obtain ⟨t,e'⟩:=hk (j+1) v (by simpa using e);exact ⟨t,by rw[e'];congr 2;omega⟩
 have q:=this acc.toList 0 (λj v e=>by
  obtain ⟨t,e'⟩:=hi j v (by simpa using e);exact ⟨t,by rw[e'];congr 1;omega⟩)
 unfold upV;rw[List.range_eq_range'];rw[zV7,hz]at q;exact q
theorem zHH (h0:0<=j) (h1:j<=16777216):Builtin.Range.small 0 j 1=true/\Builtin.Range.rangeSize 0 j 1=(j.toNat:Int):=by
 refine ⟨small_one (by omega) (by omega) (by omega) (by omega),?_⟩;rw[rangeSize_one];split <;> omega
def zUE (mk:List V->HO):List V->Hp->VK->Prop:=λxs H Q=>∃ r j,xs=[.ref r]/\H r=some (.rng 0 j)/\0<=j/\j<=16777216 /\ ∀ l,H l=none->Q (.ref l) (upd H l (mk (upV j.toNat)))
theorem zFf (n:Nat):(upV n).length=n:=by unfold upV;simp
theorem zMc (hc:X.calm=true):zBT X (.type "tuple") (zUE HO.tup):=by
 intro zB s σ H xs us Q I r h;obtain ⟨l,j,rfl,hr,h0,h1,q⟩:=h;obtain ⟨u,rfl,rx⟩:=zCo r;cases rx;obtain ⟨t,u,v,er⟩:=(show zAT X.prog X.w H s.heap l (.rng 0 j)from I.hok l _ hr);obtain ⟨sm,sz⟩:=zHH h0 h1
 refine callType_new PySem.F.called_tuple (by decide) (PySem.F.typeCall_tuple_1 _) (PySem.F.newCall_tuple_1 _) (λobj=>PySem.F.args_object_init_2 obj _) PySem.F.entry_tuple_new (zIT l 0 j t u v j.toNat sm sz (by omega))
  ⟨I.ok.hd hc,er,λh' tk acc kp it=>⟨⟨_,zVY _ rfl,rfl⟩,?_⟩⟩
 have I1:Inv X zB σ H { s with heap:=h',toks:=tk }:=I.kept kp;refine ⟨.ref h'.objs.size,_,I1.laid (t':=tk) (λb o z=>zVP _ z) (zVU _) ?_,rfl,q _ (I1.hok.fresh (zVU _))⟩;exact ⟨by rw[zFf,sizeLine_eq];omega,acc.toList,zKM it,by simpa using zCD.new h' acc⟩
theorem zNU (hc:X.calm=true):zBT X (.type "list") (zUE HO.lst):=by
 intro zB s σ H xs us Q I r h;obtain ⟨l,j,rfl,hr,h0,h1,q⟩:=h;obtain ⟨u,rfl,rx⟩:=zCo r;cases rx;obtain ⟨t,u,v,er⟩:=(show zAT X.prog X.w H s.heap l (.rng 0 j)from I.hok l _ hr);obtain ⟨sm,sz⟩:=zHH h0 h1;refine call_list_range (I.ok.hd hc) er sm sz (by omega) λh' tk acc k kp z it=>?_;refine ⟨.ref s.heap.objs.size,_,I.laid (t':=tk) kp (zVU _) (show zAT X.prog X.w _ h' _ (.lst (upV j.toNat))from ⟨by rw[zFf,sizeLine_eq];omega,acc.toList,k,zKM it,by simpa using z⟩),rfl,q _ (I.hok.fresh (zVU _))⟩
def upD (n:Nat):List D:=(List.range n).map λ(k:Nat)=>D.int k
theorem zML (n:Nat):zL L H (upD n) (upV n):=by
 have:∀ xs:List Nat,zL L H (xs.map λ(k:Nat)=>D.int k) (xs.map λ(k:Nat)=>V.int k):=by
  intro xs;induction xs with
  |nil=>exact .nil
  |cons x xs ih=>exact .cons zAF ih
 exact this _
def zMF (f:FE):FE:=λσ M=>match f σ M with
 |some (.dat (.int j),M1)=>if 0<=j/\j<=16777216 then some (.dat (.tup (upD j.toNat)),M1) else none
 |_=>none
def zFL (f:FE):FE:=λσ M=>match f σ M with
 |some (.dat (.int j),M1)=>if 0<=j/\j<=16777216 then some (.fl (upD j.toNat),M1) else none
 |_=>none
theorem zSI (hc:X.calm=true) (hg:Gl X "tuple") (hm:X.mg "tuple" = none) (hg2:Gl X "range") (hm2:X.mg "range" = none) (ha:QE X a f)
  (he:starEach [Expr.Call (.Name "range" p2) [a] [] pos2] X.env=(false,eval (Expr.Call (.Name "range" p2) [a] [] pos2) X.env)::starEach [] X.env:=by rfl) (hpl:(backTo pos (starEach [] X.env)).any (·.1)=false:=by rfl)
  (he2:starEach [a] X.env=(false,eval a X.env)::starEach [] X.env:=by rfl) (hpl2:(backTo pos2 (starEach [] X.env)).any (·.1)=false:=by rfl) :
  QE X (.Call (.Name "tuple" p) [.Call (.Name "range" p2) [a] [] pos2] [] pos) (zMF f) :=
 .mk <| PE.imp (zCn (zMc hc) hg hm (by rfl) (zDp (zCn zKH hg2 hm2 boot_range (zDp ha.un zE2 he2) (by decide) (by decide) he2 hpl2) zE2 he) (by decide) (by decide) he hpl) λτ H Q zz=>by
  obtain ⟨L,σ,M,d,M',c,rs,hf,q⟩:=zz;unfold zMF at hf;split at hf
  .rename_i j M1 e1;split at hf
   .rename_i hb;cases hf;refine ⟨L,σ,M,_,_,c,rs,e1,λL1 H1 v s1 c1 r1=>⟨j,by unfold zf Rep at r1;rw[r1],λl hl=>⟨l,j,rfl,zj,hb.1,hb.2,λk hk=>?_⟩⟩⟩;exact q L1 _ _ ((s1.trans (.upd hl)).trans (.upd hk)) ((c1.upd hl).upd hk) (Rep.newTup hk (zML _))
   .cases hf
  .cases hf
theorem zTY (hc:X.calm=true) (hg:Gl X "list") (hm:X.mg "list" = none) (hg2:Gl X "range") (hm2:X.mg "range" = none) (ha:QE X a f)
  (he:starEach [Expr.Call (.Name "range" p2) [a] [] pos2] X.env=(false,eval (Expr.Call (.Name "range" p2) [a] [] pos2) X.env)::starEach [] X.env:=by rfl) (hpl:(backTo pos (starEach [] X.env)).any (·.1)=false:=by rfl)
  (he2:starEach [a] X.env=(false,eval a X.env)::starEach [] X.env:=by rfl) (hpl2:(backTo pos2 (starEach [] X.env)).any (·.1)=false:=by rfl) :
  QE X (.Call (.Name "list" p) [.Call (.Name "range" p2) [a] [] pos2] [] pos) (zFL f) :=
 .mk <| PE.imp (zCn (zNU hc) hg hm (by rfl) (zDp (zCn zKH hg2 hm2 boot_range (zDp ha.un zE2 he2) (by decide) (by decide) he2 hpl2) zE2 he) (by decide) (by decide) he hpl) λτ H Q zz=>by
  obtain ⟨L,σ,M,d,M',c,rs,hf,q⟩:=zz;unfold zFL at hf;split at hf
  .rename_i j M1 e1;split at hf
   .rename_i hb;cases hf;refine ⟨L,σ,M,_,_,c,rs,e1,λL1 H1 v s1 c1 r1=>⟨j,by unfold zf Rep at r1;rw[r1],λl hl=>⟨l,j,rfl,zj,hb.1,hb.2,λk hk=>?_⟩⟩⟩;have s2:Stp L H L1 (upd H1 l (.rng 0 j)):=s1.trans (.upd hl);exact q L1 _ _ (s2.trans (.upd hk)) ((c1.upd hl).upd hk) (zf.newLst s2 c (c1.upd hl) hk (zML _))
   .cases hf
  .cases hf
end
def zEW:Expr->Bool
 |.Starred .. =>false
 |_=>true
theorem zX (h:zEW e=true):starEach (e::es) env=(false,eval e env)::starEach es env:=by
 cases e <;> first|rfl|cases h
theorem zGH (h:zEW e=true):starEach [e] env=[(false,eval e env)]:=zX h
theorem zOq (h:zEW e=true) (h':zEW e'=true):starEach [e,e'] env=[(false,eval e env),(false,eval e' env)]:=by rw[zX h,zGH h']
theorem zEY:∀ {es:Yi},es.all zEW=true->(backTo pos (starEach es env)).any (·.1)=false
 |[],_=>rfl
 |e::es,h=>by
  rw[List.all_cons,zVy]at h;rw[zX h.1];have:=zEY (pos:=pos) (env:=env) h.2;simpa [backTo] using this
theorem Cor.pushO {K:Yb} {L:Yg} {M:List MO} {H:Hp} {p:Yt} {o:HO} {m:MO} (c:Cor K L M H) (h:H p=none) (new:zGI K (L++[p]) (L2.upd H p o) p m) :
  Cor K (L++[p]) (M++[m]) (L2.upd H p o)/\Stp L H (L++[p]) (L2.upd H p o):=by
 have hp:p∉L:=λz=>by obtain ⟨o,e⟩:=c.tracked z;rw[h]at e;cases e
 have st:Stp L H (L++[p]) (L2.upd H p o):=by
  refine ⟨⟨[p],rfl⟩,λa ha=>?_,λa o e _=>?_,λa o e=>?_,λa o u e=>?_⟩
  .rcases zVo.mp ha with z|z
   .exact .inl z
   .have:a=p:=by simpa using z
    subst this;exact .inr h
  all_goals (rw[zT (zk e h)];exact e)
 refine ⟨⟨by simp[c.len],?_,λn a m e1 e2=>?_⟩,st⟩
 .rw[zWc];exact ⟨c.nd,by simp,λa ha b hb z=>by
   have:b=p:=by simpa using hb
   subst this;subst z;exact hp ha⟩
 .by_cases hn:n<L.length
  .rw[zVV hn]at e1;rw[zVV (by rw[<-c.len];exact hn)]at e2;exact (c.obj n a m e1 e2).stp st λo e=>by rw[zT (zk e h)];exact e
  .have hn':n=L.length:=by
    have:=(zVR.mp e1).1;rw[zVe]at this;simp at this;omega
   subst hn';simp at e1;rw[c.len]at e2;simp at e2;subst e1;subst e2;exact new
theorem Cor.put {K:Yb} {L:Yg} {M:List MO} {H:Hp} {n:Nat} {p:Yt} {o o':HO} {m:MO} (c:Cor K L M H) (h1:L[n]?=some p) (ho:H p=some o) (ht:∀ xs,o≠.tup xs) (hf:∀ a u,o≠.frz a u)
  (new:Stp L H L (L2.upd H p o')->zGI K L (L2.upd H p o') p m):Cor K L (M.set n m) (L2.upd H p o')/\Stp L H L (L2.upd H p o'):=by
 have st:Stp L H L (L2.upd H p o'):=by
  refine ⟨⟨[],by simp⟩,λa ha=> .inl ha,λa o e ha=>?_,λa xs e=>?_,λa b u e=>?_⟩
  .rw[zT (show a≠p from λz=>ha (by rw[z];exact List.mem_of_getElem? h1))];exact e
  .rw[zT (zGm e ho (λz=>ht xs z.symm))];exact e
  .rw[zT (zGm e ho (λz=>hf b u z.symm))];exact e
 refine ⟨⟨by simp[c.len],c.nd,λk a m' e1 e2=>?_⟩,st⟩;rw[zWx]at e2;split at e2
 .rename_i hk;subst hk;rw[h1]at e1;cases e1;split at e2
  .cases e2;exact new st
  .cases e2
 .rename_i hk;have hne:a≠p:=λz=>hk (by
   subst z;exact (List.getElem?_inj (zVR.mp h1).1 c.nd).mp (h1.trans e1.symm))
  exact (c.obj k a m' e1 e2).stp st λo e=>by rw[zT hne];exact e
section
def zKi:FE:=λ_ M=>some (.dat (.ref M.length),M++[.dict []])
def zIP:FE:=λ_ M=>some (.dat (.ref M.length),M++[.dicT []])
theorem zQO:QE X (.Dict [] [] pos) zKi:=.mk <| PE.imp zPb λτ H Q ⟨L,σ,M,d,M',c,rs,hf,q⟩ p hp=>by
 unfold zKi at hf;cases hf;obtain ⟨c2,s2⟩:=c.pushO (m:=.dict []) hp ⟨[],zj,rfl⟩;refine q _ _ _ s2 c2 ?_;unfold zf Rep;exact ⟨p,rfl,by rw[<-c.len];simp⟩
theorem zQo:QE X (.Dict [] [] pos) zIP:=.mk <| PE.imp zOy λτ H Q ⟨L,σ,M,d,M',c,rs,hf,q⟩ p hp=>by
 unfold zIP at hf;cases hf;obtain ⟨c2,s2⟩:=c.pushO (m:=.dicT []) hp ⟨[],zj,rfl⟩;refine q _ _ _ s2 c2 ?_;unfold zf Rep;exact ⟨p,rfl,by rw[<-c.len];simp⟩
theorem zFb (h:Rep L H d v) (e:zBw d=some k):v=kV k:=by
 cases d with
 |int i=>cases e;unfold Rep at h;exact h
 |str x=>cases e;unfold Rep at h;exact h
 |_=>cases e
def zK6 (M:Mem):EV->Option (List D)
 |.fl xs=>some xs
 |.dat (.ref n)=>match M[n]? with
  |some (.lst xs)=>some xs
  |_=>none
 |_=>none
theorem zOf {K:Yb} {L:Yg} {M:Mem} {H H0:Hp} {x:EV} {v:V} {xs:List D} (c:Cor K L M H) (r:zf H0 L H x v) (h:zK6 M x=some xs):∃ a vs,v=.ref a/\H a=some (.lst vs)/\zL L H xs vs:=by
 cases x with
 |fl ys=>
  cases h;obtain ⟨p,vs,rfl,_,e,_,r⟩:=r;exact ⟨p,vs,rfl,e,r⟩
 |dat d=>
  cases d with
  |ref n=>
   unfold zf Rep at r;obtain ⟨a,rfl,e⟩:=r;unfold zK6 at h;dsimp only at h;split at h
   .rename_i ys q;cases h;obtain ⟨vs,e1,r1⟩:=c.obj n a _ e q;exact ⟨a,vs,rfl,e1,r1⟩
   .cases h
  |_=>cases h
def zHd:K2:=λx y M=>match zK6 M x,zK6 M y with
 |some xs,some ys=>if xs.length+ys.length<=sizeLine then some (.fl (xs++ys),M) else none
 |_,_=>none
theorem zOF {K:Yb}:zDQ K zTe zHd:=by
 intro L M M' H H0 x y d v w Q c rx ry hk q;unfold zHd at hk;split at hk
 .rename_i xs ys e1 e2;split at hk
  .rename_i hz;cases hk;obtain ⟨l,vs,rfl,h1,r1⟩:=zOf c rx e1;obtain ⟨l2,ws,rfl,h2,r2⟩:=zOf c ry e2;refine ⟨l,l2,vs,ws,rfl,rfl,h1,h2,by rw[r1.length,r2.length];exact hz,λp hp=>?_⟩;exact q L _ _ (.upd hp) (c.upd hp) (zf.newLst (.refl L H) c c hp (r1.app r2))
  .cases hk
 .cases hk
theorem zTJ (h1:QE X a f) (h2:QE X b g):QE X (.BinOp a .Add b pos) (fOp zHd f g):=zLU zOF zS4 h1 h2
theorem zTR (h1:zK6 M x=some xs) (h2:zK6 M y=some ys) (hz:xs.length+ys.length<=100000) (q:P (.fl (xs++ys)) M):Ok (zHd x y M) P:=by
 refine ⟨_,_,?_,q⟩;unfold zHd;rw[h1,h2];dsimp only;rw[zVd (zVp hz (by decide))]
end
end L3
namespace LR
open PySem PySem.Spec PyProof.Rows
open Sem (wp)
open Sem (wp)
open AutoSeq1 (wpAny_loadPart')
open Sem (wp)
open AutoSeq1 (wpAny_loadPart')
end LR
namespace L3
open PySem PySem.Spec PyProof.Rows L2
section
def zAZ:List D->Option (List Int)
 |[]=>some []
 |.int i::r=>match zAZ r with
  |some bs=>some (i::bs)
  |none=>none
 |_=>none
theorem zC9:∀ {ds:List D} {bs:Ye} {vs:List V},zAZ ds=some bs->zL L H ds vs->vs=bs.map V.int
 |[],bs,vs,e,r=>by cases e;unfold zL at r;exact r
 |d::ds,bs,vs,e,r=>by
  unfold zL at r;obtain ⟨v,r',rfl,r1,r2⟩:=r;cases d with
  |int k=>
   unfold zAZ at e;cases q:zAZ ds with
   |none=>rw[q]at e;cases e
   |some bs'=>
    rw[q]at e;cases e;unfold Rep at r1;rw[r1,zC9 q r2];rfl
  |_=>cases e
theorem zCH:∀ xs:List Int,zAZ (xs.map D.int)=some xs
 |[]=>rfl
 |x::r=>by rw[zVh];unfold zAZ;rw[zCH r]
end
end L3
namespace L2
open PySem PySem.Spec PyProof.Rows
section
theorem zHB (I:Nat->Shared->Prop)
  (turn:∀ n s,I n s->wpAny (model prog w) A (pyNext it) (λr s₁=>match r with
   |none=>R (.ok .next) s₁
   |some v=>wpAny (model prog w) A (letOwnedTupleGo target it v) (λ_ s₁'=>wpAny (model prog w) A (assign target env v) (λ_ s₂=>
     wpAny (model prog w) A (forIn ifs true λc r=>if r=true then do let ok <- isTrue c env (eval c env);pure (ForInStep.yield ok) else pure (ForInStep.yield r)) (λok s₃=>
      if ok=true then wpAny (model prog w) A (eval kx env) (λkv s₄=>wpAny (model prog w) A (eval vx env) (λvv s₅=>
       wpAny (model prog w) A (dictSet D kv vv) (λ_ s₆=>∃ m,m<n/\I m s₆) (λ_ _=>False) s₅) (λ_ _=>False) s₄) (λ_ _=>False) s₃
      else ∃ m,m<n/\I m s₃) (λ_ _=>False) s₂) (λ_ _=>False) s₁') (λ_ _=>False) s₁) (λ_ _=>False) s)
  (n:Nat) (h:I n s) :
  codeAny (model prog w) A (.compLoop (.DictComp kx vx [⟨target,iter,ifs,0⟩] scope pos) 0 it (.ref D) env) R s:=by
 refine codeAny_loop rfl I (λn s hI=>?_) n h;show wpAny _ A ((compTurn (.DictComp kx vx [⟨target,iter,ifs,0⟩] scope pos) 0 it (.ref D) env).onRaise (λx=>do noteFrame x env;theTreesLotGoes x)) _ _ s;refine wpAny_noted ?_;rw[compTurn_dict];refine zVO (zWM (zVO (zVu (turn n s hI) (λr s₁ h₁=>?_) λ_ _ h'=>h'.elim)));cases r with
 |none=>exact zVQ h₁
 |some v=>
  refine zVO (zVu h₁ (λ_ s₁' h₁'=>?_) λ_ _ h'=>h'.elim);refine zVO (zVu h₁' (λ_ s₂ h₂=>zVO (zVu h₂ (λok s₃ h₃=>?_) λ_ _ h'=>h'.elim)) λ_ _ h'=>h'.elim);cases ok with
  |false=>exact zVQ ⟨rfl,h₃⟩
  |true=>
   exact zVO (zVO (zVu h₃ (λkv s₄ h₄=>zVO (zWH (zVu h₄ (λvv s₅ h₅=>zVO (zWM (zWH (zVu h₅ (λ_ s₆ h₆=>zVQ ⟨rfl,h₆⟩) λ_ _ h'=>h'.elim)))) λ_ _ h'=>h'.elim))) λ_ _ h'=>h'.elim))
theorem zIb (elt target iter:Expr) (ifs:Yi) (scope:Y0) (pos:Pos) (it acc:Yu) (env:Env) :
  compTurn (.SetComp elt [⟨target,iter,ifs,0⟩] scope pos) 0 it acc env=(do
   standAt iter.pos;match <- pyNext it with
   |none=>pure (.done .next)
   |some v=>
    letOwnedTupleGo target it v;assign target env v;let mut ok:=true
    for c in ifs do
     if ok then ok <- isTrue c env (eval c env)
    if ok then (do let v <- eval elt env;standAt elt.pos;let _ <- call (.builtin "set.add") [acc,v])
    again (.compLoop (.SetComp elt [⟨target,iter,ifs,0⟩] scope pos) 0 it acc env)):=by rfl
theorem zID (I:Nat->Shared->Prop)
  (turn:∀ n s,I n s->wpAny (model prog w) A (pyNext it) (λr s₁=>match r with
   |none=>R (.ok .next) s₁
   |some v=>wpAny (model prog w) A (letOwnedTupleGo target it v) (λ_ s₁'=>wpAny (model prog w) A (assign target env v) (λ_ s₂=>
     wpAny (model prog w) A (forIn ifs true λc r=>if r=true then do let ok <- isTrue c env (eval c env);pure (ForInStep.yield ok) else pure (ForInStep.yield r)) (λok s₃=>
      if ok=true then wpAny (model prog w) A (eval elt env) (λx s₄=>
       wpAny (model prog w) A (call (.builtin "set.add") [acc,x]) (λ_ s₅=>∃ m,m<n/\I m s₅) (λ_ _=>False) s₄) (λ_ _=>False) s₃
      else ∃ m,m<n/\I m s₃) (λ_ _=>False) s₂) (λ_ _=>False) s₁') (λ_ _=>False) s₁) (λ_ _=>False) s)
  (n:Nat) (h:I n s) :
  codeAny (model prog w) A (.compLoop (.SetComp elt [⟨target,iter,ifs,0⟩] scope pos) 0 it acc env) R s:=by
 refine codeAny_loop rfl I (λn s hI=>?_) n h;show wpAny _ A ((compTurn (.SetComp elt [⟨target,iter,ifs,0⟩] scope pos) 0 it acc env).onRaise (λx=>do noteFrame x env;theTreesLotGoes x)) _ _ s;refine wpAny_noted ?_;rw[zIb];refine zVO (zWM (zVO (zVu (turn n s hI) (λr s₁ h₁=>?_) λ_ _ h'=>h'.elim)));cases r with
 |none=>exact zVQ h₁
 |some v=>
  refine zVO (zVu h₁ (λ_ s₁' h₁'=>?_) λ_ _ h'=>h'.elim);refine zVO (zVu h₁' (λ_ s₂ h₂=>zVO (zVu h₂ (λok s₃ h₃=>?_) λ_ _ h'=>h'.elim)) λ_ _ h'=>h'.elim);cases ok with
  |false=>exact zVQ ⟨rfl,h₃⟩
  |true=>
   exact zVO (zVO (zVu h₃ (λx s₄ h₄=>zVO (zWM (zVO (zVu h₄ (λ_ s₅ h₅=>zVQ (zVQ ⟨rfl,h₅⟩)) λ_ _ h'=>h'.elim)))) λ_ _ h'=>h'.elim))
end
end L2
namespace LR
open PySem PySem.Spec PyProof.Rows
open Sem (wp)
section
theorem zKh (ht:IsTup s.heap t items) (hj:j<items.size) (hi:∃ v,items[j]=.int i v) (hno:∀ m (hm:m<items.size),m<j -> ∃ k v,items[m]=.int k v/\k≠i)
  (h:Q (.int j s.toks) { s with toks:=s.toks+1 }):wpAny (model prog w) A (call (.builtin "tuple.index") [.ref t,.int i u]) Q E s:=by
 refine zV1 F.slot_tuple_index ht.typeIs F.entry_tuple_index ?_ (F.args_tuple_index_2 _ _);unfold Builtin.«tuple.index»;refine zVO (wpAny_of_eq (a:=((Value.ref t,[Value.int i u]):Value × List Value)) rfl ?_);refine zVO (tupleItemsOf_ ht ?_);show wpAny _ _ (pure 0 >>= _) _ _ s;refine zVO (zVQ (zVO (zVQ ?_)));show wpAny _ _ (forIn [:min items.size items.size] ((none:Option PySem.Fin),()) _ >>= _) _ _ s;rw[Nat.min_self];have L:∀ (k m:Nat),m+k=items.size->m<=j -> ∀ (E':Yc),wpAny (model prog w) A.in1 (forIn (List.range' m k) ((none:Option PySem.Fin),()) λ(i_1:Nat) (__s:Option PySem.Fin × Unit)=>
       match items[i_1]? with
       |some y=>do
        let __do_lift <- eqBool y (Value.int i u)
        if __do_lift=true then do
          let __do_lift <- retInt (i_1:Int);pure (ForInStep.done (some __do_lift,()))
         else pure (ForInStep.yield (none,()))
       |x=>pure (ForInStep.yield (none,()))) (λr s'=>r=(some (Fin.done (Flow.ret (Value.int j s.toks))),())/\s'={ s with toks:=s.toks+1 }) E' s:=by
  intro k;induction k with
  |zero=>intro m hm hle;omega
  |succ k ih=>
   intro m hm hle E';have hlt:m<items.size:=by omega
   rw[List.range'_succ,List.forIn_cons];have e:items[m]?=some items[m]:=zV9 hlt;rw[e];dsimp only;by_cases q:m=j
   .subst q;obtain ⟨v,hv⟩:=hi;rw[hv];refine zVO (zVO (wpAny_eqBool_int ?_));rw[zVd (by simp)];exact zVO (zVO (wpAny_mkInt (zVQ (zVQ (zVQ ⟨rfl,rfl⟩)))))
   .obtain ⟨k',v,hv,hk⟩:=hno m hlt (by omega);rw[hv];refine zVO (zVO (wpAny_eqBool_int ?_));rw[zVg (by simpa using hk)];exact zVQ (ih (m+1) (by omega) (by omega) E')
 refine zVO ?_;rw[Std.Legacy.Range.forIn_eq_forIn_range'];have er:List.range' ([:items.size]:Std.Legacy.Range).start ([:items.size]:Std.Legacy.Range).size ([:items.size]:Std.Legacy.Range).step=List.range' 0 items.size:=by simp[Std.Legacy.Range.size]
 rw[er];refine zVu (L items.size 0 (by omega) (zWA _) _) (λr s' ⟨hr,hs⟩=>?_) λ_ _ e=>e;subst hr hs;exact zVQ ⟨_,rfl,h⟩
end
end LR
namespace L3
open PySem PySem.Spec PyProof.Rows L2
section
theorem zHl {xs:Ye} {its:Yf} (r:zZ (xs.map V.int) its) (hm:m<its.toArray.size):∃ v,its.toArray[m]=.int (xs.getD m 0) v:=by
 have hl:m<xs.length:=by have:=r.length;simp at this hm;omega
 obtain ⟨u,e,q⟩:=r.get (i:=m) (x:=.int (xs.getD m 0)) (by simp[hl]);obtain ⟨t,rfl⟩:=q;refine ⟨t,?_⟩;have:its.toArray[m]?=some (.int (xs.getD m 0) t):=by simpa using e
 rw[zV9 hm]at this;exact zWO this
theorem zOg:MtR X "tuple.index" (λx vs H Q=>∃ (p:Addr) (i:Int) (xs:List Int),x=.ref p/\vs=[.int i]/\SqT X.K H p (xs.map V.int)/\i∈xs/\Q (.int (xs.idxOf i)) H):=by
 intro zB s σ H x xs v us Q I rx rv z;obtain ⟨p,i,ns,rfl,rfl,hp,hi,q⟩:=z;cases rx;obtain ⟨u,rfl,ru⟩:=rv.one;obtain ⟨t,rfl⟩:=ru;obtain ⟨its,r,ht,hz⟩:=I.tuple hp;have hl:its.toArray.size=ns.length:=by have:=r.length;simp at this ⊢;omega
 have hj:ns.idxOf i<ns.length:=List.idxOf_lt_length_iff.mpr hi;refine LR.zKh (j:=ns.idxOf i) ht (by omega) ?_ (λm hm hlt=>?_) ⟨.int (ns.idxOf i),H,I.tok _,⟨_,rfl⟩,q⟩
 .obtain ⟨v,e⟩:=zHl r (m:=ns.idxOf i) (by omega);refine ⟨v,?_⟩;rw[e,zVT,zVS hj];simp
 .obtain ⟨v,e⟩:=zHl r (m:=m) hm;refine ⟨_,v,e,λz=>?_⟩;have hm':m<ns.length:=by omega
  rw[zVT,zVS hm']at z;have:=List.not_of_lt_findIdx (xs:=ns) (p:=(· == i)) (show m<ns.findIdx (· == i)from hlt);simp at z this;exact this z
end
end L3
namespace ST
open PySem
abbrev Up (xs:Array Nat):Prop:=xs.toList.Pairwise (· < ·)
theorem Up.get (h:Up xs) (hik:i<k) (hk:k<xs.size):xs[i]'(by omega)<xs[k]:=by
 have:=List.pairwise_iff_getElem.mp h i k (by simpa using (show i<xs.size by omega)) (by simpa using hk) hik;simpa using this
theorem zIl (h:Up xs) (j:Nat):∀ (fuel lo hi:Nat),lo<=hi->hi<=xs.size->hi-lo<=fuel->(∀ i (hi':i<xs.size),i<lo->xs[i]<j)->(∀ i (hi':i<xs.size),hi<=i->j<=xs[i]) ->
  (SetTable.below.go xs j fuel lo hi<=xs.size)/\(∀ i (hi':i<xs.size),i<SetTable.below.go xs j fuel lo hi->xs[i]<j)/\(∀ i (hi':i<xs.size),SetTable.below.go xs j fuel lo hi<=i->j<=xs[i])
 |0,lo,hi,h1,h2,h3,a,b=>by
  have:lo=hi:=by omega
  subst this;unfold SetTable.below.go;exact ⟨h2,a,b⟩
 |fuel+1,lo,hi,h1,h2,h3,a,b=>by
  unfold SetTable.below.go;by_cases hl:lo<hi
  .rw[zVd hl];dsimp only;have hm:(lo+hi) / 2<xs.size:=by omega
   have eg:xs.getD ((lo+hi) / 2) j=xs[(lo+hi) / 2]:=by simp[Array.getD,hm]
   rw[eg];by_cases hc:xs[(lo+hi) / 2]<j
   .rw[zVd hc];refine zIl h j fuel _ _ (by omega) h2 (by omega) (λi hi' hlt=>?_) b;rcases Nat.lt_or_ge i ((lo+hi) / 2)with z|z
    .exact Nat.lt_trans (h.get z hm) hc
    .have:i=(lo+hi) / 2:=by omega
     subst this;exact hc
   .rw[zVg hc];refine zIl h j fuel _ _ (by omega) (by omega) (by omega) a (λi hi' hge=>?_);rcases Nat.lt_or_ge ((lo+hi) / 2) i with z|z
    .have:=h.get z hi';omega
    .have:i=(lo+hi) / 2:=by omega
     subst this;omega
  .rw[zVg hl];have:lo=hi:=by omega
   subst this;exact ⟨h2,a,b⟩
theorem zCx (h:Up xs) (j:Nat):SetTable.below xs j<=xs.size/\(∀ i (hi':i<xs.size),i<SetTable.below xs j->xs[i]<j)/\(∀ i (hi':i<xs.size),SetTable.below xs j<=i->j<=xs[i]):=by
 unfold SetTable.below;exact zIl h j xs.size 0 xs.size (zWA _) (zVU _) (by omega) (λi _ z=>by omega) (λi hi' z=>by omega)
theorem zLL (h:Up xs):SetTable.below xs 0=0:=by
 obtain ⟨a,b,c⟩:=zCx h 0;rcases Nat.eq_zero_or_pos (SetTable.below xs 0)with z|z
 .exact z
 .have:=b 0 (by omega) z;omega
theorem zLJ (h:Up xs) (hk:k<xs.size):SetTable.below xs (xs[k]+1)=k+1:=by
 obtain ⟨a,b,c⟩:=zCx h (xs[k]+1);rcases Nat.lt_trichotomy (SetTable.below xs (xs[k]+1)) (k+1)with z|z|z
 .have:=c k hk (by omega);omega
 .exact z
 .have h1:k+1<xs.size:=by omega
  have:=b (k+1) h1 z;have:=h.get (show k<k+1 by omega) h1;omega
theorem zFW {α:Type} (xs:Array α) (p:Nat) (x:α):(SetTable.insertAt xs p x).toList=xs.toList.take p++x::xs.toList.drop p:=by
  unfold SetTable.insertAt;simp;have:xs.toList.length<=xs.size:=by simp
  rw[List.take_of_length_le (by simp)]
theorem zMh (h : Up xs) (hj : j ∉ xs.toList) : Up (SetTable.insertAt xs (SetTable.below xs j) j) := by
  obtain ⟨a, b, c⟩ := zCx h j;unfold Up;rw [zFW];rw [List.pairwise_append];have hT : ∀ x ∈ xs.toList.take (SetTable.below xs j), x < j := fun x hx => by
    obtain ⟨i,hi,e⟩:=zXR hx;rw[List.getElem_take]at e;rw[zWm]at hi
    have h1 : i < xs.size := by have : xs.toList.length = xs.size := by simp
                                omega
    have:=b i h1 (by omega);rw[<-e];simpa using this
  have hD : ∀ x ∈ xs.toList.drop (SetTable.below xs j), j < x := fun x hx => by
    obtain ⟨i,hi,e⟩:=zXR hx;rw[List.getElem_drop]at e;rw[zXr]at hi
    have h1 : SetTable.below xs j + i < xs.size := by have : xs.toList.length = xs.size := by simp
                                                      omega
    have h2:=c _ h1 (by omega);have h3:x≠j:=λz=>hj (z▸List.mem_of_mem_drop hx);have e':xs[SetTable.below xs j+i]=x:=by simpa using e
    omega
  refine ⟨h.sublist (List.take_sublist _ _),List.pairwise_cons.mpr ⟨hD,h.sublist (List.drop_sublist _ _)⟩,λx hx y hy=>?_⟩;rcases zVa.mp hy with z|z
  .rw[z];exact hT x hx
  .exact Nat.lt_trans (hT x hx) (hD y z)
theorem zHv (j:Nat):SetTable.has #[] j=false:=by
 unfold SetTable.has;simp
theorem zKu {t:SetTable} (h:Up t.place) (he:t.slot j=.empty):j∉t.place.toList:=λhm=>by
 obtain ⟨a,b,c⟩:=zCx h j;obtain ⟨k,hk,e⟩:=zXR hm;have hk':k<t.place.size:=by simpa using hk
 have e':t.place[k]=j:=by simpa using e
 have eb:SetTable.below t.place j=k:=by
  rcases Nat.lt_trichotomy (SetTable.below t.place j) k with z|z|z
  .have h1:SetTable.below t.place j<t.place.size:=by omega
   have:=c _ h1 (zVU _);have:=h.get z hk';omega
  .exact z
  .have:=b k hk' z;omega
 unfold SetTable.slot at he;rw[eb,zVd (by simp[hk',e'])]at he;cases he
theorem zJo (hd:t.dummies = #[]):∀ (fuel:Nat) (p:SetTable.Probe) {j:Nat} {d:Option Nat},p.dummy=none->SetTable.probe.go t hashAt h fuel p=some (.empty j d)->d=none/\t.slot j=.empty
 |0,_,_,_,_,e=>by unfold SetTable.probe.go at e;cases e
 |fuel+1,p,j,d,hp,e=>by
  unfold SetTable.probe.go at e;split at e
  .rename_i hs;cases e;exact ⟨hp,hs⟩
  .rename_i hs;unfold SetTable.slot at hs;dsimp only at hs;rw[hd,zHv]at hs;split at hs <;> first|cases hs|simp at hs
  .split at e
   .cases e
   .refine zJo hd fuel _ ?_ e;unfold SetTable.advance;split <;> simp[hp]
theorem zMO {t:SetTable} (hu:Up t.place) (hd:t.dummies = #[]) (e:t.freeSlot h=some (j,b)):b=false/\j∉t.place.toList:=by
 unfold SetTable.freeSlot at e;split at e
 .rename_i j' d hp;unfold SetTable.probe at hp;obtain ⟨h1,h2⟩:=zJo hd _ _ (by rfl) hp;subst h1;simp at e;obtain ⟨rfl,rfl⟩:=e;exact ⟨rfl,zKu hu h2⟩
 .cases e
structure TabOk (w:Yo) (t:SetTable):Prop where
 led:t.led = !w.params.followText "set-order"
 up:Up t.place
 nod:t.dummies = #[]
theorem zNr (n:Nat):Up (Array.range n):=by
 unfold Up;rw[Array.toList_range];exact List.pairwise_lt_range
theorem TabOk.standIn (h:TabOk w t) (n:Nat):TabOk w (t.standIn n):=⟨h.led,zNr n,rfl⟩
theorem TabOk.orStandIn (h:TabOk w t) (n:Nat):TabOk w (t.orStandIn n):=by
 unfold SetTable.orStandIn;split
 .exact h
 .exact h.standIn n
theorem TabOk.put (h:TabOk w t) (hj:j∉t.place.toList):TabOk w (t.put j).1:=by
 unfold SetTable.put;refine ⟨h.led,zMh h.up hj,?_⟩;rw[h.nod,zHv];rfl
theorem TabOk.layNew (h:TabOk w t) (es:Yw) (hh:Int) (x:Yu):TabOk w (layNew t es hh x).2.1:=by
 unfold PySem.layNew;split
 .rename_i j b e;exact (h.put (zMO h.up h.nod e).2).orStandIn _
 .exact h.standIn _
theorem TabOk.relaid (h:TabOk w t) (e:t.relaid hs wanted=some (t',order)):TabOk w t':=by
 unfold SetTable.relaid SetTable.laid at e;cases q:SetTable.layClean (SetTable.sizeAbove wanted-1) hs with
 |none=>rw[q]at e;cases e
 |some owner=>
  rw[q]at e;simp only[Option.bind_eq_bind,Option.bind_some,Option.pure_def,Option.some.injEq,Prod.mk.injEq]at e;obtain ⟨rfl,_⟩:=e;refine ⟨h.led,?_,rfl⟩;unfold Up;rw[List.pairwise_map,List.pairwise_filterMap];refine List.pairwise_lt_range.imp λ{a b} hab x hx y hy=>?_;cases o1:owner.getD a none with
  |none=>rw[o1]at hx;cases hx
  |some u=>
   cases o2:owner.getD b none with
   |none=>rw[o2]at hy;cases hy
   |some v=>
    rw[o1]at hx;rw[o2]at hy;cases hx;cases hy;exact hab
theorem TabOk.relayAll (h:TabOk w t) (es:Yw) (wanted:Nat):TabOk w (relayAll t es wanted).2.1:=by
 unfold PySem.relayAll;split
 .rename_i t' order e;dsimp only;split
  .exact h.relaid e
  .exact h.standIn _
 .exact h.standIn _
theorem TabOk.plain (h:TabOk w t) (b:Bool):TabOk w { t with plain:=b }:=⟨h.led,h.up,h.nod⟩
theorem TabOk.fresh:TabOk w (SetTable.fresh 0 0 (!w.params.followText "set-order")):=⟨rfl,List.Pairwise.nil,rfl⟩
open Sem (wp)
set_option genInjectivity true in
inductive F2 {α β:Type} (R:α->β->Prop):List α->List β->Prop
 |nil:F2 R [] []
 |cons {x y xs ys}:R x y->F2 R xs ys->F2 R (x::xs) (y::ys)
section
variable [DecidableEq K]
def zSt (knd:KeyKind prog w K) (e:Int × Value) (k:K):Prop:=(knd.is k e.2=true/\e.1=knd.hash k)/\e.2.scannable=true
structure SetK (knd:KeyKind prog w K) (o:Obj) (es:Yw) (ep:Nat) (t:SetTable) (ks:List K):Prop where
 ex:o.ExactSet
 data:o.data=.set es ep t
 tab:TabOk w t
 fits:t.fits es.size=true
 bound:es.size<scanBound
 ent:∃ ks',ks'.Perm ks/\F2 (zSt knd) es.toList ks'
def ins (ks:List K) (k:K):List K:=if k∈ks then ks else ks++[k]
variable {knd:KeyKind prog w K}
theorem zDa {α β:Type} {R:α->β->Prop}:∀ {xs:List α} {ys:List β},F2 R xs ys->xs.length=ys.length
 |_,_,.nil=>rfl
 |_,_,.cons _ h=>by simp[zDa h]
theorem zDh {α β:Type} {R:α->β->Prop}:∀ {xs:List α} {ys:List β},F2 R xs ys -> ∀ x∈xs,∃ y∈ys,R x y
 |_,_,.nil,x,hx=>by cases hx
 |_,_,.cons h r,x,hx=>by
  rcases zVa.mp hx with z|z
  .subst z;exact ⟨_,zVc,h⟩
  .obtain ⟨y,hy,q⟩:=zDh r x z;exact ⟨y,zVb _ hy,q⟩
theorem zEa {α β:Type} {R:α->β->Prop}:∀ {xs:List α} {ys:List β},F2 R xs ys -> ∀ y∈ys,∃ x∈xs,R x y
 |_,_,.nil,x,hx=>by cases hx
 |_,_,.cons h r,x,hx=>by
  rcases zVa.mp hx with z|z
  .subst z;exact ⟨_,zVc,h⟩
  .obtain ⟨y,hy,q⟩:=zEa r x z;exact ⟨y,zVb _ hy,q⟩
theorem zDV {α β:Type} {R:α->β->Prop}:∀ {xs:List α} {ys:List β} {us:List α} {vs:List β},F2 R xs ys->F2 R us vs->F2 R (xs++us) (ys++vs)
 |_,_,_,_,.nil,h=>h
 |_,_,_,_,.cons h r,q=> .cons h (zDV r q)
theorem zEV {α β:Type} {R:α->β->Prop} {xs xs':List α} (p:xs'.Perm xs):∀ {ys:List β},F2 R xs ys -> ∃ ys',ys'.Perm ys/\F2 R xs' ys':=by
 have p':=p.symm;clear p;induction p' with
 |nil=>intro ys h;exact ⟨ys,.refl _,h⟩
 |cons x _ ih=>
  intro ys h;cases h with
  |cons h r=>
   obtain ⟨ys',q1,q2⟩:=ih r;exact ⟨_,q1.cons _,.cons h q2⟩
 |swap x y l=>
  intro ys h;cases h with
  |cons h r=>
   cases r with
   |cons h2 r=>
    exact ⟨_,List.Perm.swap _ _ _,.cons h2 (.cons h r)⟩
 |trans _ _ ih1 ih2=>
  intro ys h;obtain ⟨ys',q1,q2⟩:=ih1 h;obtain ⟨ys'',r1,r2⟩:=ih2 q2;exact ⟨ys'',r1.trans q1,r2⟩
theorem SetK.size (h:SetK knd o es ep t ks):es.size=ks.length:=by
 obtain ⟨ks',p,f⟩:=h.ent;rw[<-p.length_eq,<-zDa f,zV7]
theorem SetK.elems (h:SetK knd o es ep t ks):ElemsOf knd es.toList:=λe he=>by
 obtain ⟨ks',p,f⟩:=h.ent;obtain ⟨k,_,q⟩:=zDh f e he;exact ⟨⟨k,q.1⟩,q.2⟩
theorem SetK.mem (h:SetK knd o es ep t ks) (k:K):k∈ks ↔ ∃ e∈es.toList,knd.is k e.2=true:=by
 obtain ⟨ks',p,f⟩:=h.ent;rw[<-p.mem_iff];constructor
 .intro hk;obtain ⟨e,he,q⟩:=zEa f k hk;exact ⟨e,he,q.1.1⟩
 .rintro ⟨e,he,q⟩;obtain ⟨k',hk',q'⟩:=zDh f e he;rw[knd.inj e.2 k k' q q'.1.1];exact hk'
variable {s:Yl}
theorem SetK.typeIs (h:SetK knd o es ep t ks) (ho:s.heap.get? a=some o):s.TypeIs (.ref a) "set" := ⟨o,ho,h.ex.1⟩
theorem zHJ {h:Heap} (ho:h.get? a=some o) (hd:o.data=.set es ep t) :
  (h.update a (Obj.putSet es' t')).get? a=some { o with data:=.set es' (ep+1) t' }:=by
 have:=zWB (Obj.putSet es' t') ho (by rw[putSet_of es' t' hd];rfl);rw[putSet_of es' t' hd]at this;exact this
theorem zFX {Q:Bool->Shared->Prop} (hkey:knd.is k x=true) (hsc:x.scannable=true) (ho:s.heap.get? a=some o) (hS:SetK knd o es ep t ks) (hroom:ks.length+1<scanBound)
  (h:∀ h' o' es' ep' t' b,Heap.SameBut a s.heap h'->h'.get? a=some o'->SetK knd o' es' ep' t' (ins ks k)->Q b { s with heap:=h' }) :
  wpAny (model prog w) A (setAddHashed a x (knd.hash k)) Q E s:=by
 have hd:=hS.data;have hf:=hS.fits;have hel:=hS.elems;have hb:=hS.bound;have hb1:es.size+1<scanBound:=by rw[hS.size];exact hroom
 unfold setAddHashed setAddHashedIn;refine zWH (zVO (wpAny_setState_of ho hd hf ?_));dsimp only;rw[byScan_of hsc hb hel];simp only[↓reduceIte];unfold setAddByScan;refine zVO ?_;refine zVO (zWl ?_);refine zVO (wpAny_setScan_of hkey ho hd hf hel ?_);cases hr:List.findIdx? (λe=>knd.is k e.2) es.toList with
 |some j=>
  obtain ⟨hj,hpj,_⟩:=List.findIdx?_eq_some_iff_getElem.mp hr;have hSk:k∈ks:=(hS.mem k).mpr ⟨es.toList[j],zVw hj,hpj⟩;refine zVQ (zVQ ?_);have e:s={ s with heap:=s.heap }:=by cases s;rfl
  rw[e];refine h s.heap o es ep t _ (Heap.SameBut.refl a s.heap) ho ?_;unfold ins;rw[zVd hSk];exact hS
 |none=>
  have hSk:k∉ks:=λhk=>by
   obtain ⟨e,he,hp⟩:=(hS.mem k).mp hk;have:=List.findIdx?_eq_none_iff.mp hr e he;rw[hp]at this;exact Bool.noConfusion this
  have hgw:∀ (b:Bool) {s₁:Shared} {Q':Unit->Shared->Prop},Q' () s₁->wpAny (model prog w) A (match b with|true=>rule "set.scan.the-table-gave-way" |false=>pure ()) Q' E s₁ :=
   λb s₁ Q' hq=>by cases b <;> first|exact zVQ hq|exact zWl hq
  have hperm:=layNew_perm t es (knd.hash k) x;have hfits:=layNew_fits t es (knd.hash k) x;have htab:=hS.tab.layNew es (knd.hash k) x;generalize hL:layNew t es (knd.hash k) x=L at hperm hfits htab ⊢;obtain ⟨es1,t1,wasDummy,gave⟩:=L;rw[Array.toList_push]at hperm;have hb1':es1.size<scanBound:=by rw[<-zV7,hperm.length_eq,zVe,zV7];simpa using hb1
  obtain ⟨ks',p,f⟩:=hS.ent;have f1:F2 (zSt knd) (es.toList++[(knd.hash k,x)]) (ks'++[k]):=zDV f (.cons ⟨⟨hkey,rfl⟩,hsc⟩ .nil);obtain ⟨ks1,p1,f2⟩:=zEV hperm f1;have pI:ks1.Perm (ins ks k):=by
   unfold ins;rw[zVg hSk];exact p1.trans (p.append_right _)
  refine zVO (hgw _ ?_)
  have tail:∀ t2:SetTable,TabOk w t2->t2.fits es1.size=true->wpAny (model prog w) A (do
    storeSet a es1 t2
    if (!wasDummy&&t2.tooFull)=true then do
      (match (relayAll t2 es1 (SetTable.grown es1.size)).2.2 with|true=>rule "set.scan.the-table-gave-way" |false=>pure ())
      storeSet a (relayAll t2 es1 (SetTable.grown es1.size)).1 (relayAll t2 es1 (SetTable.grown es1.size)).2.1;pure (some true)
     else pure (some true)) (λr s'=>wpAny (model prog w) A (match r with|some added=>pure added|none=>setAddHashedIn a x (knd.hash k) 99999) Q E s') E s:=by
   intro t2 T2 F2;refine zVO (wpAny_storeSet_of ho hd ?_ (fits_of_scanBound hb1'));have g1:=zHJ (es':=es1) (t':=t2) ho hd;have sb1:=zWR s.heap a (Obj.putSet es1 t2);have S1:SetK knd { o with data:=.set es1 (ep+1) t2 } es1 (ep+1) t2 (ins ks k):=⟨hS.ex,rfl,T2,F2,hb1',ks1,pI,f2⟩;split
   .have hp:=relayAll_perm t2 es1 (SetTable.grown es1.size);have hfr:=relayAll_fits t2 es1 (SetTable.grown es1.size);have htr:=T2.relayAll es1 (SetTable.grown es1.size);generalize hRl:relayAll t2 es1 (SetTable.grown es1.size)=Rl at hp hfr htr ⊢;obtain ⟨es2,t3,gave2⟩:=Rl;have hsz:es2.size=es1.size:=by rw[<-zV7,hp.length_eq,zV7]
    have hb2:es2.size<scanBound:=by rw[hsz];exact hb1'
    obtain ⟨ks2,p2,f3⟩:=zEV hp f2;refine zVO (hgw _ ?_);refine zVO (wpAny_storeSet_of g1 rfl ?_ (fits_of_scanBound hb2));have g2:=zHJ (es':=es2) (t':=t3) g1 rfl;exact zVQ (zVQ (h _ _ _ _ _ _ (sb1.trans (zWR _ a _)) g2 ⟨hS.ex,rfl,htr,hfr,hb2,ks2,p2.trans pI,f3⟩))
   .exact zVQ (zVQ (h _ _ _ _ _ _ sb1 g1 S1))
  split
  .refine zVO ?_;rw[hashByValue_scannable 8 hsc];refine zVQ ?_;refine tail _ ?_ ?_
   .split
    .exact htab
    .exact htab.plain _
   .split
    .exact hfits
    .exact SetTable.fits_plain_off hfits
  .refine zVO (zVQ ?_);simp only[↓reduceIte];exact tail _ htab hfits
theorem zNi (hkey:knd.is k x=true) (hsc:x.scannable=true) (ho:s.heap.get? a=some o) (hS:SetK knd o es ep t ks) (hroom:ks.length+1<scanBound)
  (h:∀ h' o' es' ep' t',Heap.SameBut a s.heap h'->h'.get? a=some o'->SetK knd o' es' ep' t' (ins ks k)->Q .none { s with heap:=h',toks:=s.toks+1 }) :
  wpAny (model prog w) A (call (.builtin "set.add") [.ref a,x]) Q E s:=by
 refine zV1 F.slot_set_add (hS.typeIs ho) F.entry_set_add ?_ (F.args_set_add_2 _ _);unfold Builtin.«set.add» Builtin.Frozenset.oneOther;simp only[List.isEmpty_nil,bind_assoc];unfold Builtin.Frozenset.addrOf setAdd;refine zVO (zVQ ?_);try dsimp only
 refine zVO (zVQ ?_);try dsimp only
 refine zVO ?_;refine zWH ?_;refine zVO (knd.pyHash hkey ?_);refine zFX (s:={ s with toks:=s.toks+1 }) hkey hsc ho hS hroom λh' o' es' ep' t' b hsb ho' hS'=>?_;exact zVQ ⟨_,rfl,h h' o' es' ep' t' hsb ho' hS'⟩
def zBq (w:World):Obj:={ cls:=.type "set", dict:=none,data:=.set #[] 0 (.fresh 0 0 (!w.params.followText "set-order")) }
theorem SetK.fresh:SetK knd (zBq w) #[] 0 (.fresh 0 0 (!w.params.followText "set-order")) []:=⟨⟨rfl,rfl,rfl⟩,rfl,.fresh,by rfl,by decide,[],.refl _,.nil⟩
theorem zMg (h:Q (.ref s.heap.objs.size) { s with heap:=s.heap.push (zBq w) }) :
  wpAny (model prog w) A (newSet (.type "set")) Q E s:=by
 unfold newSet setsByText;refine zVO (zVO (wpAny_askSetting (zVQ ?_)));simp only[newObj];exact zVO (wpAny_alloc (zVQ h))
end
open PySem.Spec PyProof.Rows
open Sem (wp)
theorem zKR:Manifest.owners.lookup (String.ofList ['r','o','t','a','r','e','t','i','_','t','e','s'].reverse)=some Manifest.sig_set_iterator:=by kernel_rfl
theorem zAC:Slot "set_iterator" "__next__" "set_iterator.__next__" := .of (owner := "set_iterator") (n := "__next__") (by rw[typeLookup_type,builtinLookup_eq_fast];kernel_rfl) (by decide +kernel) (by decide +kernel) (by decide +kernel) (by first|exact .inl (by decide +kernel)|exact .inr (by decide +kernel)) (by rw[isSubtype_type];kernel_rfl)
theorem zEm:Slot "set_iterator" "__iter__" "set_iterator.__iter__" := .of (owner := "set_iterator") (n := "__iter__") (by rw[typeLookup_type,builtinLookup_eq_fast];kernel_rfl) (by decide +kernel) (by decide +kernel) (by decide +kernel) (by first|exact .inl (by decide +kernel)|exact .inr (by decide +kernel)) (by rw[isSubtype_type];kernel_rfl)
theorem zBy (a:Value):argsOk "set_iterator.__next__" ⟨[a],[]⟩:=by
 unfold argsOk;rw[signature?_of (id := "set_iterator.__next__") (n:=['_','_','t','x','e','n','_','_']) (o:=['r','o','t','a','r','e','t','i','_','t','e','s']) (by kernel_rfl) zKR];kernel_rfl
theorem zIN (a:Value):argsOk "set_iterator.__iter__" ⟨[a],[]⟩:=by
 unfold argsOk;rw[signature?_of (id := "set_iterator.__iter__") (n:=['_','_','r','e','t','i','_','_']) (o:=['r','o','t','a','r','e','t','i','_','t','e','s']) (by kernel_rfl) zKR];kernel_rfl
theorem zBh:entryFor table "set_iterator.__next__" = some Builtin.«set_iterator.__next__»:=entryFor_of_tree (by kernel_rfl)
theorem zGy:entryFor table "set_iterator.__iter__" = some Builtin.«dict_keyiterator.__iter__» :=
 entryFor_alias (id' := "dict_keyiterator.__iter__") (by kernel_rfl) (by first|rfl|decide +kernel|(unfold String.splitOn;simp +decide [String.splitOnAux])) (by decide +kernel) (by kernel_rfl)
theorem zGk:entryFor table "set.__iter__" = some Builtin.«frozenset.__iter__» :=
 entryFor_alias (id' := "frozenset.__iter__") (by kernel_rfl) rfl (by decide +kernel) (by kernel_rfl)
def zA4 (f:Value) (i:Nat) (a:Addr) (n ep:Nat):Obj:={ cls:=.type "set_iterator", data:=.fields #[f,rawInt i,.ref a,rawInt n,rawInt ep] }
theorem zD5 {α:Type}:∀ {l:List α} {i:Nat} (h:i<l.length),(l[i]::l.eraseIdx i).Perm l
 |[],i,h=>by simp at h
 |x::l,0,h=>by simp
 |x::l,i+1,h=>by
  have:=zD5 (l:=l) (i:=i) (by simpa using h);rw[List.getElem_cons_succ,List.eraseIdx_cons_succ];exact (List.Perm.swap _ _ _).trans (this.cons x)
theorem zHG {α:Type} {l:List α} (h:i<l.length) (e:n+1=l.length):n=(l.eraseIdx i).length:=by
 rw[List.length_eraseIdx,zVd h];omega
theorem zHZ {α:Type} (next:Nat->Nat):∀ (fuel k:Nat) (left:List α) (out:Array α),fuel=left.length->(pickOrder.go next fuel k left out).toList.Perm (out.toList++left)
 |0,k,left,out,h=>by
  have:left=[]:=List.length_eq_zero_iff.mp h.symm;subst this;unfold pickOrder.go;simp
 |fuel+1,k,left,out,h=>by
  unfold pickOrder.go;have hl:0<left.length:=by omega
  have hm:next k % left.length<left.length:=Nat.mod_lt _ hl
  rw[zVS hm];refine (zHZ next fuel (k+1) _ _ (zHG hm h)).trans ?_;rw[Array.toList_push,zWU];exact (zD5 hm).append_left _
theorem zDY {α:Type} (next:Nat->Nat) (xs:Array α):(pickOrder next xs).toList.Perm xs.toList:=by
 unfold pickOrder;simpa using zHZ next xs.size 0 xs.toList #[] (by simp)
section
variable {s:Yl}
theorem zIG (h0:n≠0) (h:∀ r d,r<n->Q r { s with drawn:=d }):wpAny (model prog w) A (choose src n) Q E s :=
 λΓ p hΓ=>⟨h0,h _ _ (Nat.mod_lt _ (by omega))⟩
theorem zDI {α:Type}:∀ (n:Nat) (xs:List α) {s:Yl} {Q:List α->Shared->Prop},n=xs.length->(∀ ys d,ys.Perm xs->Q ys { s with drawn:=d })->wpAny (model prog w) A (drawOrder n xs) Q E s
 |0,xs,s,Q,h,q=>by
  have:xs=[]:=List.length_eq_zero_iff.mp h.symm;subst this;have e:s={ s with drawn:=s.drawn }:=by cases s;rfl
  rw[e];exact zVQ (q [] s.drawn (.refl _))
 |n+1,[],s,Q,h,q=>by cases h
 |n+1,x::xs,s,Q,h,q=>by
  unfold drawOrder;refine zVO (zIG (by simp) λr d hr=>?_);rw[zVS hr];refine zVO (zDI n _ (zHG hr h) λys d' hp=>zVQ ?_);exact q _ d' ((hp.cons _).trans (zD5 hr))
variable {K:Type} [DecidableEq K] {ks:List K}
theorem zFl (h:s.heap.get? I=some (zA4 f i a n ep)):s.TypeIs (.ref I) "set_iterator" := ⟨_,h,rfl⟩
theorem zLw (hI:s.heap.get? I=some (zA4 f i a n ep)) (h:Q (.ref I) s):wpAny (model prog w) A (pyIter (.ref I)) Q E s:=by
 refine wpAny_pyIter_slot (zFl hI) zEm (zV1 zEm (zFl hI) zGy ?_ (zIN _));exact zVQ ⟨_,rfl, "set_iterator", _,zFl hI,zAC.lookup,h⟩
structure Nexts (prog:Ym) (w:Yo) (o:Obj) (a:Yt) (ep:Nat) (n:Nat) (at_:Nat->Nat) (ord:Yf):Prop where
 len:ord.length=n
 nx:∀ (A:Yn) (E:Yc) (i:Nat) (s:Yl) (Q:Option (Value × Nat)->Shared->Prop),i<=n->s.heap.get? a=some o->Q ((ord[i]?).map λx=>(x,at_ (i+1))) s->wpAny (model prog w) A (setNext a (at_ i) i ep) Q E s
theorem zMz (N:Nexts prog w o a ep ks.length at_ ord) (hS:SetK knd o es ep t ks) (hI:s.heap.get? I=some (zA4 (rawInt (at_ i)) i a ks.length ep)) (ho:s.heap.get? a=some o)
  (hx:ord[i]?=some x) (hQ:∀ h',h'.get? I=some (zA4 (rawInt (at_ (i+1))) (i+1) a ks.length ep)->Heap.SameBut I s.heap h'->Q (some x) { s with heap:=h' }):wpAny (model prog w) A (pyNext (.ref I)) Q E s:=by
 have hT:=zFl hI;have hi:i<ks.length:=by have:=(zVR.mp hx).1;rw[N.len]at this;exact this
 unfold pyNext;refine zVO (wpAny_attempt (zV0 (name:=Str.ofString "__next__") hT zAC (zV1 zAC hT zBh ?_ (zBy _))));unfold Builtin.«set_iterator.__next__» slotArgs;simp only[List.isEmpty_nil,Bool.not_true,zWP,↓reduceIte,List.length_nil,bne_self_eq_false,pure_bind,bind_assoc];refine zVO (wpAny_fieldsOf hI rfl ?_);dsimp only[rawInt];refine zVO (wpAny_setEntries_of ho hS.data hS.fits ?_);rw[zVg (by rw[hS.size];simp)];refine zVO (N.nx _ _ i s _ (by omega) ho ?_);rw[hx];dsimp only[Option.map];refine zVO (zW9 hI rfl (by simp) ?_);have e1:=zWB (Obj.mapFields λvs=>vs.set! 0 (rawInt (at_ (i+1)))) hI (Obj.isFreed_of_fields (zWf rfl _));refine zVO (zW9 e1 (zWf rfl _) (by simp) ?_);have e2:=zWB (Obj.mapFields λvs=>vs.set! 1 (rawInt ((i:Int)+1))) e1 (Obj.isFreed_of_fields (zWf (zWf rfl _) _));refine zVQ ⟨x,rfl,zVQ (hQ _ ?_ ((zWR ..).trans (zWR ..)))⟩;refine e2.trans ?_;simp[Obj.mapFields,zA4,rawInt]
end
open Sem (wp)
section
variable {K:Type} [DecidableEq K] {knd:KeyKind prog w K}
theorem zF2 (hh:A.handled=none) (N:Nexts prog w o a ep ks.length at_ ord) (hS:SetK knd o es ep t ks) (hI:s.heap.get? I=some (zA4 (rawInt (at_ ks.length)) ks.length a ks.length ep)) (ho:s.heap.get? a=some o)
  (hQ:∀ h',Heap.ExtBut I s.heap h'->Q none { s with heap:=h' }):wpAny (model prog w) A (pyNext (.ref I)) Q E s:=by
 have hT:=zFl hI;unfold pyNext;refine zVO (wpAny_attempt (zV0 (name:=Str.ofString "__next__") hT zAC (zV1 zAC hT zBh ?_ (zBy _))));unfold Builtin.«set_iterator.__next__» slotArgs;simp only[List.isEmpty_nil,Bool.not_true,zWP,↓reduceIte,List.length_nil,bne_self_eq_false,pure_bind,bind_assoc];refine zVO (wpAny_fieldsOf hI rfl ?_);dsimp only[rawInt];refine zVO (wpAny_setEntries_of ho hS.data hS.fits ?_);rw[zVg (by rw[hS.size];simp)];refine zVO (N.nx _ _ ks.length s _ (zVU _) ho ?_);rw[List.getElem?_eq_none (by rw[N.len];exact zVU _)];dsimp only[Option.map];refine zVO (zW9 hI rfl (by simp) ?_);simp only[newExc,newTuple,bind_assoc,pure_bind];refine zVO (zVr (zVO (m:=firstArgMember _ _) (wpAny_of_eq (a:=Value.none) (by first|rfl|(simp only[firstArgMember];rfl)) (zVO (zVr ?_ (by size_fits))))) (by size_fits));simp only[raiseNew];refine zVO (wpAny_handled ?_);rw[show A.in1.handled=none from hh];refine zVO (zVQ (wpAny_throw ?_));refine zVO (wpAny_isInstance (T := "StopIteration") (b:=true) ⟨_,zVY _ rfl,rfl⟩ isSubtype_stop (zVQ ?_));exact hQ _ (((zWR ..).extBut.push _).push _)
theorem zJD (hh:A.handled=none) (hne:a≠I) (N:Nexts prog w o a ep ks.length at_ ord) (hS:SetK knd o es ep t ks) :
  Walks prog w A I [I,a] [I] ks.length (λi v=>ord[i]?=some v) (λi h=>h.get? I=some (zA4 (rawInt (at_ i)) i a ks.length ep)/\h.get? a=some o) where
 sub:=λb hb=>by simp at hb;simp[hb]
 frame:=λ_ _ _ st hk=>⟨hk I (by simp) _ st.1,hk a (by simp) _ st.2⟩;item:=λi s Q E hi st hQ=>by
  have hx:ord[i]?=some (ord[i]'(by rw[N.len];exact hi)):=zVS _;refine zMz N hS st.1 st.2 hx λh' hI' hs'=>?_;exact hQ _ h' s.toks hx ⟨hI',hs'.extBut a o hne st.2⟩ λb u hb ee=>hs'.extBut b u (λh=>hb (by simp[h])) ee
 done:=λs Q E st hQ=>zF2 hh N hS st.1 st.2 λh' he'=>hQ h' s.toks λb u hb ee=>he' b u (λh=>hb (by simp[h])) ee;self:=λ_ _ _ _ st hQ=>zLw st.1 hQ
theorem zLg {pl:Yj} (hS:SetK knd o es ep t ks) (hl:pl.length=ks.length) (hI:s.heap.get? I=some (zA4 (.ref T) i a ks.length ep)) (ho:s.heap.get? a=some o)
  (hT:IsTup s.heap T (pl.map λ(k:Nat)=>rawInt k).toArray)
  (hx:(pl[i]?).bind (λk=>(es[k]?).map (·.2))=some x) (hQ:∀ h',h'.get? I=some (zA4 (.ref T) (i+1) a ks.length ep)->Heap.SameBut I s.heap h'->Q (some x) { s with heap:=h' }):wpAny (model prog w) A (pyNext (.ref I)) Q E s:=by
 have hTy:=zFl hI;obtain ⟨oT,hoT,hcT,nT,hdT⟩:=id hT;cases hp:pl[i]? with
 |none=>rw[hp]at hx;cases hx
 |some k=>
  rw[hp]at hx;cases he:es[k]? with
  |none=>simp only[Option.bind_some]at hx;rw[he]at hx;cases hx
  |some e=>
   simp only[Option.bind_some]at hx;rw[he]at hx;cases hx;unfold pyNext;refine zVO (wpAny_attempt (zV0 (name:=Str.ofString "__next__") hTy zAC (zV1 zAC hTy zBh ?_ (zBy _))));unfold Builtin.«set_iterator.__next__» slotArgs;simp only[List.isEmpty_nil,Bool.not_true,zWP,↓reduceIte,List.length_nil,bne_self_eq_false,pure_bind,bind_assoc];refine zVO (wpAny_fieldsOf hI rfl ?_);dsimp only[rawInt];refine zVO (wpAny_setEntries_of ho hS.data hS.fits ?_);rw[zVg (by rw[hS.size];simp)];refine zVO (zWE hoT hdT ?_);dsimp only;have e5:(List.map (λ(k:Nat)=>rawInt k) pl).toArray[(i:Int).toNat]?=some (rawInt k):=by simp[hp]
   rw[e5];dsimp only[rawInt];unfold setNextDrawn;simp only[bind_assoc];refine zVO (wpAny_setState_of ho hS.data hS.fits ?_);rw[zVg (by simp)];have e6:es[(k:Int).toNat]?=some e:=by simpa using he
   rw[e6];obtain ⟨e1,e2⟩:=e;simp only[pure_bind];refine zVO (zW9 hI rfl (by simp) ?_);refine zVQ ⟨e2,rfl,zVQ (hQ _ ?_ (zWR ..))⟩;refine (zWB _ hI (Obj.isFreed_of_fields (zWf rfl _))).trans ?_;simp[Obj.mapFields,zA4,rawInt]
theorem zMY {pl:Yj} (hh:A.handled=none) (hS:SetK knd o es ep t ks) (hl:pl.length=ks.length) (hI:s.heap.get? I=some (zA4 (.ref T) ks.length a ks.length ep)) (ho:s.heap.get? a=some o)
  (hT:IsTup s.heap T (pl.map λ(k:Nat)=>rawInt k).toArray) (hQ:∀ h',Heap.ExtBut I s.heap h'->Q none { s with heap:=h' }):wpAny (model prog w) A (pyNext (.ref I)) Q E s:=by
 have hTy:=zFl hI;obtain ⟨oT,hoT,hcT,nT,hdT⟩:=id hT;unfold pyNext;refine zVO (wpAny_attempt (zV0 (name:=Str.ofString "__next__") hTy zAC (zV1 zAC hTy zBh ?_ (zBy _))));unfold Builtin.«set_iterator.__next__» slotArgs;simp only[List.isEmpty_nil,Bool.not_true,zWP,↓reduceIte,List.length_nil,bne_self_eq_false,pure_bind,bind_assoc];refine zVO (wpAny_fieldsOf hI rfl ?_);dsimp only[rawInt];refine zVO (wpAny_setEntries_of ho hS.data hS.fits ?_);rw[zVg (by rw[hS.size];simp)];refine zVO (zWE hoT hdT ?_);dsimp only;have e5:(List.map (λ(k:Nat)=>rawInt k) pl).toArray[(ks.length:Int).toNat]?=none:=by simp[hl]
 rw[e5];dsimp only[rawInt];refine zVO (zW9 hI rfl (by simp) ?_);have e1:=zWB (Obj.mapFields λvs=>vs.set! 0 (rawInt 0)) hI (Obj.isFreed_of_fields (zWf rfl _));refine zVO (zW9 e1 (zWf rfl _) (by simp) ?_);simp only[newExc,newTuple,bind_assoc,pure_bind];refine zVO (zVr (zVO (m:=firstArgMember _ _) (wpAny_of_eq (a:=Value.none) (by first|rfl|(simp only[firstArgMember];rfl)) (zVO (zVr ?_ (by size_fits))))) (by size_fits));simp only[raiseNew];refine zVO (wpAny_handled ?_);rw[show A.in1.handled=none from hh];refine zVO (zVQ (wpAny_throw ?_));refine zVO (wpAny_isInstance (T := "StopIteration") (b:=true) ⟨_,zVY _ rfl,rfl⟩ isSubtype_stop (zVQ ?_));exact hQ _ ((((zWR ..).trans (zWR ..)).extBut.push _).push _)
theorem zJq {pl:Yj} (hh:A.handled=none) (hne:a≠I) (hneT:T≠I) (hS:SetK knd o es ep t ks) (hl:pl.length=ks.length) (hb:∀ k∈pl,k<es.size) :
  Walks prog w A I [I,a,T] [I] ks.length (λi v=>(pl[i]?).bind (λk=>(es[k]?).map (·.2))=some v) (λi h=>h.get? I=some (zA4 (.ref T) i a ks.length ep)/\h.get? a=some o/\IsTup h T (pl.map λ(k:Nat)=>rawInt k).toArray) where
 sub:=λb hb=>by simp at hb;simp[hb]
 frame:=λ_ _ _ st hk=>⟨hk I (by simp) _ st.1,hk a (by simp) _ st.2.1,let ⟨oT,ho,r⟩:=st.2.2;⟨oT,hk T (by simp) oT ho,r⟩⟩;item:=λi s Q E hi st hQ=>by
  have hi':i<pl.length:=by rw[hl];exact hi
  have hk:pl[i]<es.size:=hb _ (zVw hi');have hx:(pl[i]?).bind (λk=>(es[k]?).map (·.2))=some (es[pl[i]].2):=by
   rw[zVS hi'];simp[hk]
  refine zLg hS hl st.1 st.2.1 st.2.2 hx λh' hI' hs'=>?_;exact hQ _ h' s.toks hx ⟨hI',hs'.extBut a o hne st.2.1,st.2.2.extBut hs'.extBut hneT⟩ λb u hb ee=>hs'.extBut b u (λh=>hb (by simp[h])) ee
 done:=λs Q E st hQ=>zMY hh hS hl st.1 st.2.1 st.2.2 λh' he'=>hQ h' s.toks λb u hb ee=>he' b u (λh=>hb (by simp[h])) ee;self:=λ_ _ _ _ st hQ=>zLw st.1 hQ
end
open Sem (wp)
theorem zMT {prog:Ym} {w:Yo} {A:Yn} {I:Yt} {fp wr:Yg} {n:Nat} {P P':Nat->Value->Prop} {St:Nat->Heap->Prop} (W:Walks prog w A I fp wr n P St) (h:∀ i v,P i v->P' i v):Walks prog w A I fp wr n P' St where
 sub:=W.sub;frame:=W.frame;item:=λi s Q E hi st hQ=>W.item i s Q E hi st λv h' tk hP=>hQ v h' tk (h i v hP);done:=W.done;self:=W.self
section
variable {K:Type} [DecidableEq K] {knd:KeyKind prog w K}
theorem zCa (h:Q (w.params.followText "set-order") s):wpAny (model prog w) A setsByText Q E s:=by
 unfold setsByText;exact zVO (wpAny_askSetting (zVQ h))
theorem zLB (hS:SetK knd o es ep t ks) (hT:w.params.followText "set-order" = true):Nexts prog w o a ep ks.length (λ_=>0) ((pickOrder (w.params.setOrder a ep) es).toList.map (·.2)) where
 len:=by rw[zVX,(zDY _ es).length_eq,zV7,hS.size]
 nx:=λA E i s Q hi ho hQ=>by
  unfold setNext;refine zVO (wpAny_setState_of ho hS.data hS.fits ?_);refine zVO (zCa ?_);rw[hT,zVd rfl,zVg (by simp)];refine zVO ?_;unfold setWalk;refine zVO (wpAny_setState_of ho hS.data hS.fits ?_);refine zVO (zCa ?_);rw[hT,zVd rfl];refine zVO (wpAny_askSetting (zVQ ?_));refine zVQ ?_;have e:(Option.map (λ(e:Int × Value)=>(e.2,0)) (pickOrder (w.params.setOrder a ep) es)[i]?)=Option.map (λx=>(x,0)) ((pickOrder (w.params.setOrder a ep) es).toList.map (·.2))[i]?:=by
   rw[zVl,zW3];cases (pickOrder (w.params.setOrder a ep) es)[i]? <;> rfl
  show Q (Option.map (λ(e:Int × Value)=>(e.2,0)) (pickOrder (w.params.setOrder a ep) es)[i]?) s;rw[e];exact hQ
def zK1 (t:SetTable):Nat->Nat
 |0=>0
 |i+1=>t.place.getD i 0+1
theorem zP3 (h:Up t.place) (hi:i<=t.place.size):SetTable.below t.place (zK1 t i)=i:=by
 cases i with
 |zero=>exact zLL h
 |succ i=>
  show SetTable.below t.place (t.place.getD i 0+1)=i+1;have hl:i<t.place.size:=by omega
  have e:t.place.getD i 0=t.place[i]:=by simp[Array.getD,hl]
  rw[e];exact zLJ h hl
theorem zM5 (hS:SetK knd o es ep t ks):t.place.size=es.size:=by
 have:=hS.fits;simp only[SetTable.fits,zVy,beq_iff_eq]at this;exact this.1
theorem zJU (hS:SetK knd o es ep t ks) (hT:w.params.followText "set-order" = false) (hd:(!t.plain&&decide (es.size>1))=false):Nexts prog w o a ep ks.length (zK1 t) (es.toList.map (·.2)) where
 len:=by rw[zVX,zV7,hS.size]
 nx:=λA E i s Q hi ho hQ=>by
  have hz:=zM5 hS;unfold setNext;refine zVO (wpAny_setState_of ho hS.data hS.fits ?_);refine zVO (zCa ?_);rw[hT,zVg (by decide)];show wpAny _ _ (if (!t.plain&&decide (es.size>1))=true then _ else _) _ _ _;rw[zVg (by rw[hd];decide)];have hl:t.led=true:=by rw[hS.tab.led,hT];rfl
  refine zVO ?_;show wpAny _ _ (if (!t.led && !es.isEmpty)=true then unsupported "set:maker-not-led" else pure ()) _ _ _;rw[zVg (by rw[hl];simp)];refine zVQ ?_;rw[zP3 hS.tab.up (by rw[hz,hS.size];exact hi)];refine zVQ ?_;rw[zVl,zW3]at hQ;by_cases q:i<es.size
  .have q2:i<t.place.size:=by rw[hz];exact q
   rw[zV9 q,zV9 q2];rw[zV9 q]at hQ;have e:zK1 t (i+1)=t.place[i]+1:=by
    show t.place.getD i 0+1=_;simp[Array.getD,q2]
   simp only[Option.map]at hQ;rw[e]at hQ;exact hQ
  .have:i=es.size:=by rw[hS.size]at q ⊢;omega
   rw[Array.getElem?_eq_none (by omega)]at hQ ⊢;exact hQ
theorem zP4 (ho:s.heap.get? a=some o) (hS:SetK knd o es ep t ks)
  (h:∀ (h':Heap) (d:Drawn) (I:Yt) (fp:Yg) (ord:Yf) (St:Nat->Heap->Prop),(∀ b u,s.heap.get? b=some u->h'.get? b=some u)->s.heap.objs.size<=I->(∀ b∈fp,b<h'.objs.size/\(b=a\/s.heap.objs.size<=b)) ->
   (∀ A:Around,A.handled=none->Walks prog w A I fp [I] ks.length (λi v=>ord[i]?=some v) St)->St 0 h'->ord.Perm (es.toList.map (·.2))->Q (.ref I) { s with heap:=h',drawn:=d }) :
  wpAny (model prog w) A (pyIter (.ref a)) Q E s:=by
 have hT:=hS.typeIs ho;have hal:a<s.heap.objs.size:=zVZ ho;refine wpAny_pyIter_slot hT F.slot_set_iter (zV1 F.slot_set_iter hT zGk ?_ (F.args_set_iter_1 _));unfold Builtin.«frozenset.__iter__» Builtin.Frozenset.slot0 slotArgs Builtin.Frozenset.addrOf Builtin.Frozenset.sizeOf;simp only[List.isEmpty_nil,Bool.not_true,zWP,↓reduceIte,List.length_nil,bne_self_eq_false,pure_bind,bind_assoc];refine zVO (wpAny_setEntries_of ho hS.data hS.fits ?_);unfold setDrawn;simp only[bind_assoc];refine zVO (wpAny_setState_of ho hS.data hS.fits ?_);refine zVO (zCa ?_);simp only[pure_bind];have hsz:=hS.size;have plain:∀ (at_:Nat->Nat) (ord:Yf),at_ 0=0->Nexts prog w o a ep ks.length at_ ord->ord.Perm (es.toList.map (·.2))->Q (.ref s.heap.objs.size) { s with heap:=s.heap.push (zA4 (rawInt 0) 0 a ks.length ep) }:=by
  intro at_ ord h0 N hp;have e:s.heap.push (zA4 (rawInt 0) 0 a ks.length ep)=s.heap.push (zA4 (rawInt 0) 0 a ks.length ep):=rfl
  have:=h (s.heap.push (zA4 (rawInt 0) 0 a ks.length ep)) s.drawn s.heap.objs.size [s.heap.objs.size,a] ord (λi h=>h.get? s.heap.objs.size=some (zA4 (rawInt (at_ i)) i a ks.length ep)/\h.get? a=some o)
   (λb u e=>zVP _ e) (zVU _) (λb hb=>by
    rw[zV4];rcases zVa.mp hb with z|z
    .rw[z];exact ⟨zWL _,.inr (zVU _)⟩
    .rw[zVq.mp z];exact ⟨zWD hal,.inl rfl⟩)
   (λA hh=>zJD hh (zVj hal) N hS) ⟨by rw[h0];exact zVY _ rfl,zVP _ ho⟩ hp
  exact this
 have mk:∀ (s1:Yl) (f:Yu) (hv:s1.heap.get? a=some o) {Q':Fin->Shared->Prop},Q' (.done (.ret (.ref s1.heap.objs.size))) { s1 with heap:=s1.heap.push (zA4 f 0 a ks.length ep) }->wpAny (model prog w) A.in1 (do
   let e <- setEpoch a;let r <- newFields "set_iterator" [f,rawInt 0,Value.ref a,rawInt es.size,rawInt e];ret r) Q' E s1:=by
  intro s1 f hv Q' hq;refine zVO (wpAny_setEpoch_of hv hS.data hS.fits ?_);unfold newFields;refine zVO (zVr (zVQ ?_));rw[hsz];exact hq
 have ty:∀ (s1:Shared) (f:Value),(∃ T' r,Shared.TypeIs { s1 with heap:=s1.heap.push (zA4 f 0 a ks.length ep) } (.ref s1.heap.objs.size) T'/\typeLookup (Value.type T') (Str.ofString "__next__")=pure (some r)/\True):=λs1 f=>⟨"set_iterator", _,⟨_,zVY _ rfl,rfl⟩,zAC.lookup,trivial⟩;show wpAny _ _ (if (!w.params.followText "set-order" && (!t.plain&&decide (es.size>1)))=true then _ else _) _ _ _;by_cases hc:(!w.params.followText "set-order" && (!t.plain&&decide (es.size>1)))=true
 .rw[zVd hc];refine zVO (zDI _ _ (by simp) λpl d hp=>?_);refine zVO ?_;unfold newTuple;have hpl:pl.length=ks.length:=by rw[hp.length_eq,zXL,hsz]
  refine zVr ?_ (by
   show (List.map (λ(i:Nat)=>rawInt i) pl).toArray.size<=sizeLine;rw[zVW,zVX,hpl,<-hsz];exact fits_of_scanBound hS.bound)
  generalize hH:s.heap.push { cls:=.type "tuple", data:=.seq (List.map (λ(i:Nat)=>rawInt i) pl).toArray }=H;have kH:∀ b u,s.heap.get? b=some u->H.get? b=some u:=λb u e=>by rw[<-hH];exact zVP _ e
  have hT1:IsTup H s.heap.objs.size (pl.map λ(k:Nat)=>rawInt k).toArray:=⟨_,by rw[<-hH];exact zVY _ rfl,rfl,0,rfl⟩;have szH:H.objs.size=s.heap.objs.size+1:=by rw[<-hH];exact zV4 ..
  have szlt:s.heap.objs.size<H.objs.size:=by rw[szH];exact zWL _
  have alt:a<H.objs.size:=Nat.lt_trans hal szlt;refine mk { s with heap:=H,drawn:=d } (.ref s.heap.objs.size) (kH _ _ ho) ?_;obtain ⟨T',r,e1,e2,_⟩:=ty { s with heap:=H,drawn:=d } (.ref s.heap.objs.size);refine ⟨_,rfl,T',r,e1,e2,?_⟩;have kH2:∀ b u,s.heap.get? b=some u->(H.push (zA4 (.ref s.heap.objs.size) 0 a ks.length ep)).get? b=some u:=λb u e=>zVP _ (kH b u e);refine h _ d H.objs.size [H.objs.size,a,s.heap.objs.size] (pl.map λk=>((es[k]?).map (·.2)).getD .none) (λi h=>h.get? H.objs.size=some (zA4 (.ref s.heap.objs.size) i a ks.length ep)/\h.get? a=some o/\IsTup h s.heap.objs.size (pl.map λ(k:Nat)=>rawInt k).toArray) kH2 (by rw[szH];exact zW6 _) (λb hb=>?_) (λA hh=>?_) ⟨zVY _ rfl,kH2 a o ho,?_⟩ ?_
  .rw[zV4];simp only[zVa,zVt,zWj]at hb;rcases hb with z|z|z
   .rw[z];exact ⟨zWL _,.inr (zYK szlt)⟩
   .rw[z];exact ⟨zWD alt,.inl rfl⟩
   .rw[z];exact ⟨zWD szlt,.inr (zVU _)⟩
  .have hb:∀ k∈pl,k<es.size:=λk hk=>by have:=hp.mem_iff.mp hk;simpa using this
   refine zMT (zJq hh (a:=a) (I:=H.objs.size) (T:=s.heap.objs.size) (zVj alt) (zVj szlt) hS hpl hb) λi v hv=>?_;rw[zVl];cases q:pl[i]? with
   |none=>rw[q]at hv;cases hv
   |some k=>
    rw[q]at hv;simp only[Option.bind_some]at hv;rw[Option.map_some,hv];rfl
  .exact hT1.push _
  .have e:es.toList.map (·.2)=(List.range es.size).map λk=>((es[k]?).map (·.2)).getD .none:=by
    apply List.ext_getElem?;intro i;rw[zVl,zVl,zW3];by_cases q:i<es.size
    .rw[List.getElem?_range q,zV9 q];simp[q]
    .rw[Array.getElem?_eq_none (by omega),List.getElem?_eq_none (by simp;omega)];rfl
   rw[e];exact hp.map _
 .rw[zVg hc];refine mk s (rawInt 0) ho ?_;obtain ⟨T',r,e1,e2,_⟩:=ty s (rawInt 0);refine ⟨_,rfl,T',r,e1,e2,?_⟩;cases hX:w.params.followText "set-order" with
  |true=>exact plain _ _ rfl (zLB hS hX) ((zDY _ es).map _)
  |false=>
   rw[hX]at hc;exact plain _ _ rfl (zJU hS hX (by simpa using hc)) (.refl _)
end
open Sem (wp)
section
variable {K:Type} [DecidableEq K] {knd:KeyKind prog w K}
theorem zOY:isSubtype (.type "set") (.type "set")=pure true:=sub_set_self
theorem zNG (hT:s.TypeIs (.ref a) "set") (h:Q false s):wpAny (model prog w) A (Builtin.List.listLengthHint (.ref a)) Q E s:=by
 unfold Builtin.List.listLengthHint;refine zVO (wpAny_specialOf hT F.slot_set_len.lookup ?_);have hsp:splitId "set.__len__" = some ("set", "__len__"):=by decide +kernel
 dsimp only;rw[hsp];refine zVO (wpAny_isInstance hT zOY ?_);rw[zVg (by decide),zVd (by decide +kernel)];refine zVO (wpAny_typeOf hT ?_);exact zVQ h
theorem zJw (hh:A.handled=none) (ho:s.heap.get? a=some o) (hS:SetK knd o es ep t ks)
  (hQ:∀ (s':Yl) (acc:Yf),(∀ b u,s.heap.get? b=some u->s'.heap.get? b=some u)->s'.os=s.os->s'.gens=s.gens->acc.Perm (es.toList.map (·.2))->Q acc s'):wpAny (model prog w) A (collect (.ref a)) Q E s:=by
 have hal:a<s.heap.objs.size:=zVZ ho;have hn:ks.length<=sizeLine:=by rw[<-hS.size];exact fits_of_scanBound hS.bound
 unfold collect;refine zVO (wpAny_runValue (codeAny_builtin F.entry_proto_collect ?_));rw[zWJ F.plain_proto_collect _];refine zVO (zVr (zVQ ⟨plainId_quiet F.plain_list_iadd _,codeAny_builtin F.entry_list_iadd ?_⟩));rw[zWJ F.plain_list_iadd _];generalize hH:s.heap.push { cls:=.type "list", data:=.seq ([]:List Value).toArray }=H;have kH:∀ b u,s.heap.get? b=some u->H.get? b=some u:=λb u e=>by rw[<-hH];exact zVP _ e
 have szH:H.objs.size=s.heap.objs.size+1:=by rw[<-hH];exact zV4 ..
 have hL1:H.get? s.heap.objs.size=some { cls:=.type "list", data:=.seq ([]:List Value).toArray }:=by rw[<-hH];exact zVY _ rfl
 have ho1:=kH a o ho;show wpAny _ A.in1 (Builtin.List.listExtendWith (.ref s.heap.objs.size) (.ref a) (.ref s.heap.objs.size)) _ _ { s with heap:=H };unfold Builtin.List.listExtendWith;have hT1:Shared.TypeIs { s with heap:=H } (.ref a) "set" := ⟨o,ho1,hS.ex.1⟩;refine zVO (wpAny_typeOf hT1 ?_);have hneL:s.heap.objs.size≠a:=zWt hal;have h1:Builtin.List.listSameRef (.ref s.heap.objs.size) (.ref a)=false:=by simp[Builtin.List.listSameRef,hneL]
 have h2:(Value.type "set" == Value.type "list")=false:=by decide
 have h3:(Value.type "set" == Value.type "tuple")=false:=by decide
 simp only[h1,h2,h3,Bool.or_false,zWP,if_false];refine zVO (zP4 (s:={ s with heap:=H }) ho1 hS λh2 d I fp ord St k2 hI2 hfp W st0 hp=>?_);have ho2:=k2 a o ho1;refine zVO (zWH (zNG (s:={ s with heap:=h2,drawn:=d }) ⟨o,ho2,hS.ex.1⟩ ?_));rw[zVd (by decide +kernel)];refine zVO (zWl (zVO ?_));have hL2:=k2 _ _ hL1;refine zVO (wpAny_updateSeq (s:={ s with heap:=h2,drawn:=d }) hL2 rfl ?_);have hS2:=zWB (Obj.mapSeq (·.push Value.none)) hL2 rfl;refine wpAny_updateSeq hS2 rfl ?_;have hS3:=zWB (Obj.mapSeq (·.pop)) hS2 rfl;generalize hH3:(h2.update s.heap.objs.size (Obj.mapSeq (·.push Value.none))).update s.heap.objs.size (Obj.mapSeq (·.pop))=H3 at hS3;have oth:∀ b u,b≠s.heap.objs.size->h2.get? b=some u->H3.get? b=some u:=λb u hb e=>by
  rw[<-hH3];exact (zV5 _ _ (Ne.symm hb)).trans ((zV5 _ _ (Ne.symm hb)).trans e)
 have hSf:s.heap.objs.size∉fp:=λhm=>by
  rcases (hfp _ hm).2 with z|z
  .exact hneL z
  .have z':H.objs.size<=s.heap.objs.size:=z;rw[szH]at z';exact absurd z' (Nat.not_succ_le_self _)
 have WS:=(W A.in1.in1 hh).toS;have st3:St 0 H3:=(W A.in1.in1 hh).frame 0 _ _ st0 λb hb u e=>oth b u (λz=>hSf (z▸hb)) e;have hI3:I≠s.heap.objs.size:=λz=>by
  have z':H.objs.size<=I:=hI2;rw[szH,z]at z';exact absurd z' (Nat.not_succ_le_self _)
 refine zVQ ⟨plainId_quiet F.plain_extend_loop _,codeAny_extend_loopS (A:=A) (WalksS.of_in1 WS) hn _ hSf _ ks.length 0 { s with heap:=H3,drawn:=d } _ _ rfl (zWA _) st3 hS3 (ItemsOf.nil _) λs' acc' c' hm hS' hacc=>?_⟩;refine zVO (wpAny_load hS' (zVQ (hQ s' _ (λb u e=>hm.heap b u (λq=>?_) (oth b u (λz=>zV6 _ (z▸zVZ e)) (k2 b u (kH b u e)))) hm.os hm.gens ?_)))
 .rcases zVa.mp q with z|z
  .exact zV6 _ (z▸zVZ e)
  .have z':H.objs.size<=I:=hI2;rw[<-zVq.mp z,szH]at z';exact zV6 _ (Nat.lt_trans (zVn (zWL _) z') (zVZ e))
 .have e:acc'.toList=ord:=by
   have hl:ord.length=ks.length:=by rw[hp.length_eq,zVX,zV7,hS.size]
   apply List.ext_getElem?;intro i;rw[zW3];by_cases q:i<ks.length
   .have q':i<acc'.size:=by rw[hacc.1];exact q
    rw[zV9 q'];exact (hacc.2 i _ (zV9 q')).symm
   .rw[Array.getElem?_eq_none (by rw[hacc.1];omega),List.getElem?_eq_none (by omega)]
  rw[e];exact hp
end
end ST
namespace L2
open PySem PySem.Spec PyProof.Rows ST
section
theorem zDM {elt target iter ifs rest scope pos it acc env}
  (h0:codeAny (model prog w) A (.compLoop (.SetComp elt (⟨target,iter,ifs,0⟩::rest) scope pos) 0 it acc env) R s)
  (h:wpAny (model prog w) A (pyIter it) (λit' s'=>codeAny (model prog w) A (.compLoop (.SetComp elt (⟨target,iter,ifs,0⟩::rest) scope pos) 0 it' acc env) R s')
   (notedBy (model prog w) A env λx s'=>R (.error x) s') s) :
  codeAny (model prog w) A (.compStart (.SetComp elt (⟨target,iter,ifs,0⟩::rest) scope pos) 0 it acc env) R s:=by
 refine codeAny_of_tree ?_;show wpAny _ _ ((compStart (.SetComp elt (⟨target,iter,ifs,0⟩::rest) scope pos) 0 it acc env).onRaise (λx=>do noteFrame x env;standAt theWindowsPlace)) _ _ s;refine wpAny_notedAt ?_;unfold compStart;refine zVO (wpAny_askSetting (wpAny_ite ?_));split
 .first
   |exact zVO (zVQ (zVQ (And.intro rfl h0)))
   |exact zVQ (And.intro rfl h0)
 .first
   |exact zVO (zWl (zVO (zWM (zVO (zVu h (λit' s' h'=>zVQ (And.intro rfl h')) λ_ _ x=>x)))))
   | (refine zVO (zWl ?_);show wpAny _ _ (standAt iter.pos >>= _) _ _ s;exact zVO (zWM (zVO (zVu h (λit' s' h'=>zVQ (And.intro rfl h')) λ_ _ x=>x))))
end
section
variable {pos:Pos}
 {own:Yj} {g:TG} {tc:TT} {te:TE} {E:Yc}
theorem zKp (h:SetK (intKind prog w) o es ep t ks):∀ v,o.data≠.cell v:=λv z=>by rw[h.data]at z;cases z
theorem zFo (C:CompIn X scope own) (hcalm:X.calm=true) (I:Inv X zB σ H s) (T:Turn X.prog X.w X.K tg J fp it tn) (st:tn 0 s.heap) (hf:∀ b∈fp,zBr X zB H b)
  (c1:∀ x c,cl.lookup x=some c->X.env.cells.lookup x=some c) (c2:∀ y∈scope.names,y.2=.free->(cl.lookup y.1).isSome=true)
  (hg:PG (zH X zB scope cl s H fp) tg g) (hi:zFR (zH X zB scope cl s H fp) ifs tc) (he:PE (zH X zB scope cl s H fp) elt te)
  {RR:Value->Addr->Result->Shared->Prop} {QQ:List Int->Hp->Prop} {W:Nat->Nat->List Int->Hp->Prop} {m0:Nat} (w0:W 0 m0 [] H)
  (turn:∀ i m ys H,W i m ys H->(J.stop i H/\QQ ys H) \/
   (J.go i H /\ ∀ x H',J.yld i H x H'->g x (clr own σ) H' λσ2 H2=>Ext (clr own σ) σ2/\tc σ2 H2 λb H3=>
    if b=true then te σ2 H3 λv H4=>∃ k,v=.int k/\ys.length+1<scanBound /\ ∃ m',m'<m/\W (i+1) m' (ins ys k) H4 else ∃ m',m'<m/\W (i+1) m' ys H3))
  (fin:∀ σc H' s' o es ep t ys,Inv (zH X zB scope cl s H fp) [(s.heap.objs.size,o)] σc H' s'->SetK (intKind X.prog X.w) o es ep t ys->QQ ys H'->RR (.ref s.heap.objs.size) (s.heap.objs.size+1) (.ok .next) s') :
  wpAny (model X.prog X.w) X.A (newSet (.type "set")) (λacc s₃=>wpAny (model X.prog X.w) X.A (newFunctionEnv scope X.env.globals cl [] X.env.qual none .none (some X.env)) (λcenv s₄=>
   codeAny (model X.prog X.w) X.A (.compStart (.SetComp elt [⟨tg,iter,ifs,0⟩] scope pos) 0 (.ref it) acc { cenv with scope:=relabel scope X.env }) (RR acc cenv.locals) s₄) E s₃) E s:=by
 have ob:∀ b:Nat,b∈fp->b<s.heap.objs.size:=λb hb=>let ⟨_,e,_⟩:=T.obj 0 _ st b hb;zVZ e;refine zMg (zCS ?_);have sz1:(s.heap.push (zBq X.w)).objs.size=s.heap.objs.size+1:=zV4 ..;have I4:=zEj (X:=X) (zB:=zB) (σ:=σ) (σc:=clr own σ) (H:=H) (s:=s) (scope:=scope) (cl:=cl) (fp:=fp) C.sc I hf ob c1 c2 (zA8 own σ) (λi x v h1 h2 h3=>by
  obtain ⟨a,b⟩:=zCX own σ i v h2;rcases C.nm i x h1 with z|z|z
  .exact absurd z b
  .exact absurd (zB2 x z) h3
  .exact ⟨z,a⟩) (zBq X.w) (by intro v z;cases z) rfl rfl
 have st4:tn 0 (pushCells ((s.heap.push (zBq X.w)).push { cls:=.type "dict", data:=.dict #[] }) scope.names):=T.keep 0 _ _ st λb _ o e=>pushCells_keeps _ _ b o (zVP _ (zVP _ e));unfold newEnv;rw[sz1];have hDfp:s.heap.objs.size∉fp:=λz=>zV6 _ (ob _ z);have hcD:∀ x c,(zH X zB scope cl s H fp).env.cells.lookup x=some c->c≠s.heap.objs.size:=λx c e z=>by
  obtain ⟨v,o,ho,hd⟩:=I4.cell x c e;obtain ⟨q,_⟩:=I4.pin (s.heap.objs.size,zBq X.w) (by simp);rw[z,q]at ho;cases ho;cases hd
 have fpk:∀ {H':Hp} {pl:Yd},(∀ b∈fp,H' b=none)->(∀ p∈pl,p.1=s.heap.objs.size) -> ∀ b∈fp,zBr (zH X zB scope cl s H fp) pl H' b:=λ{H' pl} hn hp b hb=>
  ⟨hn b hb,(I4.ok.exf b hb).1,I4.ok.exfs b hb,.inl hb,(I4.ok.exf b hb).2,λp hq=>by
   rcases zVo.mp hq with z|z
   .exact (hf b hb).2.2.2.2.2 p z
   .intro e;have e2:=hp p z;rw[e]at e2;exact hDfp (e2▸hb)⟩
 have loop:codeAny (model X.prog X.w) X.A (.compLoop (.SetComp elt [⟨tg,iter,ifs,0⟩] scope pos) 0 (.ref it) (.ref s.heap.objs.size) (zH X zB scope cl s H fp).env) (RR (.ref s.heap.objs.size) (s.heap.objs.size+1))
   { s with heap:=pushCells ((s.heap.push (zBq X.w)).push { cls:=.type "dict", data:=.dict #[] }) scope.names }:=by
  refine zID (λn s'=>∃ i H' ys o es ep t,Inv (zH X zB scope cl s H fp) [(s.heap.objs.size,o)] (clr own σ) H' s'/\SetK (intKind X.prog X.w) o es ep t ys/\tn i s'.heap/\(∀ b∈fp,H' b=none)/\W i n ys H') ?_ m0
   ⟨0,H,[],zBq X.w,_,_,_,I4,.fresh,st4,λb hb=>(hf b hb).1,w0⟩
  rintro n s5 ⟨i,H5,ys,o,es,ep,t,I5,r5,st5,f5,w5⟩;have pinD:∀ p∈[(s.heap.objs.size,o)],p.1=s.heap.objs.size:=λp hp=>by
   have:p=(s.heap.objs.size,o):=by simpa using hp
   rw[this]
  rcases turn i n ys H5 w5 with ⟨stop,qq⟩|⟨go,step⟩
  .refine thn (T.done (zH X zB scope cl s H fp) rfl rfl rfl hcalm i _ s5 _ H5 _ I5 (fpk f5 pinD) st5 stop) λr s6 ⟨hr,I6⟩=>?_;subst hr;exact fin _ H5 s6 o es ep t ys I6 r5 qq
  .refine thn (T.item (zH X zB scope cl s H fp) rfl rfl rfl hcalm i _ s5 _ H5 _ I5 (fpk f5 pinD) st5 go) λr s6 ⟨u,hr,h6⟩=>?_;subst hr;refine thn h6 λ_ s7 ⟨x,H7,I7,r7,y7,st7,f7⟩=>?_;have I7':=I7.pinned (fpk f7 pinD) (T.obj _ _ st7);refine thn (hg _ s7 _ H7 x u _ I7' r7 (step x H7 y7)) λ_ s8 ⟨σ8,H8,I8,x8,q8⟩=>?_;refine thn (hi _ s8 σ8 H8 _ I8 q8) λok s9 ⟨H9,I9,q9⟩=>?_;have back:∀ {s':Yl} {Hx:Hp},Inv (zH X zB scope cl s H fp) ([(s.heap.objs.size,o)]++zCd fp s7.heap) σ8 Hx s'->tn (i+1) s'.heap /\ ∀ b∈fp,Hx b=none:=λ{s' Hx} Ix=>
    ⟨T.keep _ _ _ st7 λb hb o e=>(Ix.pin (b,o) (zVi _ (zVi _ (zAN hb e)))).1,λb hb=>by
     obtain ⟨o,e,d⟩:=T.obj _ _ st7 b hb;exact (Ix.pin (b,o) (zVi _ (zVi _ (zAN hb e)))).2.1⟩
   cases ok with
   |false=>
    obtain ⟨m',hm,w'⟩:=q9;obtain ⟨b1,b2⟩:=back I9;exact ⟨m',hm,i+1,H9,ys,o,es,ep,t,(I9.weak (by rw[x8.1]) x8.2).unpinned,r5,b1,b2,w'⟩
   |true=>
    refine thn (he _ s9 σ8 H9 _ I9 q9) λv s10 ⟨y,H10,I10,r10,k,hk,hlt,m',hm,w'⟩=>?_;subst hk;obtain ⟨b1,b2⟩:=back I10;have J10:=(I10.weak (by rw[x8.1]) x8.2).unpinned;obtain ⟨e10,n10,ne10,nf10,d10⟩:=J10.pin (s.heap.objs.size,o) (by simp);obtain ⟨tk,hv⟩:∃ tk,v=.int k tk:=r10;subst hv;refine zNi (knd:=intKind X.prog X.w) (intKind_is _ _ _ _) rfl e10 r5 hlt λh' o' es' ep' t' hs' e' S'=>?_;refine ⟨m',hm,i+1,H10,ins ys k,o',es',ep',t',?_,S',T.keep _ _ _ b1 λb hb o e=>hs'.extBut b o (λz=>hDfp (z▸hb)) e,b2,w'⟩;refine (Inv.repin (pl:=[]) J10 (λp hp=>?_) hs' (zVU _) hcD e' (zKp S')).tok _;rw[zV8]at hp;have hp':p∈X.pn++zB:=hp;exact zVj (zVZ (I.pin p hp').1)
 exact zDM loop (T.self _ 0 _ _ _ st4 loop)
theorem zI6 (I:Inv X zB σ H s) (hf:∀ b∈fp,zBr X zB H b)
  (Ic:Inv (zH X zB scope cl s H fp) [(s.heap.objs.size,oD)] σc H' s') (hs:Heap.SameBut (s.heap.objs.size+1) s'.heap h') :
  Inv X zB σ H' { s' with heap:=h' }/\h'.get? s.heap.objs.size=some oD:=by
 obtain ⟨eD,nD,_⟩:=Ic.pin (s.heap.objs.size,oD) (by simp);have nC:H' (s.heap.objs.size+1)=none:=Ic.free;have eD':h'.get? s.heap.objs.size=some oD:=hs.extBut _ _ (zVj (zWL _)) eD;have lt1:∀ {b:Yt} {o:Obj},s.heap.get? b=some o->b≠s.heap.objs.size+1:=λe=>zVj (zWD (zVZ e));have tr:∀ b u,H' b=some u->b≠s.heap.objs.size+1:=λb u e z=>by rw[z,nC]at e;cases e
 refine ⟨?_,eD'⟩;have B:=Ic.base;have un:Un (frs X.stack) fp H H' s.heap h':=by
  refine ⟨λb o e q hb hx=>hs.extBut b o (lt1 e) (B.keep b o e q hb hx),λb o e q hb hx=>?_,λb o e q hx=>B.free b o e q hx,λb o e hx=>?_,λb xs e=>B.tups b xs e,λb o xs e=>B.frzs b o xs e,λb ps e=>B.tbls b ps e⟩
  .obtain ⟨sl,e1⟩:=B.slot b o e q hb hx;exact ⟨sl,hs.extBut b _ (lt1 e) e1⟩
  .obtain ⟨o',e1⟩:=B.there b o e hx;exact ⟨o',hs.extBut b _ (lt1 e) e1⟩
 have hok:HOk X.prog X.w H' h':=λb u e=>by
  refine (Ic.hok b u e).stay (λc v hc q=>hs.extBut c v ?_ q) (λc q=>q) λc xs q=>q;rcases hc with z|z
  .rw[z];exact tr b u e
  .exact tr c _ z
 exact I.call' (s':={ s' with heap:=h' }) (ch:=fp) Ic.os un hok Ic.bare λb hb=>⟨(hf b hb).2.2.2.1,(hf b hb).2.1,(hf b hb).2.2.2.2.1,(hf b hb).2.2.2.2.2⟩
end
abbrev TZ:=St->Hp->(List Int->Hp->Prop)->Prop
def PZ (X:Cx) (e:Expr) (t:TZ):Prop:=∀ (zB:Yd) (s:Yl) (σ:St) (H:Hp) (Q:List Int->Hp->Prop),Inv X zB σ H s->t σ H Q ->
 wpAny (model X.prog X.w) X.A (eval e X.env) (λv s'=>∃ a o es ep tb ks H',v=.ref a/\s'.heap.get? a=some o/\SetK (intKind X.prog X.w) o es ep tb ks/\Inv X zB σ H' s'/\Q ks H') X.xe s
def zJ4 (own:Yj) (wi:TI) (g:TG) (tc:TT) (te:TE):TZ:=λσ H Q=>wi σ H λJ H1=>∃ W:Nat->Nat->List Int->Hp->Prop,(∃ m,W 0 m [] H1) /\ ∀ i m ys H,W i m ys H ->
 (J.stop i H/\Q ys H) \/
 (J.go i H /\ ∀ x H',J.yld i H x H'->g x (clr own σ) H' λσ2 H2=>Ext (clr own σ) σ2/\tc σ2 H2 λb H3=>
  if b=true then te σ2 H3 λv H4=>∃ k,v=.int k/\ys.length+1<scanBound /\ ∃ m',m'<m/\W (i+1) m' (ins ys k) H4 else ∃ m',m'<m/\W (i+1) m' ys H3)
section
theorem zRN (C:CompIn X scope own) (hcalm:X.calm=true) (hi:PI X tg iter wi) (p:CompParts X scope tg ifs elt g tc te) (hs:∀ x,foldedSetIterable iter X.env x=pure x:=by intro _;rfl) :
  PZ X (.SetComp elt [⟨tg,iter,ifs,0⟩] scope pos) (zJ4 own wi g tc te):=by
 intro zB s σ H Q I h;obtain ⟨cl,hcl,c1,c2⟩:=C.sc.closure I;rw[arm_eval_SetComp];refine zXI (use:=none) rfl hs hcl C.sc.kind C.sc.names (thn (hi zB s σ H _ I h) λv s1 h1=>thn h1 λitv s2 h2=>?_);obtain ⟨it,fp,tn,J,H2,e,I2,T,st2,f2,W,⟨m0,w0⟩,turn⟩:=h2;subst e;refine zFo C hcalm I2 T st2 f2 c1 c2 (p.g _ _ _ _ _) (p.c _ _ _ _ _) (p.e _ _ _ _ _) (RR:=λacc C r s'=>compPost (model X.prog X.w) X.A X.xe none (λv s'=>∃ a o es ep tb ks H',v=.ref a/\s'.heap.get? a=some o/\SetK (intKind X.prog X.w) o es ep tb ks/\Inv X zB σ H' s'/\Q ks H') acc C r s') (QQ:=Q) w0 turn ?_;intro σc H' s' o es ep t ys Ic rv qq;obtain ⟨m,hn,_⟩:=Ic.loc;refine ⟨m,hn,λh' hs'=>?_⟩;obtain ⟨J',eD⟩:=zI6 I2 f2 Ic hs';exact ⟨_,o,es,ep,t,ys,H',rfl,eD,rv,J',qq⟩
end
end L2
namespace ST
open PySem PySem.Spec PyProof.Rows
open Sem (wp)
section
variable {prog:Ym} {w:Yo} {A:Yn} {E:Yc} {s:Yl}
variable {K:Type} [DecidableEq K] {knd:KeyKind prog w K}
def zO (ks:List K):List K:=ks.foldl ins []
theorem zDl (ks:List K) (k:K):zO (ks++[k])=ins (zO ks) k:=by unfold zO;rw[List.foldl_append];rfl
theorem zQQ (ks:List K) (k:K):(ins ks k).length<=ks.length+1:=by unfold ins;split <;> simp
theorem zBU (ks:List K):(zO ks).length<=ks.length:=by
 have:∀ (l acc:List K),(l.foldl ins acc).length<=acc.length+l.length:=by
  intro l;induction l with
  |nil=>intro acc;simp
  |cons x r ih=>intro acc;have:=ih (ins acc x);have:=zQQ acc x;simp only[List.foldl_cons,zVv];omega
 simpa [zO] using this ks []
theorem zQE (ks:List K) (k x:K):x∈ins ks k ↔ x∈ks\/x=k:=by
 unfold ins;split
 .rename_i h;constructor
  .exact .inl
  .rintro (z|z)
   .exact z
   .rw[z];exact h
 .simp
theorem zAR (ks:List K) (x:K):x∈zO ks ↔ x∈ks:=by
  have:∀ (l acc:List K),x∈l.foldl ins acc ↔ x∈acc\/x∈l:=by
    intro l;induction l with
    |nil=>intro acc;simp
    |cons y r ih=>intro acc;rw[List.foldl_cons,ih,zQE,zVa];simp[or_assoc]
  simpa [zO] using this ks []
theorem zMW (h : ks.Nodup) (k : K) : (ins ks k).Nodup := by
  unfold ins;split
  .exact h
  · rename_i q
    rw[zWc]
    exact ⟨h, by simp, fun a ha b hb z => by have : b = k := by simpa using hb
                                             subst this;subst z;exact q ha⟩
theorem zBz (ks:List K):(zO ks).Nodup:=by
 have:∀ (l acc:List K),acc.Nodup->(l.foldl ins acc).Nodup:=by
  intro l;induction l with
  |nil=>intro acc h;exact h
  |cons y r ih=>intro acc h;exact ih _ (zMW h y)
 exact this ks [] (by simp)
variable {R:Yx} {I:Yt} {fp wr:Yg} {G:Array GenState->Array GenState->Prop} {n:Nat} {P:Nat->Value->Prop} {St:Nat->Shared->Prop}
end
def zDJ (ks:Ye):List Int:=ks.mergeSort λa b=>decide (a<=b)
theorem zBd (ks:Ye):(zDJ ks).Perm ks:=List.mergeSort_perm _ _
theorem zFg (ks:Ye):(zDJ ks).Pairwise (· <= ·):=by
 have:=List.pairwise_mergeSort (le:=λ(a b:Int)=>decide (a<=b)) (λa b c h1 h2=>by simp at h1 h2 ⊢;omega) (λa b=>by simp;omega) ks;exact this.imp λh=>by simpa using h
theorem zHc:∀ {xs ys:Ye},xs.Perm ys->xs.Pairwise (· <= ·)->ys.Pairwise (· <= ·)->xs=ys
 |[],ys,p,_,_=>by have:=p.length_eq;simp at this;rw[List.length_eq_zero_iff.mp this.symm]
 |x::xs,[],p,_,_=>by have:=p.length_eq;simp at this
 |x::xs,y::ys,p,h1,h2=>by
  have hx:=List.pairwise_cons.mp h1;have hy:=List.pairwise_cons.mp h2;have e:x=y:=by
   have a:x∈y::ys:=p.mem_iff.mp zVc;have b:y∈x::xs:=p.mem_iff.mpr zVc;rcases zVa.mp a with z|z
   .exact z
   .rcases zVa.mp b with q|q
    .exact q.symm
    .exact Int.le_antisymm (hx.1 y q) (hy.1 x z)
  subst e;rw[zHc (p.cons_inv) hx.2 hy.2]
theorem zJm (p:xs.Perm ys) (h:xs.Pairwise (· <= ·)):xs=zDJ ys:=zHc (p.trans (zBd ys).symm) h (zFg ys)
section
theorem zKn
  (hc:wpAny (model prog w) A.in1 (collect v) (λvs s1=>∃ ns,IntsAre vs ns/\vs.length<64 /\ ∀ (h':Heap) (out:List Value) (n:Nat),(∀ b u,s1.heap.get? b=some u->h'.get? b=some u)->h'.get? s1.heap.objs.size=some (seqObj "list" out.toArray n)->IntsAre out (zDJ ns)->Q (.ref s1.heap.objs.size) { s1 with heap:=h' }) E s) :
  wpAny (model prog w) A (call (.builtin "sorted") [v]) Q E s:=by
 refine Calls.call_function_entry kind_sorted plain_sorted entry_sorted (args_sorted1 _) ?_;unfold Builtin.«sorted»;refine zVO (m:=checkCount "sorted" 1 1 _) (zVQ ?_);refine zVO (zVu hc (λvs s1 h1=>?_) λ_ _ h'=>h');obtain ⟨ns,hI,h64,h⟩:=h1;refine zVO (wpAny_newList ?_ (by rw[sizeLine_eq];omega));have hoL:(s1.heap.push (seqObj "list" vs.toArray 0)).get? s1.heap.objs.size=some (seqObj "list" vs.toArray 0):=zVY _ rfl;refine zVO (zWH (zV1 slot_list_sort ⟨_,hoL,rfl⟩ entry_list_sort (list_sort_tree (s:={ s1 with heap:=s1.heap.push (seqObj "list" vs.toArray 0) }) hoL hI h64 λout ns' a1 a2 a3=>⟨_,rfl,?_⟩) (args_list_sort _)));refine zVQ ⟨_,rfl,?_⟩;have g1:=get?_update_seq hoL (λ_=> #[]);have g2:(((s1.heap.push (seqObj "list" vs.toArray 0)).update s1.heap.objs.size (Obj.mapSeq λ_=> #[])).push (seqObj "tuple" vs.toArray 0)).get? s1.heap.objs.size=_:=zVP _ g1;have g3:=zVP (seqObj "list" #[] 0) g2;have g4:=get?_update_seq g3 (λ_=>out);have eS:=zJm a2 a3;subst eS;refine h _ out.toList _ (λb u e=>?_) (by rw[Array.toArray_toList];exact g4) a1;have hb:s1.heap.objs.size≠b:=λz=>zV6 _ (z▸zVZ e);exact (zV5 _ _ hb).trans (zVP _ (zVP _ ((zV5 _ _ hb).trans (zVP _ e))))
theorem zMU (h:F2 (zSt (intKind prog w)) es ks):IntsAre (es.map (·.2)) ks:=by
 induction h with
 |nil=>exact .nil
 |cons h _ ih=>
  obtain ⟨⟨h1,_⟩,_⟩:=h;obtain ⟨t,e⟩:=Value.isInt_shape h1;rw[zVh,e];exact .cons _ _ ih
theorem zMl (p:us.Perm vs):∀ {ks:Ye},IntsAre vs ks -> ∃ ks',ks'.Perm ks/\IntsAre us ks':=by
 have p':=p.symm;clear p;induction p' with
 |nil=>intro ks h;exact ⟨ks,.refl _,h⟩
 |cons x _ ih=>
  intro ks h;cases h with
  |cons n t r=>
   obtain ⟨ys',q1,q2⟩:=ih r;exact ⟨_,q1.cons _,.cons _ _ q2⟩
 |swap x y l=>
  intro ks h;cases h with
  |cons n t r=>
   cases r with
   |cons n2 t2 r=>exact ⟨_,List.Perm.swap _ _ _,.cons _ _ (.cons _ _ r)⟩
 |trans _ _ ih1 ih2=>
  intro ks h;obtain ⟨ys',q1,q2⟩:=ih1 h;obtain ⟨ys'',r1,r2⟩:=ih2 q2;exact ⟨ys'',r1.trans q1,r2⟩
theorem zJe (p:xs.Perm ys):zDJ xs=zDJ ys:=zJm ((zBd xs).trans p) (zFg xs)
theorem zLX (hh:A.handled=none) (ho:s.heap.get? a=some o) (hS:SetK (intKind prog w) o es ep t ks) (h64:ks.length<64)
  (h:∀ (s1:Shared) (h':Heap) (out:List Value) (n:Nat),(∀ b u,s.heap.get? b=some u->s1.heap.get? b=some u)->s1.os=s.os->s1.gens=s.gens->(∀ b u,s1.heap.get? b=some u->h'.get? b=some u)->h'.get? s1.heap.objs.size=some (seqObj "list" out.toArray n)->IntsAre out (zDJ ks)->Q (.ref s1.heap.objs.size) { s1 with heap:=h' }) :
  wpAny (model prog w) A (call (.builtin "sorted") [.ref a]) Q E s:=by
 refine zKn (zJw (A:=A.in1) hh ho hS λs' acc k1 k2 k3 hp=>?_);obtain ⟨ks',p,f⟩:=hS.ent;obtain ⟨ks2,p2,f2⟩:=zMl hp (zMU f);refine ⟨ks2,f2,?_,λh' out n e1 e2 e3=>?_⟩
 .rw[hp.length_eq,zVX,zV7,hS.size];exact h64
 .rw[zJe (p2.trans p)]at e3;exact h s' h' out n k1 k2 k3 e1 e2 e3
end
end ST
namespace L2
open PySem PySem.Spec PyProof.Rows ST
section
theorem Inv.kept' (I:Inv X zB σ H s) (k:∀ b u,s.heap.get? b=some u->s1.heap.get? b=some u) (ho:s1.os=s.os) (hg:s1.gens=s.gens):Inv X zB σ H s1 :=
 I.call' (ch:=[]) ho (Un.kept k) (I.hok.kept k) (by rw[hg];exact I.bare) λb hb=>nomatch hb
theorem zF5:∀ {ns:Ye} {us:Yf},IntsAre us ns->zZ (ns.map V.int) us
 |_,_,.nil=> .nil
 |_,_,.cons n t h=> .cons ⟨t,rfl⟩ (zF5 h)
theorem zOC (ks:Ye):(zDJ ks).length=ks.length:=(zBd ks).length_eq
theorem zOD (hc:X.calm=true) (hg:Gl X "sorted") (hm:X.mg "sorted" = none) (ha:PZ X e t) (hs:starEach [e] X.env=(false,eval e X.env)::starEach [] X.env:=by rfl) (hpl:(backTo pos (starEach [] X.env)).any (·.1)=false:=by rfl) :
  PE X (.Call (.Name "sorted" p) [e] [] pos) (λσ H Q=>t σ H λks H1=>ks.length<64 /\ ∀ q,H1 q=none->Q (.ref q) (upd H1 q (.lst ((zDJ ks).map V.int)))):=by
 intro zB s σ H Q I h;refine wpAny_Call_Name_kw (zD7 I hg hm (by rfl) ?_ (by decide) (by decide));refine callWith_builtin1 ?_ hs hpl;rw[hs];refine Calls.spliced_cons (thn (ha zB s σ H _ I h) λu s1 ⟨a,o,es,ep,tb,ks,H1,hv,ho,hS,I1,h64,q⟩=>Calls.spliced_nil ?_);subst hv;refine zLX (I1.ok.hd hc) ho hS h64 λs2 h' out n k1 k2 k3 k4 e4 i4=>?_;have I2:Inv X zB σ H1 s2:=I1.kept' k1 k2 k3;have hf:H1 s2.heap.objs.size=none:=I2.hok.fresh (zVU _);refine ⟨.ref s2.heap.objs.size,upd H1 s2.heap.objs.size (.lst ((zDJ ks).map V.int)),I2.laid (t':=s2.toks) k4 (zVU _) ⟨by rw[zVX,zOC,sizeLine_eq];omega,out,n,zF5 i4,e4⟩,rfl,q _ hf⟩
end
end L2
namespace L3
open PySem PySem.Spec PyProof.Rows L2 ST
abbrev FZ:=Sd->Mem->Option (List Int × Mem)
def trZ (K:Yb) (f:FZ):TZ:=λτ H Q=>∃ L σ M ks M',Cor K L M H/\zBG L H σ τ/\f σ M=some (ks,M') /\ ∀ L' H',Stp L H L' H'->Cor K L' M' H'->Q ks H'
structure QZ (X:Cx) (e:Expr) (f:FZ):Prop where
 un:PZ X e (trZ X.K f)
theorem PZ.imp (h:PZ X e t) (hi:∀ τ H Q,t' τ H Q->t τ H Q):PZ X e t':=λzB s σ H Q I q=>h zB s σ H Q I (hi _ _ _ q)
def zHo (own:Yj) (fi:FI) (g:FG) (tc:FT) (te:FE):FZ:=λσ M=>match zi own fi g tc te σ M with
 |some (.fl ys,M2)=>match zAZ ys with
  |some ks=>if ks.length+1<scanBound then some (zO ks,M2) else none
  |none=>none
 |_=>none
theorem zGG:∀ {as bs:List D} {zs:Ye},zAZ (as++bs)=some zs -> ∃ xs ys,zAZ as=some xs/\zAZ bs=some ys/\zs=xs++ys
 |[],bs,zs,h=>⟨[],zs,rfl,h,rfl⟩
 |a::as,bs,zs,h=>by
  cases a with
  |int i=>
   rw[List.cons_append]at h;unfold zAZ at h;split at h
   .rename_i us e;cases h;obtain ⟨xs,ys,e1,e2,e3⟩:=zGG e;refine ⟨i::xs,ys,?_,e2,by rw[e3];rfl⟩;unfold zAZ;rw[e1]
   .cases h
  |_=>cases h
theorem zJ7 (h:zAZ as=some xs):zAZ (as++[.int i])=some (xs++[i]):=by
 induction as generalizing xs with
 |nil=>cases h;rfl
 |cons a as ih=>
  cases a with
  |int j=>
   unfold zAZ at h;split at h
   .rename_i us e;cases h;rw[List.cons_append];unfold zAZ;rw[ih e];rfl
   .cases h
  |_=>cases h
theorem zNC {K:Yb} {own:Yj} {fi:FI} {g:TG} {fg:FG} {tc:FT} {te:FE} (hg:zEL own g fg) {τ:Sv} {H:Hp} {Q:List Int->Hp->Prop} (h:trZ K (zHo own fi fg tc te) τ H Q):zJ4 own (trI K fi) g (trT K tc) (trD K (toD te)) τ H Q:=by
 obtain ⟨L,σ,M,d,Mf,c,rs,hf,q⟩:=h;unfold zHo zi at hf;cases e1:fi σ M with
 |none=>rw[e1]at hf;cases hf
 |some r=>
  obtain ⟨xs,gd,M1⟩:=r;rw[e1]at hf;dsimp only at hf;by_cases hz:xs.length<=sizeLine
  .rw[zVd hz]at hf;cases e2:zAk fg tc te (zA2 own σ) xs gd xs M1 with
   |none=>rw[e2]at hf;cases hf
   |some r=>
    obtain ⟨zs,M2⟩:=r;rw[e2]at hf;dsimp only at hf;split at hf
    .rename_i kz ez;split at hf
     .rename_i hb;cases hf;refine ⟨L,σ,M,_,_,_,c,rs,e1,λL1 H1 J s1 c1 it=>?_⟩
      refine ⟨λi m ys H'=>m=xs.length-i/\i<=xs.length /\ ∃ L' M' as bs ka,Stp L1 H1 L' H'/\Cor K L' M' H'/\zAZ as=some ka/\ys=zO ka/\zAk fg tc te (zA2 own σ) xs gd (xs.drop i) M'=some (bs,Mf)/\as++bs=zs,
       ⟨xs.length,by simp,zWA _,L1,M1,[],zs,[],.refl _ _,c1,rfl,rfl,by simpa using e2,rfl⟩,?_⟩
      rintro i m ys H' ⟨rfl,hi,L',M',as,bs,ka,s',c',r',hl,e',hab⟩;by_cases hlt:i<xs.length
      .rw[zB4 hlt]at e';unfold zAk at e';split at e'
       .rename_i hgd;obtain ⟨step,_⟩:=it L' H' M' s' c' hgd;obtain ⟨go,yl⟩:=step i xs[i] (zVS hlt);split at e'
        .rename_i σ1 eg;refine .inr ⟨go,λv H2 hy=>?_⟩;obtain ⟨gr,rv⟩:=yl v H2 hy;have s2:Stp L1 H1 L' H2:=s'.yld gr;refine hg (zDq own ((rs.stp s1).stp s2)) (.refl _) rv eg λτ2 r2 x2=>⟨x2,?_⟩;split at e'
         .rename_i M3 e3;split at e'
          .rename_i d M4 e4;split at e'
           .rename_i ds M5 e5;cases e';refine ⟨L',σ1,M',_,_,c'.grow gr,r2,e3,λL3 H3 s3 c3=>zHC ?_⟩;refine ⟨L3,σ1,M3,_,_,c3,r2.stp s3,e4,λL4 H4 w s4 c4 r4=>?_⟩;have st:Stp L' H' L4 H4:=((Stp.grow gr).trans s3).trans s4;have ez':=ez;rw[<-hab]at ez';obtain ⟨x1,y1,g1,g2,g3⟩:=zGG ez';obtain ⟨k,hk⟩:∃ k,d=.int k:=by
             cases d with
             |int k=>exact ⟨k,rfl⟩
             |_=>cases g2
            subst hk;have ew:w=.int k:=by unfold Rep at r4;exact r4
            have hka:ka.length<=kz.length:=by
             rw[r']at g1;cases g1;rw[g3,zVe];omega
            refine ⟨k,ew,?_,xs.length-(i+1),by omega,rfl,hlt,L4,M4,as++[.int k],ds,ka++[k],s'.trans st,c4,zJ7 r',by rw[hl,zDl],e5,by rw[<-hab];simp⟩;rw[hl];have:=zBU ka;omega
           .cases e'
          .cases e'
         .rename_i M3 e3;refine ⟨L',σ1,M',_,_,c'.grow gr,r2,e3,λL3 H3 s3 c3=>zGv ?_⟩;have st:Stp L' H' L3 H3:=(Stp.grow gr).trans s3;exact ⟨xs.length-(i+1),by omega,rfl,hlt,L3,M3,as,bs,ka,s'.trans st,c3,r',hl,e',hab⟩
         .cases e'
        .cases e'
       .cases e'
      .have hi':i=xs.length:=by omega
       subst hi';rw[List.drop_length]at e';unfold zAk at e';split at e'
       .rename_i hgd;cases e';obtain ⟨_,stop⟩:=it L' H' _ s' c' hgd;rw[zV8]at hab;subst hab;rw[r']at ez;cases ez;refine .inl ⟨stop,?_⟩;rw[hl];exact q L' H' (s1.trans s') c'
       .cases e'
     .cases hf
    .cases hf
  .rw[zVg hz]at hf;cases hf
section
variable {X:Cx}
theorem zSv (hg:zEL own g fg) (C:CompIn X scope own) (hcalm:X.calm=true) (hi:QI X tg iter fi) (p:QParts X scope tg ifs elt g tc te) (hs:∀ x,foldedSetIterable iter X.env x=pure x:=by intro _;rfl) :
  QZ X (.SetComp elt [⟨tg,iter,ifs,0⟩] scope pos) (zHo own fi fg tc te) :=
 .mk <| PZ.imp (zRN C hcalm hi.un p.parts hs) λ_ _ _ h=>zNC hg h
def zF9 (f:FZ):FE:=λσ M=>match f σ M with
 |some (ks,M1)=>if ks.length<64 then some (.fl ((zDJ ks).map D.int),M1) else none
 |none=>none
theorem zHt:∀ (ns:Ye),zL L H (ns.map D.int) (ns.map V.int)
 |[]=> .nil
 |n::ns=> .cons zAF (zHt ns)
theorem zQb (hc:X.calm=true) (hg:Gl X "sorted") (hm:X.mg "sorted" = none) (h:QZ X e fz) (hs:starEach [e] X.env=(false,eval e X.env)::starEach [] X.env:=by rfl) (hpl:(backTo pos (starEach [] X.env)).any (·.1)=false:=by rfl) :
  QE X (.Call (.Name "sorted" p) [e] [] pos) (zF9 fz):=.mk <| PE.imp (zOD hc hg hm h.un hs hpl) λτ H Q zz=>by
 obtain ⟨L,σ,M,d,M',c,rs,hf,q⟩:=zz;unfold zF9 at hf;split at hf
 .rename_i ks M1 e1;split at hf
  .rename_i hb;cases hf;refine ⟨L,σ,M,_,_,c,rs,e1,λL1 H1 s1 c1=>⟨hb,λp hp=>?_⟩⟩;exact q L1 _ _ (s1.trans (.upd hp)) (c1.upd hp) (zf.newLst s1 c c1 hp (zHt _))
  .cases hf
 .cases hf
end
open AutoSeq1 (wpAny_loadPart')
theorem zSF (hh:A.handled=none) (it l:Yt) (hne:l≠it) (items:Yp) :
  Draws prog w A it [it,l] items.size (λi v=>items[i]?=some v) (λi h=>h.IsTupleIter it l i/\h.IsTuple l items) where
 live:=λ_ _ st=>let ⟨o,ho,_⟩:=st.1;⟨o,ho⟩;frame:=λ_ _ _ st hk=>⟨let ⟨o,ho,r⟩:=st.1;⟨o,hk it (by simp) o ho,r⟩,let ⟨o,ho,r⟩:=st.2;⟨o,hk l (by simp) o ho,r⟩⟩;item:=λi s Q E hi st hQ=>by
  refine zGa st.1 st.2 (x:=items[i]) (by simp[hi]) λh' hit' hs'=>?_;exact hQ _ h' s.toks (by simp[hi]) ⟨hit',Tup.but st.2 hs'.extBut hne⟩ hs'
 done:=λs Q E st hE=>zE4 hh st.1 st.2 (by simp) hE
theorem zKA (l:Yt) (items:Yp) (n:Nat) (dct:Option Addr) (sl:Array (Option Value)) :
  Meets (Builtin.«enumerate.__new__» ⟨[.type "enumerate", .ref l],[]⟩) (λ_ R s=>s.heap.get? l=some { cls:=.type "tuple", dict:=dct,data:=.seq items n,slots:=sl } /\
   R (.ok (.ret (.ref (s.heap.push { cls:=.type "tuple_iterator", data:=.fields #[.ref l,.int 0 0] }).objs.size)))
    { s with heap:=(s.heap.push { cls:=.type "tuple_iterator", data:=.fields #[.ref l,.int 0 0] }).push { cls:=.type "enumerate", data:=.fields #[.none,.bool false,.ref s.heap.objs.size,rawInt 0,.none,.none] } }) :=
 .of_wp λprog w A R s h=>by
  obtain ⟨hp,g,d,tk,os⟩:=s;obtain ⟨hl,h⟩:=h;have hsub:=sub_enumerate;have hL:Heap.IsTuple (Shared.heap ⟨hp,g,d,tk,os⟩) l items:=⟨_,hl,rfl,n,rfl⟩;wp_walk using wpAny_loadPart' hl;refine wpAny_stack_any λst=>zVQ ?_;split
  .rename_i c _ _ _ _ _;cases (c==Value.type "enumerate")
   .wp_walk using wpAny_loadPart' hl,wpAny_pyIter_tuple hL;exact ⟨_,rfl,h⟩
   .wp_walk using wpAny_loadPart' hl,wpAny_pyIter_tuple hL;exact ⟨_,rfl,h⟩
  .wp_walk using wpAny_loadPart' hl,wpAny_pyIter_tuple hL;exact ⟨_,rfl,h⟩
section
theorem zLb (hL:s.heap.IsTuple l items)
  (h:∀ h',IsEnum h' (s.heap.objs.size+1) s.heap.objs.size 0 .none->h'.IsTupleIter s.heap.objs.size l 0->(∀ c o,s.heap.get? c=some o->h'.get? c=some o)->Q (.ref (s.heap.objs.size+1)) { s with heap:=h' }) :
  wpAny (model prog w) A (call (.type "enumerate") [.ref l]) Q E s:=by
 obtain ⟨o,ho,hc,n,hd⟩:=hL;obtain ⟨ocls,odict,odata,oslots⟩:=o;simp only at hc hd;subst hc;subst hd;refine callType_new PySem.F.called_enumerate (by decide) (PySem.F.typeCall_enumerate_1 _) (PySem.F.newCall_enumerate_1 _) (λobj=>PySem.F.args_object_init_2 obj _) PySem.F.entry_enumerate_new (zKA l items n odict oslots) ⟨ho,?_⟩;have q1:(s.heap.push { cls:=.type "tuple_iterator", data:=.fields #[.ref l,.int 0 0] }).objs.size=s.heap.objs.size+1:=zV4 ..;have p2:((s.heap.push { cls:=.type "tuple_iterator", data:=.fields #[.ref l,.int 0 0] }).push { cls:=.type "enumerate", data:=.fields #[.none,.bool false,.ref s.heap.objs.size,rawInt 0,.none,.none] }).get? (s.heap.push { cls:=.type "tuple_iterator", data:=.fields #[.ref l,.int 0 0] }).objs.size=some _:=zVY _ rfl;rw[q1]at p2;rw[q1];exact ⟨⟨_,p2,rfl⟩,h _ p2 ⟨_,zVP _ (zVY _ rfl),rfl,rfl⟩ λc o x=>zVP _ (zVP _ x)⟩
theorem zJx (he:IsEnum s.heap e it i old)
  (hn:∀ (Q':Value->Shared->Prop) (E':Value->Shared->Prop),(∀ h' x,Heap.ExtBut it s.heap h'->(∃ o,h'.get? x=some o/\o.cls=.type "StopIteration")->E' (.ref x) { s with heap:=h' })->wpAny (model prog w) A.in1 (Builtin.SmallTypes.nextOf (.ref it)) Q' E' s)
  (hQ:∀ h',Heap.ExtBut it s.heap h'->Q none { s with heap:=h' }):wpAny (model prog w) A (pyNext (.ref e)) Q E s:=by
 have hT:s.TypeIs (.ref e) "enumerate" := ⟨_,he,rfl⟩;unfold pyNext
 refine zVO (wpAny_attempt (zV0 (name:=Str.ofString "__next__") hT PySem.F.slot_enumerate_next
  (zV1 PySem.F.slot_enumerate_next hT PySem.F.entry_enumerate_next ?_ (PySem.F.args_enumerate_next_1 _))))
 show wpAny _ _ (field (.ref e) 2 >>= _) _ _ _;refine zVO (zV3 he rfl (x:=.ref it) rfl ?_);refine zVO (hn _ _ λh' x he' hx'=>?_);obtain ⟨o,ho,hc⟩:=hx';refine zVO (wpAny_isInstance (T := "StopIteration") (b:=true) ⟨o,ho,hc⟩ isSubtype_stop ?_);exact zVQ (hQ _ he')
end
def zJ0 (K:Yb) (isT:Bool) (a:Yt):It :=
 ⟨λi H=>∃ xs x,(if isT then SqT K H a xs else SqL K H a xs)/\xs[i]?=some x,
  λi H v H'=>∃ T x,v=.ref T/\H T=none/\H'=upd H T (.tup [.int i,x]) /\ ∀ xs,(if isT then SqT K H a xs else SqL K H a xs)->xs[i]?=some x,
  λi H=>∃ xs,(if isT then SqT K H a xs else SqL K H a xs)/\xs.length<=i⟩
def zRj (isT:Bool) (it a:Yt) (i:Nat) (h:Heap):Prop:=if isT then h.IsTupleIter it a i else h.IsListIter it a i
theorem zNa {P:Ym} {w:Yo} {K:Yb} {es:Yi} {ek:Nat} {ep:Pos} {isT:Bool} {e it a:Yt} (hei:e≠it) (hae:a≠e) (hai:a≠it) :
  Turn P w K (.Tuple es ek ep) (zJ0 K isT a) [e,it] e (λi h=>(∃ old,IsEnum h e it i old)/\zRj isT it a i h) where
 mem:=by simp
 obj:=λi h ⟨⟨old,he⟩,st⟩ c hc=>by
  simp only[zVa,zVt,zWj]at hc;rcases hc with rfl|rfl
  .exact ⟨_,he,λv m=>by cases m⟩
  .cases isT with
   |true=>obtain ⟨o1,e1,_,d1⟩:=(show h.IsTupleIter c a i from st);exact ⟨_,e1,λv m=>by rw[d1]at m;cases m⟩
   |false=>obtain ⟨o1,e1,_,d1⟩:=(show h.IsListIter c a i from st);exact ⟨_,e1,λv m=>by rw[d1]at m;cases m⟩
 keep:=λi h h' ⟨⟨old,he⟩,st⟩ k=>by
  refine ⟨⟨old,k e (by simp) _ he⟩,?_⟩;cases isT with
  |true=>obtain ⟨o1,e1,r⟩:=(show h.IsTupleIter it a i from st);exact ⟨o1,k it (by simp) _ e1,r⟩
  |false=>obtain ⟨o1,e1,r⟩:=(show h.IsListIter it a i from st);exact ⟨o1,k it (by simp) _ e1,r⟩
 item:=by
  intro X hP hw hK hc i zB s σ H E I hf Z hg;subst hP hw hK;obtain ⟨⟨old,he⟩,st⟩:=Z;obtain ⟨xs,x,sa,hx⟩:=hg;have hch:∀ c∈[e,it],zBr X zB H c:=hf;have elt:e<s.heap.objs.size:=zVZ he
  have fin:∀ (its:List Value) (u:Value) (h':Heap) (tk:Nat),zZ xs its->its[i]?=some u->IsEnumOut h' e it ((i:Int)+1) u s.heap.objs.size->zRj isT it a (i+1) h'->h'.get? s.heap.objs.size=some { cls:=.type "tuple", data:=.seq #[.int i tk,u] } ->
    (∀ b o,b≠e->b≠it->s.heap.get? b=some o->h'.get? b=some o)->it<s.heap.objs.size ->
    ∃ u',some (Value.ref s.heap.objs.size)=some u'/\wpAny (model X.prog X.w) X.A (letOwnedTupleGo (.Tuple es ek ep) (.ref e) u') (λ_ s2=>∃ x H',Inv X zB σ H' s2/\zn x u'/\(zJ0 X.K isT a).yld i H x H'/\((∃ old,IsEnum s2.heap e it ((i+1:Nat):Int) old)/\zRj isT it a (i+1) s2.heap) /\ ∀ b∈[e,it],H' b=none) E { s with heap:=h',toks:=tk+1 }:=by
   intro its u h' tk rv hu ho st' hT hk ilt;refine ⟨_,rfl,wpAny_letOwnedTupleGo_enum ho λh2 he2 e2=>?_⟩;have kk:∀ c o,c∉[e,it]->s.heap.get? c=some o->h2.get? c=some o:=λc o n q=>by
    simp only[zVa,zVt,zWj,not_or]at n;exact e2.extBut _ _ n.1 (hk c o n.1 n.2 q)
   have NT:=e2.extBut _ _ (zWt elt) hT;have hfr:H s.heap.objs.size=none:=I.hok.fresh (zVU _);obtain ⟨u2,hu2,ru⟩:=rv.get hx;rw[hu]at hu2;cases hu2;refine ⟨.ref s.heap.objs.size,upd H s.heap.objs.size (.tup [.int i,x]),zFI (s:=s) (h':=h2) (t':=tk+1) I hch kk (zVU _) ?_,rfl,⟨_,x,rfl,hfr,rfl,λws hw=>?_⟩,⟨⟨u,by simpa using he2⟩,?_⟩,λc hm=>?_⟩
   .exact ⟨by show 2<=sizeLine;decide,[.int i tk,u],.cons ⟨tk,rfl⟩ (.cons ru .nil),⟨_,NT,rfl,⟨_,rfl⟩,rfl⟩⟩
   .cases isT with
    |true=>rw[I.tuple_inj hw sa];exact hx
    |false=>rw[I.list_inj hw sa];exact hx
   .cases isT with
    |true=>obtain ⟨o1,e1,r⟩:=(show h'.IsTupleIter it a (i+1)from st');exact ⟨o1,e2.extBut _ _ hei.symm e1,r⟩
    |false=>obtain ⟨o1,e1,r⟩:=(show h'.IsListIter it a (i+1)from st');exact ⟨o1,e2.extBut _ _ hei.symm e1,r⟩
   .have lt:c<s.heap.objs.size:=by
     simp only[zVa,zVt,zWj]at hm;rcases hm with rfl|rfl
     .exact elt
     .exact ilt
    rw[zT (zVj lt)];exact (hf c hm).1
  have hef:e∉[it,a]:=by simp only[zVa,zVt,zWj,not_or];exact ⟨hei,hae.symm⟩
  cases isT with
  |true=>
   obtain ⟨its,rv,p1,z1⟩:=I.tuple sa;have st':s.heap.IsTupleIter it a i:=st;obtain ⟨o1,e1,_⟩:=id st';refine wpAny_pyNext_enum_itemD (zSF (prog:=X.prog) (w:=X.w) (A:=X.A.in1) (I.ok.hd hc) it a hai its.toArray) he ⟨st',show s.heap.IsTuple a its.toArray from p1⟩ (by have:=rv.length;have:=(zVR.mp hx).1;rw[zVW];omega) hei hef λu h' tk hu ho hs hT _ hk=>?_;exact fin its u h' tk rv (by simpa using hu) ho hs.1 hT hk (zVZ e1)
  |false=>
   obtain ⟨its,rv,p1,z1⟩:=I.list sa;have st':s.heap.IsListIter it a i:=st;obtain ⟨o1,e1,_⟩:=id st';refine wpAny_pyNext_enum_itemD (Draws.list (prog:=X.prog) (w:=X.w) (A:=X.A.in1) (I.ok.hd hc) it a hai its.toArray) he ⟨st',p1.isList⟩ (by have:=rv.length;have:=(zVR.mp hx).1;rw[zVW];omega) hei hef λu h' tk hu ho hs hT _ hk=>?_;exact fin its u h' tk rv (by simpa using hu) ho hs.1 hT hk (zVZ e1)
 done:=by
  intro X hP hw hK hc i zB s σ H E I hf Z hg;subst hP hw hK;obtain ⟨⟨old,he⟩,st⟩:=Z;obtain ⟨xs,sa,hz⟩:=hg;have out:∀ h',Heap.ExtBut it s.heap h'->(none:Option Value)=none/\Inv X zB σ H { s with heap:=h' }:=λh' x=>⟨rfl,zDy (s:=s) (h':=h') (t':=s.toks) I hf λc o n q=>x c o (λm=>n (by simp[m])) q⟩;cases isT with
  |true=>
   obtain ⟨its,rv,p1,z1⟩:=I.tuple sa;refine zJx he (λQ' E' hq=>zE4 (I.ok.hd hc) (show s.heap.IsTupleIter it a i from st) (show s.heap.IsTuple a its.toArray from p1) (by have:=rv.length;simp;omega) hq) out
  |false=>
   obtain ⟨its,rv,p1,z1⟩:=I.list sa;refine zJx he (λQ' E' hq=>wpAny_nextOf_list_end (I.ok.hd hc) (show s.heap.IsListIter it a i from st) p1.isList (by have:=rv.length;simp;omega) hq) out
 self:=λ_ _ _ _ _ Z h=>let ⟨⟨_,he⟩,_⟩:=Z;wpAny_pyIter_enum he h
section
theorem zP9 {te:TE} (hg:Gl X "enumerate") (hm:X.mg "enumerate" = none) (ha:PE X a te) (hs:starEach [a] X.env=(false,eval a X.env)::starEach [] X.env:=by rfl) (hpl:(backTo pos (starEach [] X.env)).any (·.1)=false:=by rfl) :
  PI X (.Tuple es ek ep) (.Call (.Name "enumerate" p) [a] [] pos) (λσ H R=>te σ H λx H1=>∃ l,x=.ref l/\((∃ xs,SqT X.K H1 l xs)/\R (zJ0 X.K true l) H1\/(∃ xs,SqL X.K H1 l xs)/\R (zJ0 X.K false l) H1)):=by
 intro zB s σ H R I h;refine wpAny_Call_Name_kw (zD7 I hg hm (by rfl) ?_ (by decide) (by decide));refine callWith_type1 ?_ hs hpl;rw[hs];refine Calls.spliced_cons (thn (ha zB s σ H _ I h) λu s1 ⟨x,H1,I1,r1,l,hx,q⟩=>Calls.spliced_nil ?_);subst hx;cases r1
 have out:∀ (isT:Bool) (h':Heap),l<s1.heap.objs.size->IsEnum h' (s1.heap.objs.size+1) s1.heap.objs.size 0 .none->zRj isT s1.heap.objs.size l 0 h'->(∀ c o,s1.heap.get? c=some o->h'.get? c=some o)->R (zJ0 X.K isT l) H1 ->
   wpAny (model X.prog X.w) X.A (pyIter (.ref (s1.heap.objs.size+1))) (PIE X zB σ (.Tuple es ek ep) R) X.xe { s1 with heap:=h' }:=by
  intro isT h' hl he st kp q;refine wpAny_pyIter_enum (s:={ s1 with heap:=h' }) he ?_;refine ⟨s1.heap.objs.size+1,[s1.heap.objs.size+1,s1.heap.objs.size],_,_,H1,rfl,I1.kept (t':=s1.toks) kp,zNa (isT:=isT) (zWt (zWL _)) (zVj (zWD hl)) (zVj hl),⟨⟨_,he⟩,st⟩,λc hc=>?_,q⟩;have ge:s1.heap.objs.size<=c:=by
   simp only[zVa,zVt,zWj]at hc;rcases hc with rfl|rfl
   .exact zW6 _
   .exact zVU _
  exact I1.fpOk ge (I1.hok.fresh ge)
 rcases q with ⟨⟨xs,hq⟩,q⟩|⟨⟨xs,hq⟩,q⟩
 .obtain ⟨its,rv,p1,_⟩:=I1.tuple hq;have hl:l<s1.heap.objs.size:=by obtain ⟨_,e,_⟩:=p1;exact zVZ e
  exact zLb (show s1.heap.IsTuple l its.toArray from p1) λh' he st kp=>out true h' hl he st kp q
 .obtain ⟨its,rv,p1,_⟩:=I1.list hq;have hl:l<s1.heap.objs.size:=by obtain ⟨_,_,e,_⟩:=p1;exact zVZ e
  exact call_enumerate_list p1.isList λh' he st _ kp=>out false h' hl he st kp q
def zJc (xs:List D):List D:=((List.range xs.length).zip xs).map λq=>D.tup [.int (q.1:Nat),q.2]
theorem zN5 {xs:List D} {i:Nat} {d:D} (h:(zJc xs)[i]?=some d):∃ x,xs[i]?=some x/\d=.tup [.int (i:Nat),x]:=by
 unfold zJc at h;rw[zVl]at h;cases e:((List.range xs.length).zip xs)[i]? with
 |none=>rw[e]at h;cases h
 |some pr=>
  rw[e]at h;cases h;obtain ⟨f1,f2⟩:=List.getElem?_zip_eq_some.mp e;have hi:i<xs.length:=(zVR.mp f2).1;rw[List.getElem?_range hi]at f1;cases f1;exact ⟨pr.2,f2,rfl⟩
theorem zN9 (xs:List D):(zJc xs).length=xs.length:=by unfold zJc;simp
def zKB (f:FE):FI:=λσ M=>match f σ M with
 |some (x,M1)=>match zAQ M1 x with
  |some xs=>some (zJc xs,zDn x xs,M1)
  |none=>none
 |none=>none
theorem zRa {g:FE} (hg:Gl X "enumerate") (hm:X.mg "enumerate" = none) (h:QE X a g) (hs:starEach [a] X.env=(false,eval a X.env)::starEach [] X.env:=by rfl) (hpl:(backTo pos (starEach [] X.env)).any (·.1)=false:=by rfl) :
  QI X (.Tuple es ek ep) (.Call (.Name "enumerate" p) [a] [] pos) (zKB g):=.mk <| PI.imp (zP9 hg hm h.un hs hpl) λτ H R zz=>by
 obtain ⟨L,σ,M,xs,gd,M',c,rs,hf,q⟩:=zz;unfold zKB at hf;split at hf
 .rename_i y M1 e1;split at hf
  .rename_i zs e2;cases hf;refine ⟨L,σ,M,_,_,c,rs,e1,λL1 H1 v s1 c1 r1=>?_⟩
   have step:∀ (isT:Bool) (l:Yt) (L2:Yg) (H2:Hp) (vs:List V),(if isT then SqT X.K H2 l vs else SqL X.K H2 l vs)->zL L2 H2 zs vs ->
     (∀ (i:Nat) d,(zJc zs)[i]?=some d->(zJ0 X.K isT l).go i H2 /\ ∀ v H'',(zJ0 X.K isT l).yld i H2 v H''->(∀ a o,H2 a=some o->H'' a=some o)/\Rep L2 H'' d v)/\(zJ0 X.K isT l).stop (zJc zs).length H2:=by
    intro isT l L2 H2 vs hq r;refine ⟨λi d hd=>?_,⟨vs,hq,by rw[zN9,r.length];exact zVU _⟩⟩;obtain ⟨x,hx,rfl⟩:=zN5 hd;obtain ⟨u,hu,ru⟩:=r.get hx;refine ⟨⟨vs,u,hq,hu⟩,λv H3 hy=>?_⟩;obtain ⟨T,x',rfl,hT,rfl,hxx⟩:=hy;have ex:=hxx vs hq;rw[hu]at ex;cases ex;exact ⟨λa o e=>by rw[zT (zk e hT)];exact e,Rep.newTup hT (.cons zAF (.cons ru .nil))⟩
   unfold zAQ at e2;cases t:zDK y with
   |some ws=>
    rw[t]at e2;cases e2;obtain ⟨a,vs,rfl,e3,r3⟩:=zB1 r1 t;refine ⟨a,rfl,.inl ⟨⟨vs,.of e3⟩,q L1 H1 _ s1 c1 λL2 H2 M2 s2 c2 _=>?_⟩⟩;exact step true a L2 H2 vs (.of (s2.tup a vs e3)) (r3.stp s2)
   |none=>
    rw[t]at e2;obtain ⟨a,vs,rfl,e3,r3⟩:=zAw c1 r1 e2;refine ⟨a,rfl,.inr ⟨⟨vs,.inl e3⟩,q L1 H1 _ s1 c1 λL2 H2 M2 s2 c2 hgd=>?_⟩⟩;have key:∃ vs',SqL X.K H2 a vs'/\zL L2 H2 zs vs':=by
     cases y with
     |fl ys=>
      cases e2;obtain ⟨p',vs',hp',_,e5,e6,r6⟩:=r1;cases hp';exact ⟨vs',.of (s2.old _ _ e5 e6),r6.stp s2⟩
     |dat d=>
      cases d with
      |ref n=>
       unfold zf Rep at r1;obtain ⟨a',ha',e5⟩:=r1;cases ha';have e6:L2[n]?=some a:=by obtain ⟨N,hN⟩:=s2.pre;rw[hN];exact zBg e5
       rcases hgd with z|z
       .obtain ⟨vs',e7,r7⟩:=c2.obj n a _ e6 z;exact ⟨vs',.of e7,r7⟩
       .obtain ⟨o,vs',e7,r7⟩:=c2.obj n a _ e6 z;exact ⟨vs',.inl (.inr ⟨o,e7⟩),r7⟩
      |_=>cases e2
    obtain ⟨vs',hq,r7⟩:=key;exact step false a L2 H2 vs' hq r7
  .cases hf
 .cases hf
end
section
variable [DecidableEq κ]
def zBo (kf:D->Option κ) (kvs:List (D × D)) (k:κ):Option D:=(kvs.find? λp=>decide (kf p.1=some k)).map (·.2)
def zGz (kf:D->Option κ) (kvs:List (D × D)) (k:κ) (kd v:D):List (D × D) :=
 if (kvs.any λp=>decide (kf p.1=some k))=true then kvs.map λp=>if kf p.1=some k then (p.1,v) else p else kvs++[(kd,v)]
theorem zDb (k:κ):∀ {kvs:List (D × D)} {vs:List (κ × V)},zAn kf L H kvs vs->(zBo kf kvs k=none/\zDP vs k=none) \/ ∃ d v,zBo kf kvs k=some d/\zDP vs k=some v/\Rep L H d v
 |[],vs,h=>by unfold zAn at h;subst h;exact .inl ⟨rfl,rfl⟩
 |p::r,vs,h=>by
  obtain ⟨k',v,r',rfl,e,h1,h2⟩:=h;by_cases q:k'=k
  .subst q;exact .inr ⟨p.2,v,by unfold zBo;rw[zXA,e];simp,by rw[zEQ rfl],h1⟩
  .have e1:zBo kf (p::r) k=zBo kf r k:=by unfold zBo;rw[zXA,e];simp[q]
   rw[e1,zEe q];exact zDb k h2
theorem zJz (k:κ):∀ {kvs:List (D × D)} {vs:List (κ × V)},zAn kf L H kvs vs->(kvs.any λp=>decide (kf p.1=some k))=(vs.any λkv=>decide (kv.1=k))
 |[],vs,h=>by unfold zAn at h;subst h;rfl
 |p::r,vs,h=>by
  obtain ⟨k',v,r',rfl,e,h1,h2⟩:=h;rw[List.any_cons,List.any_cons,zJz k h2,e];simp
theorem zGR (k:κ) (hd:Rep L H d u):∀ {kvs:List (D × D)} {vs:List (κ × V)},zAn kf L H kvs vs->zAn kf L H (kvs.map λp=>if kf p.1=some k then (p.1,d) else p) (vs.map λkv=>if kv.1=k then (kv.1,u) else kv)
 |[],vs,h=>by unfold zAn at h;subst h;rfl
 |p::r,vs,h=>by
  obtain ⟨k',v,r',rfl,e,h1,h2⟩:=h;rw[zVh,zVh];by_cases q:k'=k
  .subst q;rw[zVd e,zVd rfl];exact ⟨k',u,_,rfl,e,hd,zGR k' hd h2⟩
  .rw[zVg (by rw[e];simpa using q),zVg q];exact ⟨k',v,_,rfl,e,h1,zGR k hd h2⟩
theorem zHy (hk:kf kd=some k) (hd:Rep L H d u):∀ {kvs:List (D × D)} {vs:List (κ × V)},zAn kf L H kvs vs->zAn kf L H (kvs++[(kd,d)]) (vs++[(k,u)])
 |[],vs,h=>by unfold zAn at h;subst h;exact ⟨k,u,[],rfl,hk,hd,rfl⟩
 |p::r,vs,h=>by
  obtain ⟨k',v,r',rfl,e,h1,h2⟩:=h;exact ⟨k',v,_,rfl,e,h1,zHy hk hd h2⟩
theorem zL0 {kf:D->Option κ} {L:Yg} {H:Hp} {k:κ} {kd d:D} {u:V} (hk:kf kd=some k) (hd:Rep L H d u) {kvs:List (D × D)} {vs:List (κ × V)} (h:zAn kf L H kvs vs):zAn kf L H (zGz kf kvs k kd d) (zDO vs k u):=by
 unfold zGz zDO;rw[zJz k h];split
 .exact zGR k hd h
 .exact zHy hk hd h
end
theorem zJY:∀ {ds:List D} {vs:List V} {ks:List Key},zL L H ds vs->zD1 ds=some ks->vs=ks.map kV
 |[],vs,ks,h,e=>by cases e;unfold zL at h;exact h
 |d::ds,vs,ks,h,e=>by
  unfold zL at h;obtain ⟨v,r,rfl,h1,h2⟩:=h;unfold zD1 at e;cases e1:zBw d with
  |none=>rw[e1]at e;cases e
  |some k=>
   cases e2:zD1 ds with
   |none=>rw[e1,e2]at e;cases e
   |some ks'=>
    rw[e1,e2]at e;cases e;rw[zFb h1 e1,zJY h2 e2];rfl
theorem zKk (h:Rep L H d v) (e:tkD d=some ks):∃ b,v=.ref b/\H b=some (.tup (ks.map kV)):=by
 cases d with
 |tup ds=>
  unfold Rep at h;obtain ⟨a,vs,rfl,e1,r⟩:=h;exact ⟨a,rfl,by rw[e1,zJY r e]⟩
 |_=>cases e
def zDd (M:Mem) (x:EV) (k:D):Option (Option D):=match x with
 |.dat (.ref n)=>match M[n]? with
  |some (.dict kvs)=>match zBw k with
   |some kk=>some (zBo zBw kvs kk)
   |none=>none
  |some (.dicT kvs)=>match tkD k with
   |some kk=>some (zBo tkD kvs kk)
   |none=>none
  |some (.froK kvs)=>match zBw k with
   |some kk=>some (zBo zBw kvs kk)
   |none=>none
  |some (.froT kvs)=>match tkD k with
   |some kk=>some (zBo tkD kvs kk)
   |none=>none
  |_=>none
 |_=>none
def zTt (L:Yg) (H:Hp):Option D->Option V->Prop
 |none,o=>o=none
 |some d,o=>∃ v,o=some v/\Rep L H d v
theorem zEd {K:Yb} {L:Yg} {M:Mem} {H H0:Hp} {x:EV} {v w:V} {k:D} {o:Option D} (c:Cor K L M H) (rx:zf H0 L H x v) (rk:Rep L H k w) (e:zDd M x k=some o):∃ a ov,v=.ref a/\zCu H a w ov/\zTt L H o ov:=by
 cases x with
 |fl xs=>cases e
 |dat d=>
  cases d with
  |ref n=>
   unfold zf Rep at rx;obtain ⟨a,rfl,ea⟩:=rx;unfold zDd at e;dsimp only at e;cases q:M[n]? with
   |none=>rw[q]at e;cases e
   |some m=>
    rw[q]at e;have z:=c.obj n a m ea q;cases m with
    |dict kvs=>
     cases e2:zBw k with
     |none=>rw[e2]at e;cases e
     |some kk=>
      rw[e2]at e;cases e;obtain ⟨vs,e3,r⟩:=z;refine ⟨a,zDP vs kk,rfl,?_,?_⟩
      .rw[zFb rk e2];exact zCu.k e3
      .rcases zDb kk r with ⟨h1,h2⟩|⟨d,v,h1,h2,h3⟩
       .rw[h1,h2];rfl
       .rw[h1,h2];exact ⟨v,rfl,h3⟩
    |dicT kvs=>
     cases e2:tkD k with
     |none=>rw[e2]at e;cases e
     |some kk=>
      rw[e2]at e;cases e;obtain ⟨vs,e3,r⟩:=z;obtain ⟨b,rfl,eb⟩:=zKk rk e2;refine ⟨a,zDP vs kk,rfl,zCu.t e3 eb,?_⟩;rcases zDb kk r with ⟨h1,h2⟩|⟨d,v,h1,h2,h3⟩
      .rw[h1,h2];rfl
      .rw[h1,h2];exact ⟨v,rfl,h3⟩
    |froK kvs=>
     cases e2:zBw k with
     |none=>rw[e2]at e;cases e
     |some kk=>
      rw[e2]at e;cases e;obtain ⟨ob,vs,e3,r⟩:=z;refine ⟨a,zDP vs kk,rfl,.inl ⟨vs,kk,.inr ⟨ob,e3⟩,zFb rk e2,rfl⟩,?_⟩;rcases zDb kk r with ⟨h1,h2⟩|⟨d,v,h1,h2,h3⟩
      .rw[h1,h2];rfl
      .rw[h1,h2];exact ⟨v,rfl,h3⟩
    |froT kvs=>
     cases e2:tkD k with
     |none=>rw[e2]at e;cases e
     |some kk=>
      rw[e2]at e;cases e;obtain ⟨ob,vs,e3,r⟩:=z;obtain ⟨b,rfl,eb⟩:=zKk rk e2;refine ⟨a,zDP vs kk,rfl,.inr ⟨vs,kk,b,.inr ⟨ob,e3⟩,rfl,eb,rfl⟩,?_⟩;rcases zDb kk r with ⟨h1,h2⟩|⟨d,v,h1,h2,h3⟩
      .rw[h1,h2];rfl
      .rw[h1,h2];exact ⟨v,rfl,h3⟩
    |_=>cases e
  |_=>cases e
def zD0 (M:Mem) (n:Nat) (k v:D):Option Mem:=match M[n]? with
 |some (.dict kvs)=>match zBw k with
  |some kk=>if kvs.length<sizeLine then some (M.set n (.dict (zGz zBw kvs kk k v))) else none
  |none=>none
 |some (.dicT kvs)=>match tkD k with
  |some kk=>if kvs.length<sizeLine then some (M.set n (.dicT (zGz tkD kvs kk k v))) else none
  |none=>none
 |_=>none
theorem zFt {K:Yb} {L:Yg} {M M':Mem} {H:Hp} {n:Nat} {a:Yt} {k v:D} {w u:V} (c:Cor K L M H) (ea:L[n]?=some a) (rk:Rep L H k w) (rv:Rep L H v u) (e:zD0 M n k v=some M'):∃ H',zEB H a w u H'/\Cor K L M' H'/\Stp L H L H':=by
 unfold zD0 at e;cases q:M[n]? with
 |none=>rw[q]at e;cases e
 |some m=>
  rw[q]at e;have z:=c.obj n a m ea q;cases m with
  |dict kvs=>
   cases e2:zBw k with
   |none=>rw[e2]at e;cases e
   |some kk=>
    rw[e2]at e;dsimp only at e;split at e
    .rename_i hl;cases e;obtain ⟨vs,e3,r⟩:=z;obtain ⟨c3,s3⟩:=c.put (m:=.dict (zGz zBw kvs kk k v)) (o':=.dK (zDO vs kk u)) ea e3 (λ_ z=>by cases z) (λ_ _ z=>by cases z) λs3=>⟨_,zj,(zL0 e2 rv r).stp s3⟩;refine ⟨_,?_,c3,s3⟩;rw[zFb rk e2];exact zEB.k e3 (by rw[r.length];exact hl)
    .cases e
  |dicT kvs=>
   cases e2:tkD k with
   |none=>rw[e2]at e;cases e
   |some kk=>
    rw[e2]at e;dsimp only at e;split at e
    .rename_i hl;cases e;obtain ⟨vs,e3,r⟩:=z;obtain ⟨b,rfl,eb⟩:=zKk rk e2;obtain ⟨c3,s3⟩:=c.put (m:=.dicT (zGz tkD kvs kk k v)) (o':=.dT (zDO vs kk u)) ea e3 (λ_ z=>by cases z) (λ_ _ z=>by cases z) λs3=>⟨_,zj,(zL0 e2 rv r).stp s3⟩;exact ⟨_,zEB.t e3 eb (by rw[r.length];exact hl),c3,s3⟩
    .cases e
  |_=>cases e
section
def zAc:K2:=λx y M=>match y with
 |.dat k=>match zDd M x k with
  |some (some d)=>some (.dat d,M)
  |_=>none
 |_=>none
theorem zOi {K:Yb}:zDQ K (λx y H Q=>∃ a v,x=.ref a/\zCu H a y (some v)/\Q v H) zAc:=by
 intro L M M' H H0 x y d v w Q c rx ry hk q;unfold zAc at hk;split at hk
 .rename_i k;split at hk
  .rename_i d' e1;cases hk;obtain ⟨a,ov,rfl,h1,h2⟩:=zEd c rx ry e1;obtain ⟨u,rfl,r⟩:=h2;exact ⟨a,u,rfl,h1,q L H u (.refl L H) c r⟩
  .cases hk
 .cases hk
theorem zSD (hu:X.A.units+1<cLine) (h1:QE X o f) (h2:QE X i g) (hs:zSY i:=by intro _ _;rfl):QE X (.Subscript o i pos) (fOp zAc f g):=.mk <| PE.imp (zRD hu h1.un h2.un hs) λ_ _ _ h=>zDF zOi h
def zBF (neg:Bool):K2:=λx y M=>match x with
  |.dat k=>match zDd M y k with
    |some o=>some (.dat (.bl (if neg then !o.isSome else o.isSome)),M)
    |none=>none
  |_=>none
theorem zJR {o:Option D} {ov:Option V} (h:zTt L H o ov):ov.isSome=o.isSome:=by
  cases o with
  | none => have h' : ov = none := h
            rw[h'];rfl
  |some d=>obtain ⟨v,rfl,_⟩:=h;rfl
theorem zQZ {K:Yb}:zDQ K (λy x H Q=>∃ a o,x=.ref a/\zCu H a y o/\Q (.bl o.isSome) H) (zBF false):=by
 intro L M M' H H0 x y d v w Q c rx ry hk q;unfold zBF at hk;split at hk
 .rename_i k;split at hk
  .rename_i o e1;cases hk;obtain ⟨a,ov,rfl,h1,h2⟩:=zEd c ry rx e1;refine ⟨a,ov,rfl,h1,?_⟩;rw[zJR h2];exact q L H _ (.refl L H) c (zC3 (L:=L) (H:=H))
  .cases hk
 .cases hk
theorem zLc {K:Yb}:zDQ K (λy x H Q=>∃ a o,x=.ref a/\zCu H a y o/\Q (.bl (!o.isSome)) H) (zBF true):=by
 intro L M M' H H0 x y d v w Q c rx ry hk q;unfold zBF at hk;split at hk
 .rename_i k;split at hk
  .rename_i o e1;cases hk;obtain ⟨a,ov,rfl,h1,h2⟩:=zEd c ry rx e1;refine ⟨a,ov,rfl,h1,?_⟩;rw[zJR h2];exact q L H _ (.refl L H) c (zC3 (L:=L) (H:=H))
  .cases hk
 .cases hk
theorem zSp (hu:X.A.units+1<cLine) (h1:QE X a f) (h2:QE X b g) (hm:behindInMarks .In b=false:=by rfl):QT X (.Compare a [.In] [b] pos) (tst (fOp (zBF false) f g)):=.mk <| PT.imp (zOj (zTT hu h1.un h2.un) hm) λ_ _ _ h=>zEH (λ_ _ _ z=>zDF zQZ z) (zEp h)
theorem zMN (hu:X.A.units+1<cLine) (h1:QE X a f) (h2:QE X b g) (hm:behindInMarks .NotIn b=false:=by rfl):QT X (.Compare a [.NotIn] [b] pos) (tst (fOp (zBF true) f g)):=.mk <| PT.imp (zOj (zM3 hu h1.un h2.un) hm) λ_ _ _ h=>zEH (λ_ _ _ z=>zDF zLc z) (zEp h)
def zBt (fv fo fi:FE):FS:=λσ M=>match toD fv σ M with
 |some (v,M1)=>match toD fo σ M1 with
  |some (.ref n,M2)=>match toD fi σ M2 with
   |some (k,M3)=>match zD0 M3 n k v with
    |some M4=>some (.nx,σ,M4)
    |none=>none
   |none=>none
  |_=>none
 |none=>none
theorem zTC (hu:X.A.units+1<cLine) (hv:QE X value f) (ho:QE X o g) (hi:QE X i h) (hs:swapsWith value (some (.Subscript o i pos')) pos.line X.env=pure false:=by rfl):QS X (.Assign [.Subscript o i pos'] value pos) (zBt f g h) :=
 .mk <| PS.imp (zQf hu (zBx ho).un (zBx hi).un (zBx hv).un hs) λE τ H zz=>by
  obtain ⟨L,σ,M,out,σ',M',c,rs,hf,q⟩:=zz;unfold zBt at hf;split at hf
  .rename_i v M1 e1;split at hf
   .rename_i n M2 e2;split at hf
    .rename_i k M3 e3;split at hf
     .rename_i M4 e4;cases hf;refine ⟨L,σ,M,_,_,c,rs,e1,λL1 H1 u s1 c1 r1=>⟨L1,σ,M1,_,_,c1,rs.stp s1,e2,λL2 H2 y s2 c2 r2=>⟨L2,σ,M2,_,_,c2,(rs.stp s1).stp s2,e3,λL3 H3 z s3 c3 r3=>?_⟩⟩⟩;unfold Rep at r2;obtain ⟨a,rfl,ea⟩:=r2;have ea3:L3[n]?=some a:=by obtain ⟨N,hN⟩:=s3.pre;rw[hN];exact zBg ea
      obtain ⟨H4,h1,h2,h3⟩:=zFt c3 ea3 r3 ((r1.stp s2).stp s3) e4;exact ⟨a,H4,rfl,h1,q L3 H4 (((s1.trans s2).trans s3).trans h3) h2 τ ((((rs.stp s1).stp s2).stp s3).stp h3)⟩
     .cases hf
    .cases hf
   .cases hf
  .cases hf
def zAu (fo fi fx:FE):FE:=λσ M=>match toD fo σ M with
 |some (.ref n,M1)=>match M1[n]? with
  |some (.dict _)|some (.dicT _)=>match toD fi σ M1 with
   |some (k,M2)=>match toD fx σ M2 with
    |some (x,M3)=>match zDd M3 (.dat (.ref n)) k with
     |some o=>some (.dat (o.getD x),M3)
     |none=>none
    |none=>none
   |none=>none
  |_=>none
 |_=>none
theorem zRR (hu:X.A.units+1<cLine) (ho:QE X o f) (hi:QE X i g) (hx:QE X e h) (m:M2 X o "get" apos i e cpos):QE X (.Call (.Attribute o "get" apos) [i,e] [] cpos) (zAu f g h) :=
 .mk <| PE.imp (zN4 hu (zBx ho).un (zBx hi).un (zBx hx).un m) λτ H Q zz=>by
  obtain ⟨L,σ,M,d,M',c,rs,hf,q⟩:=zz
  have key:∀ n M1,toD f σ M=some (.ref n,M1)->(∃ kvs,M1[n]?=some (.dict kvs)\/M1[n]?=some (.dicT kvs))->(match toD g σ M1 with
   |some (k,M2)=>match toD h σ M2 with
    |some (x,M3)=>match zDd M3 (.dat (.ref n)) k with
     |some o=>some (EV.dat (o.getD x),M3)
     |none=>none
    |none=>none
   |none=>none)=some (d,M')->zPX (trD X.K (toD f)) (trD X.K (toD g)) (trD X.K (toD h)) τ H Q:=by
   intro n M1 e1 hd hf;split at hf
   .rename_i k M2 e2;split at hf
    .rename_i x M3 e3;split at hf
     .rename_i ov e4;cases hf;refine ⟨L,σ,M,_,_,c,rs,e1,λL1 H1 u s1 c1 r1=>?_⟩;unfold Rep at r1;obtain ⟨a,rfl,ea⟩:=r1;refine ⟨a,rfl,?_,L1,σ,M1,_,_,c1,rs.stp s1,e2,λL2 H2 y s2 c2 r2=>⟨L2,σ,M2,_,_,c2,(rs.stp s1).stp s2,e3,λL3 H3 z s3 c3 r3=>?_⟩⟩
      .obtain ⟨kvs,hk|hk⟩:=hd
       .obtain ⟨vs,e5,_⟩:=c1.obj n a _ ea hk;exact .inl ⟨vs,.inl e5⟩
       .obtain ⟨vs,e5,_⟩:=c1.obj n a _ ea hk;exact .inr ⟨vs,.inl e5⟩
      .have ra:zf H L3 H3 (.dat (.ref n)) (.ref a):=by
        unfold zf Rep;exact ⟨a,rfl,by obtain ⟨N,hN⟩:=(s2.trans s3).pre;rw[hN];exact zBg ea⟩
       obtain ⟨a',o',e6,h1,h2⟩:=zEd c3 ra (r2.stp s3) e4;cases e6;refine ⟨o',h1,?_⟩;cases ov with
       |none=>
        have h':o'=none:=h2;subst h';exact q L3 H3 _ ((s1.trans s2).trans s3) c3 r3
       |some dd=>
        obtain ⟨v,rfl,rv⟩:=h2;exact q L3 H3 _ ((s1.trans s2).trans s3) c3 rv
     .cases hf
    .cases hf
   .cases hf
  unfold zAu at hf;split at hf
  .rename_i n M1 e1;split at hf
   .rename_i kvs e5;exact key n M1 e1 ⟨kvs,.inl e5⟩ hf
   .rename_i kvs e5;exact key n M1 e1 ⟨kvs,.inr e5⟩ hf
   .cases hf
  .cases hf
end
end L3
namespace L2
open PySem PySem.Spec PyProof.Rows
section
theorem zCp {kx vx target iter ifs rest scope pos it acc env}
  (h0:codeAny (model prog w) A (.compLoop (.DictComp kx vx (⟨target,iter,ifs,0⟩::rest) scope pos) 0 it acc env) R s)
  (h:wpAny (model prog w) A (pyIter it) (λit' s'=>codeAny (model prog w) A (.compLoop (.DictComp kx vx (⟨target,iter,ifs,0⟩::rest) scope pos) 0 it' acc env) R s')
   (notedBy (model prog w) A env λx s'=>R (.error x) s') s) :
  codeAny (model prog w) A (.compStart (.DictComp kx vx (⟨target,iter,ifs,0⟩::rest) scope pos) 0 it acc env) R s:=by
 refine codeAny_of_tree ?_;show wpAny _ _ ((compStart (.DictComp kx vx (⟨target,iter,ifs,0⟩::rest) scope pos) 0 it acc env).onRaise (λx=>do noteFrame x env;standAt theWindowsPlace)) _ _ s;refine wpAny_notedAt ?_;unfold compStart;refine zVO (wpAny_askSetting (wpAny_ite ?_));split
 .first
   |exact zVO (zVQ (zVQ (And.intro rfl h0)))
   |exact zVQ (And.intro rfl h0)
 .first
   |exact zVO (zWl (zVO (zWM (zVO (zVu h (λit' s' h'=>zVQ (And.intro rfl h')) λ_ _ x=>x)))))
   | (refine zVO (zWl ?_);show wpAny _ _ (standAt iter.pos >>= _) _ _ s;exact zVO (zWM (zVO (zVu h (λit' s' h'=>zVQ (And.intro rfl h')) λ_ _ x=>x))))
end
section
theorem Inv.trackAt (I:Inv X zB σ H s) (ho:s.heap.get? D=some o) (hn:H D=none) (h0:X.s₀.heap.objs.size<=D) (hL:D≠X.env.locals) (hc:∀ x c,X.env.cells.lookup x=some c->c≠D) (hp:∀ p∈X.pn++zB,p.1≠D)
  (new:zAT X.prog X.w (upd H D u) s.heap D u):Inv X zB σ (upd H D u) s:=by
 have un:∀ b v,H b=some v->upd H D u b=some v:=λb v e=>by rw[zT (zk e hn)];exact e
 have e0:s={ s with heap:=s.heap,gens:=s.gens,drawn:=s.drawn,toks:=s.toks }:=by cases s;rfl
 rw[e0];refine I.step (g':=s.gens) (d':=s.drawn) (ch:=[D]) (λb hb=>?_) (λb v _ _ _ e _=>e) (λb v _ _ _ e _=>⟨v.slots,e⟩) (λb v hb e n=>?_) (λb v _ e=>⟨v,e⟩) (λb xs e=>un b _ e) (λb p v e=>un b _ e) (λb ps e=>⟨#[],by rw[un b _ e];simp⟩) (λm hm=>hm) (λb v e=>?_) I.bare
 .have:b=D:=by simpa using hb
  subst this;exact ⟨.inr h0,hL,hc,hp⟩
 .rw[zT (λz=>hb (by simp[z]))];exact n
 .by_cases hb:b=D
  .subst hb;rw[zj]at e;cases e;exact new
  .rw[zT hb]at e;exact (I.hok b v e).stay (λc v hc q=>q) (λc q=>un c _ q) λc xs q=>un c _ q
theorem zHh (hu:A.units+1<cLine) (I:Inv X zB σ H s) (g:zEB H a y v H') (ry:zn y u) (rv:zn v r) (h:∀ s',Inv X zB σ H' s'->Heap.SameBut a s.heap s'.heap->Q () s') :
  wpAny (model X.prog X.w) A (dictSet a u r) Q E s:=by
 rcases g with ⟨kvs,k,e,ey,l,eH⟩|⟨kvs,k,b,e,ey,eb,l,eH⟩
 .subst ey eH;obtain ⟨z,hd,vs,rel,dd⟩:=zRt I.hok e;have hz:vs.length<=sizeLine:=by rw[<-rel.length];exact z
  have hl:(zDO kvs k v).length<=sizeLine:=by have:=zCZ kvs k v;omega
  refine wpAny_dictSet_pairs (hsz:=hz) (zGN ry) dd λh' dd' hs=>h _ ?_ hs;have he:∃ q,h'.get? a=some q:=let ⟨q,_,_,hq,_⟩:=dd';⟨q,hq⟩;exact zEU I (by rw[e];exact True.intro) hs he (zPw hl hd (rel.put k rv) dd')
 .subst ey eH;cases (show u=Value.ref b from ry);obtain ⟨z,hd,xs,rel,dd⟩:=zRw I.hok e;have hz:xs.length<=sizeLine:=by rw[<-Paired.length rel];exact z
  have hl:(zDO kvs k v).length<=sizeLine:=by have:=zCZ kvs k v;omega
  refine wpAny_dictSet_heap (hsz:=hz) (show (tupleKind (zAE X.prog X.w)).room A from Nat.lt_of_succ_lt hu) (zEJ I.hok eb) dd λh' dd' hs=>h _ ?_ hs;obtain ⟨q,es,ep,hq,h2,h3,h4,_,h5⟩:=dd';refine zEU I (by rw[e];exact True.intro) hs ⟨q,hq⟩ ⟨hl,hd,_,(rel.put k eb rv).keeps λc ys ec=>?_,q,es,ep,hq,h2,h3,h4,h5⟩;rw[zT (zGm ec e (λz=>nomatch z))];exact ec
end
def zBJ (isT:Bool):HO:=if isT then .dT [] else .dK []
abbrev zAb:Obj:={ cls:=.type "dict", data:=.dict #[] }
section
variable {pos:Pos}
 {own:Yj} {g:TG} {tc:TT} {tk tv:TE} {E:Yc} {isT:Bool}
theorem zDL (hu:X.A.units+1<cLine) (C:CompIn X scope own) (hcalm:X.calm=true) (I:Inv X zB σ H s) (T:Turn X.prog X.w X.K tg J fp it tn) (st:tn 0 s.heap) (hf:∀ b∈fp,zBr X zB H b)
  (c1:∀ x c,cl.lookup x=some c->X.env.cells.lookup x=some c) (c2:∀ y∈scope.names,y.2=.free->(cl.lookup y.1).isSome=true)
  (hg:PG (zH X zB scope cl s H fp) tg g) (hi:zFR (zH X zB scope cl s H fp) ifs tc) (hk:PE (zH X zB scope cl s H fp) kx tk) (hv:PE (zH X zB scope cl s H fp) vx tv)
  {RR:Value->Addr->Result->Shared->Prop} {QQ:Hp->Prop} {W:Nat->Nat->Hp->Prop} {m0:Nat} (w0:W 0 m0 (upd H s.heap.objs.size (zBJ isT)))
  (turn:∀ i m H,W i m H->(J.stop i H/\QQ H) \/
   (J.go i H /\ ∀ x H',J.yld i H x H'->g x (clr own σ) H' λσ2 H2=>Ext (clr own σ) σ2/\tc σ2 H2 λb H3=>
    if b=true then tk σ2 H3 λk H4=>tv σ2 H4 λv H5=>∃ H6 m',zEB H5 s.heap.objs.size k v H6/\m'<m/\W (i+1) m' H6 else ∃ m',m'<m/\W (i+1) m' H3))
  (fin:∀ σc H' s',Inv (zH X zB scope cl s H fp) [] σc H' s'->QQ H'->RR (.ref s.heap.objs.size) (s.heap.objs.size+1) (.ok .next) s') :
  wpAny (model X.prog X.w) X.A newDict (λacc s₃=>wpAny (model X.prog X.w) X.A (newFunctionEnv scope X.env.globals cl [] X.env.qual none .none (some X.env)) (λcenv s₄=>
   codeAny (model X.prog X.w) X.A (.compStart (.DictComp kx vx [⟨tg,iter,ifs,0⟩] scope pos) 0 (.ref it) acc { cenv with scope:=relabel scope X.env }) (RR acc cenv.locals) s₄) E s₃) E s:=by
 have ob:∀ b:Nat,b∈fp->b<s.heap.objs.size:=λb hb=>let ⟨_,e,_⟩:=T.obj 0 _ st b hb;zVZ e;refine zVr (zCS ?_);have sz1:(s.heap.push zAb).objs.size=s.heap.objs.size+1:=zV4 ..;have I4:=zEj (X:=X) (zB:=zB) (σ:=σ) (σc:=clr own σ) (H:=H) (s:=s) (scope:=scope) (cl:=cl) (fp:=fp) C.sc I hf ob c1 c2 (zA8 own σ) (λi x v h1 h2 h3=>by
  obtain ⟨a,b⟩:=zCX own σ i v h2;rcases C.nm i x h1 with z|z|z
  .exact absurd z b
  .exact absurd (zB2 x z) h3
  .exact ⟨z,a⟩) zAb (by intro v z;cases z) rfl rfl
 have st4:tn 0 (pushCells ((s.heap.push zAb).push { cls:=.type "dict", data:=.dict #[] }) scope.names):=T.keep 0 _ _ st λb _ o e=>pushCells_keeps _ _ b o (zVP _ (zVP _ e));unfold newEnv;rw[sz1];have hDfp:s.heap.objs.size∉fp:=λz=>zV6 _ (ob _ z);obtain ⟨pD,nD,neD,nfD,dD⟩:=I4.pin (s.heap.objs.size,zAb) (by simp);have hcD:∀ x c,(zH X zB scope cl s H fp).env.cells.lookup x=some c->c≠s.heap.objs.size:=λx c e z=>by
  obtain ⟨v,o,ho,hd⟩:=I4.cell x c e;rw[z,pD]at ho;cases ho;cases hd
 have hpn:∀ p∈(zH X zB scope cl s H fp).pn++[],p.1≠s.heap.objs.size:=λp hp=>by
  rw[zV8]at hp;have hp':p∈X.pn++zB:=hp;exact zVj (zVZ (I.pin p hp').1)
 have big:sysModules<s.heap.objs.size:=I.big;have hsm:(s.heap.objs.size==sysModules)=false:=by rw[beq_eq_false_iff_ne];exact zWt big
 have I5:Inv (zH X zB scope cl s H fp) [] (clr own σ) (upd H s.heap.objs.size (zBJ isT)) { s with heap:=pushCells ((s.heap.push zAb).push { cls:=.type "dict", data:=.dict #[] }) scope.names }:=by
  have I4':Inv (zH X zB scope cl s H fp) [] (clr own σ) H { s with heap:=pushCells ((s.heap.push zAb).push { cls:=.type "dict", data:=.dict #[] }) scope.names }:=I4.pins_of λp hp=>nomatch hp;refine I4'.trackAt pD nD (zVU _) neD hcD hpn ?_;cases isT with
  |false=>exact ⟨zWA _,hsm,[],.nil,zAb,#[],0,pD,⟨rfl,rfl,rfl⟩,rfl,λ_ he=>by simp at he,.nil,List.nodup_nil⟩
  |true=>exact ⟨zWA _,hsm,[],.nil,zAb,#[],0,pD,⟨rfl,rfl,rfl⟩,rfl,rfl,List.nodup_nil⟩
 have fpk:∀ {H':Hp},(∀ b∈fp,H' b=none) -> ∀ b∈fp,zBr (zH X zB scope cl s H fp) [] H' b:=λ{H'} hn b hb=>
  ⟨hn b hb,(I4.ok.exf b hb).1,I4.ok.exfs b hb,.inl hb,(I4.ok.exf b hb).2,λp hq=>by
   rw[zV8]at hq;exact (hf b hb).2.2.2.2.2 p hq⟩
 have loop:codeAny (model X.prog X.w) X.A (.compLoop (.DictComp kx vx [⟨tg,iter,ifs,0⟩] scope pos) 0 (.ref it) (.ref s.heap.objs.size) (zH X zB scope cl s H fp).env) (RR (.ref s.heap.objs.size) (s.heap.objs.size+1))
   { s with heap:=pushCells ((s.heap.push zAb).push { cls:=.type "dict", data:=.dict #[] }) scope.names }:=by
  refine zHB (λn s'=>∃ i H',Inv (zH X zB scope cl s H fp) [] (clr own σ) H' s'/\tn i s'.heap/\(∀ b∈fp,H' b=none)/\W i n H') ?_ m0
   ⟨0,_,I5,st4,λb hb=>by rw[zT (show b≠s.heap.objs.size from λz=>hDfp (by rw[<-z];exact hb))];exact (hf b hb).1,w0⟩
  rintro n s5 ⟨i,H5,J5,st5,f5,w5⟩;rcases turn i n H5 w5 with ⟨stop,qq⟩|⟨go,step⟩
  .refine thn (T.done (zH X zB scope cl s H fp) rfl rfl rfl hcalm i _ s5 _ H5 _ J5 (fpk f5) st5 stop) λr s6 ⟨hr,I6⟩=>?_;subst hr;exact fin _ H5 s6 I6 qq
  .refine thn (T.item (zH X zB scope cl s H fp) rfl rfl rfl hcalm i _ s5 _ H5 _ J5 (fpk f5) st5 go) λr s6 ⟨u,hr,h6⟩=>?_;subst hr;refine thn h6 λ_ s7 ⟨x,H7,I7,r7,y7,st7,f7⟩=>?_;have I7':=I7.pinned (fpk f7) (T.obj _ _ st7);refine thn (hg _ s7 _ H7 x u _ I7' r7 (step x H7 y7)) λ_ s8 ⟨σ8,H8,I8,x8,q8⟩=>?_;refine thn (hi _ s8 σ8 H8 _ I8 q8) λok s9 ⟨H9,I9,q9⟩=>?_;have back:∀ {s':Yl} {Hx:Hp},Inv (zH X zB scope cl s H fp) ([]++zCd fp s7.heap) σ8 Hx s'->tn (i+1) s'.heap /\ ∀ b∈fp,Hx b=none:=λ{s' Hx} Ix=>
    ⟨T.keep _ _ _ st7 λb hb o e=>(Ix.pin (b,o) (zVi _ (zVi _ (zAN hb e)))).1,λb hb=>by
     obtain ⟨o,e,d⟩:=T.obj _ _ st7 b hb;exact (Ix.pin (b,o) (zVi _ (zVi _ (zAN hb e)))).2.1⟩
   cases ok with
   |false=>
    obtain ⟨m',hm,w'⟩:=q9;obtain ⟨b1,b2⟩:=back I9;exact ⟨m',hm,i+1,H9,(I9.weak (by rw[x8.1]) x8.2).unpinned,b1,b2,w'⟩
   |true=>
    refine thn (hk _ s9 σ8 H9 _ I9 q9) λkv s10 ⟨y,H10,I10,r10,q10⟩=>?_;refine thn (hv _ s10 σ8 H10 _ I10 q10) λvv s11 ⟨z,H11,I11,r11,H12,m',hp,hm,w'⟩=>?_;refine zHh (X:=zH X zB scope cl s H fp) hu I11 hp r10 r11 λs12 I12 hs=>?_;obtain ⟨b1,b2⟩:=back I12;exact ⟨m',hm,i+1,H12,(I12.weak (by rw[x8.1]) x8.2).unpinned,b1,b2,w'⟩
 exact zCp loop (T.self _ 0 _ _ _ st4 loop)
theorem zD4 (I:Inv X zB σ H s) (hf:∀ b∈fp,zBr X zB H b)
  (Ic:Inv (zH X zB scope cl s H fp) [] σc H' s') (hs:Heap.SameBut (s.heap.objs.size+1) s'.heap h'):Inv X zB σ H' { s' with heap:=h' }:=by
 have nC:H' (s.heap.objs.size+1)=none:=Ic.free;have lt1:∀ {b:Yt} {o:Obj},s.heap.get? b=some o->b≠s.heap.objs.size+1:=λe=>zVj (zWD (zVZ e));have tr:∀ b u,H' b=some u->b≠s.heap.objs.size+1:=λb u e z=>by rw[z,nC]at e;cases e
 have B:=Ic.base;have un:Un (frs X.stack) fp H H' s.heap h':=by
  refine ⟨λb o e q hb hx=>hs.extBut b o (lt1 e) (B.keep b o e q hb hx),λb o e q hb hx=>?_,λb o e q hx=>B.free b o e q hx,λb o e hx=>?_,λb xs e=>B.tups b xs e,λb o xs e=>B.frzs b o xs e,λb ps e=>B.tbls b ps e⟩
  .obtain ⟨sl,e1⟩:=B.slot b o e q hb hx;exact ⟨sl,hs.extBut b _ (lt1 e) e1⟩
  .obtain ⟨o',e1⟩:=B.there b o e hx;exact ⟨o',hs.extBut b _ (lt1 e) e1⟩
 have hok:HOk X.prog X.w H' h':=λb u e=>by
  refine (Ic.hok b u e).stay (λc v hc q=>hs.extBut c v ?_ q) (λc q=>q) λc xs q=>q;rcases hc with z|z
  .rw[z];exact tr b u e
  .exact tr c _ z
 exact I.call' (s':={ s' with heap:=h' }) (ch:=fp) Ic.os un hok Ic.bare λb hb=>⟨(hf b hb).2.2.2.1,(hf b hb).2.1,(hf b hb).2.2.2.2.1,(hf b hb).2.2.2.2.2⟩
end
def zFE (isT:Bool) (own:Yj) (wi:TI) (g:TG) (tc:TT) (tk tv:TE):TE:=λσ H Q=>wi σ H λJ H1=>∀ D,H1 D=none -> ∃ W:Nat->Nat->Hp->Prop,(∃ m,W 0 m (upd H1 D (zBJ isT))) /\ ∀ i m H,W i m H ->
 (J.stop i H/\Q (.ref D) H) \/
 (J.go i H /\ ∀ x H',J.yld i H x H'->g x (clr own σ) H' λσ2 H2=>Ext (clr own σ) σ2/\tc σ2 H2 λb H3=>
  if b=true then tk σ2 H3 λk H4=>tv σ2 H4 λv H5=>∃ H6 m',zEB H5 D k v H6/\m'<m/\W (i+1) m' H6 else ∃ m',m'<m/\W (i+1) m' H3)
section
theorem zJI (hu:X.A.units+1<cLine) (C:CompIn X scope own) (hcalm:X.calm=true) (hi:PI X tg iter wi) (p:CompParts X scope tg ifs kx g tc tk) (p2:∀ zB cl s H fp,PE (zH X zB scope cl s H fp) vx tv) (hs:∀ x,foldedSetIterable iter X.env x=pure x:=by intro _;rfl) :
  PE X (.DictComp kx vx [⟨tg,iter,ifs,0⟩] scope pos) (zFE isT own wi g tc tk tv):=by
 intro zB s σ H Q I h;obtain ⟨cl,hcl,c1,c2⟩:=C.sc.closure I;rw[arm_eval_DictComp];refine zXI (use:=none) rfl hs hcl C.sc.kind C.sc.names (thn (hi zB s σ H _ I h) λv s1 h1=>thn h1 λitv s2 h2=>?_);obtain ⟨it,fp,tn,J,H2,e,I2,T,st2,f2,hD⟩:=h2;subst e;obtain ⟨W,⟨m0,w0⟩,turn⟩:=hD s2.heap.objs.size (I2.hok.fresh (zVU _));refine zDL hu C hcalm I2 T st2 f2 c1 c2 (p.g _ _ _ _ _) (p.c _ _ _ _ _) (p.e _ _ _ _ _) (p2 _ _ _ _ _) (RR:=λacc C r s'=>compPost (model X.prog X.w) X.A X.xe none (EP X zB σ Q) acc C r s') (QQ:=λH=>Q (.ref s2.heap.objs.size) H) w0 turn ?_;intro σc H' s' Ic qq;obtain ⟨m,hn,_⟩:=Ic.loc;refine ⟨m,hn,λh' hs'=>?_⟩;exact ⟨.ref s2.heap.objs.size,_,zD4 I2 f2 Ic hs',rfl,qq⟩
end
end L2
namespace L3
open PySem PySem.Spec PyProof.Rows L2
def zEA (isT:Bool):MO:=if isT then .dicT [] else .dict []
def zCN (g:FG) (tc:FT) (tk tv:FE) (σ:Sd) (n:Nat) (all:List D) (gd:Option (Mem->Prop)):List D->Mem->Option Mem
 |[],M=>open Classical in if zAo gd all M then some M else none
 |x::r,M=>open Classical in if zAo gd all M then match g x σ with
   |some σ1=>match tc σ1 M with
    |some (true,M1)=>match toD tk σ1 M1 with
     |some (k,M2)=>match toD tv σ1 M2 with
      |some (v,M3)=>match zD0 M3 n k v with
       |some M4=>zCN g tc tk tv σ n all gd r M4
       |none=>none
      |none=>none
     |none=>none
    |some (false,M1)=>zCN g tc tk tv σ n all gd r M1
    |none=>none
   |none=>none
  else none
def zCf (isT:Bool) (own:Yj) (fi:FI) (g:FG) (tc:FT) (tk tv:FE):FE:=λσ M=>match fi σ M with
 |some (xs,gd,M1)=>match zCN g tc tk tv (zA2 own σ) M1.length xs gd xs (M1++[zEA isT]) with
  |some M2=>some (.dat (.ref M1.length),M2)
  |none=>none
 |none=>none
theorem zFk {K:Yb} {isT:Bool} {own:Yj} {fi:FI} {g:TG} {fg:FG} {tc:FT} {tk tv:FE} (hg:zEL own g fg) {τ:Sv} {H:Hp} {Q:VK} (h:trE K (zCf isT own fi fg tc tk tv) τ H Q):zFE isT own (trI K fi) g (trT K tc) (trD K (toD tk)) (trD K (toD tv)) τ H Q:=by
 obtain ⟨L,σ,M,d,Mf,c,rs,hf,q⟩:=h;unfold zCf at hf;split at hf
 .rename_i xs gd M1 e1;split at hf
  .rename_i M2 e2;cases hf;refine ⟨L,σ,M,_,_,_,c,rs,e1,λL1 H1 J s1 c1 it p hp=>?_⟩;obtain ⟨c0,s0⟩:Cor K (L1++[p]) (M1++[zEA isT]) (upd H1 p (zBJ isT))/\Stp L1 H1 (L1++[p]) (upd H1 p (zBJ isT)):=by
    cases isT with
    |true=>exact c1.pushO (m:=.dicT []) hp ⟨[],zj,rfl⟩
    |false=>exact c1.pushO (m:=.dict []) hp ⟨[],zj,rfl⟩
   have lp0:(L1++[p])[M1.length]?=some p:=by rw[<-c1.len];simp
   refine ⟨λi m H'=>m=xs.length-i/\i<=xs.length /\ ∃ L' M',Stp (L1++[p]) (upd H1 p (zBJ isT)) L' H'/\Cor K L' M' H'/\zCN fg tc tk tv (zA2 own σ) M1.length xs gd (xs.drop i) M'=some Mf,
    ⟨xs.length,by simp,zWA _,_,_,.refl _ _,c0,by simpa using e2⟩,?_⟩
   rintro i m H' ⟨rfl,hi,L',M',s',c',e'⟩;have lp:L'[M1.length]?=some p:=by obtain ⟨N,hN⟩:=s'.pre;rw[hN];exact zBg lp0
   by_cases hlt:i<xs.length
   .rw[zB4 hlt]at e';unfold zCN at e';split at e'
    .rename_i hgd;obtain ⟨step,_⟩:=it L' H' M' (s0.trans s') c' hgd;obtain ⟨go,yl⟩:=step i xs[i] (zVS hlt);split at e'
     .rename_i σ1 eg;refine .inr ⟨go,λv H2 hy=>?_⟩;obtain ⟨gr,rv⟩:=yl v H2 hy;have s2:Stp (L1++[p]) (upd H1 p (zBJ isT)) L' H2:=s'.yld gr;refine hg (zDq own (((rs.stp s1).stp s0).stp s2)) (.refl _) rv eg λτ2 r2 x2=>⟨x2,?_⟩;split at e'
      .rename_i M3 e3;split at e'
       .rename_i kd M4 e4;split at e'
        .rename_i vd M5 e5;split at e'
         .rename_i M6 e6;refine ⟨L',σ1,M',_,_,c'.grow gr,r2,e3,λL3 H3 s3 c3=>zHC ?_⟩;refine ⟨L3,σ1,M3,_,_,c3,r2.stp s3,e4,λL4 H4 w s4 c4 r4=>?_⟩;refine ⟨L4,σ1,M4,_,_,c4,(r2.stp s3).stp s4,e5,λL5 H5 u s5 c5 r5=>?_⟩;have st:Stp L' H' L5 H5:=(((Stp.grow gr).trans s3).trans s4).trans s5;have lp5:L5[M1.length]?=some p:=by obtain ⟨N,hN⟩:=st.pre;rw[hN];exact zBg lp
          obtain ⟨H6,h1,h2,h3⟩:=zFt c5 lp5 (r4.stp s5) r5 e6;exact ⟨H6,xs.length-(i+1),h1,by omega,rfl,hlt,L5,M6,(s'.trans st).trans h3,h2,e'⟩
         .cases e'
        .cases e'
       .cases e'
      .rename_i M3 e3;refine ⟨L',σ1,M',_,_,c'.grow gr,r2,e3,λL3 H3 s3 c3=>zGv ?_⟩;have st:Stp L' H' L3 H3:=(Stp.grow gr).trans s3;exact ⟨xs.length-(i+1),by omega,rfl,hlt,L3,M3,s'.trans st,c3,e'⟩
      .cases e'
     .cases e'
    .cases e'
   .have hi':i=xs.length:=by omega
    subst hi';rw[List.drop_length]at e';unfold zCN at e';split at e'
    .rename_i hgd;cases e';obtain ⟨_,stop⟩:=it L' H' _ (s0.trans s') c' hgd;refine .inl ⟨stop,?_⟩;refine q L' _ _ ((s1.trans s0).trans s') c' ?_;unfold zf Rep;exact ⟨p,rfl,lp⟩
    .cases e'
  .cases hf
 .cases hf
section
variable {isT:Bool}
theorem zRe {fi:FI} {g:TG} {fg:FG} {tc:FT} {tk tv:FE} (hu:X.A.units+1<cLine) (hg:zEL own g fg) (C:CompIn X scope own) (hcalm:X.calm=true) (hi:QI X tg iter fi) (p:QParts X scope tg ifs kx g tc tk) (p2:∀ zB cl s H fp,QE (zH X zB scope cl s H fp) vx tv) (hs:∀ x,foldedSetIterable iter X.env x=pure x:=by intro _;rfl) :
  QE X (.DictComp kx vx [⟨tg,iter,ifs,0⟩] scope pos) (zCf isT own fi fg tc tk tv) :=
 .mk <| PE.imp (zJI (isT:=isT) hu C hcalm hi.un p.parts (λ_ _ _ _ _=>(zBx (p2 _ _ _ _ _)).un) hs) λ_ _ _ h=>zFk hg h
end
section
theorem zT9 (n:Nat) (hn:n<=8) (hr:Room k A):A.units+1+n<cLine:=by
 have:=hr.units;omega
def zEs (f g:FE):FE:=λσ M=>match toD f σ M with
 |some (.tup ds,M1)=>match zAZ ds with
  |some xs=>match toD g σ M1 with
   |some (.int i,M2)=>if i∈xs then some (.dat (.int (xs.idxOf i)),M2) else none
   |_=>none
  |none=>none
 |_=>none
theorem zRT (h:QE X o f) (hg:QE X e g) (hbase:attributeBase o "index" X.env (eval o X.env)=eval o X.env:=by rfl)
  (hfew:((backTo cpos (starEach [e] X.env)).all (λx=> !x.1)&&(backToKw cpos (keywordEach [] X.env)).all (λx=>x.1.isSome)&&decide ([e].length+([]:List Keyword).length+(if ([]:List Keyword).isEmpty then 0 else 1)<30))=true:=by rfl)
  (hline:(apos.endLine==cpos.line)=true:=by rfl) (hs:starEach [e] X.env=(false,eval e X.env)::starEach [] X.env:=by rfl) (hplain:(backTo cpos (starEach [] X.env)).any (·.1)=false:=by rfl) :
  QE X (.Call (.Attribute o "index" apos) [e] [] cpos) (zEs f g) :=
 .mk <| PE.imp (zJu PySem.F.plainAttrs_tuple PySem.F.slot_tuple_index PySem.F.type_tuple_index zOg (zBx h).un (zMH (zBx hg) zPB hs).un hbase hfew hline hs hplain) λτ H Q zz=>by
  obtain ⟨L,σ,M,d,M',c,rs,hf,q⟩:=zz;unfold zEs at hf;split at hf
  .rename_i ds M1 e1;split at hf
   .rename_i xs e2;split at hf
    .rename_i i Mq e3;split at hf
     .rename_i hi;cases hf;refine ⟨L,σ,M,_,_,c,rs,e1,λL1 H1 u s1 c1 r1=>?_⟩;unfold Rep at r1;obtain ⟨p,vs,rfl,h1,r⟩:=r1;have ev:=zC9 e2 r;subst ev;refine ⟨.inr (.inl ⟨rfl,.inr ⟨_,h1⟩⟩),L1,σ,M1,_,_,c1,rs.stp s1,(show zD (toD g) zG σ M1=some ([D.int i],M') by unfold zD zG;rw[e3]),λL2 H2 ws s2 c2 r2=>?_⟩;have ew:=zE7 r2;subst ew;exact ⟨p,i,xs,rfl,rfl,.of (s2.tup p _ h1),hi,q L2 H2 _ (s1.trans s2) c2 (zAF (L:=L2) (H:=H2))⟩
     .cases hf
    .cases hf
   .cases hf
  .cases hf
end
open Builtin
section
def zJh:KB:=λxs M=>match xs with
 |[.dat (.int i),.dat (.int j)]=>some (.dat (.int (if j>i then j else i)),M)
 |_=>none
def zFJ:KB:=λxs M=>match xs with
 |[.dat (.int i),.dat (.int j)]=>some (.dat (.int (if j<i then j else i)),M)
 |_=>none
theorem zFN (r:zCP H0 L H [.dat (.int i),.dat (.int j)] vs):vs=[.int i,.int j]:=by
 unfold zCP at r;obtain ⟨v,r1,rfl,a1,a2⟩:=r;unfold zCP at a2;obtain ⟨v2,r2,rfl,b1,b2⟩:=a2;unfold zCP at b2;subst b2;unfold zf Rep at a1 b1;subst a1 b1;rfl
theorem zOn {K:Yb}:zEk K (λxs H Q=>∃ i j,xs=[.int i,.int j]/\Q (.int (if j>i then j else i)) H) zJh:=by
 intro L M M' H H0 xs d vs Q c r hk q;unfold zJh at hk;split at hk
 .rename_i i j;cases hk;exact ⟨i,j,zFN r,q L H _ (.refl L H) c (zAF (L:=L) (H:=H))⟩
 .cases hk
theorem zPA {K:Yb}:zEk K (λxs H Q=>∃ i j,xs=[.int i,.int j]/\Q (.int (if j<i then j else i)) H) zFJ:=by
 intro L M M' H H0 xs d vs Q c r hk q;unfold zFJ at hk;split at hk
 .rename_i i j;cases hk;exact ⟨i,j,zFN r,q L H _ (.refl L H) c (zAF (L:=L) (H:=H))⟩
 .cases hk
theorem zSE (hcalm:X.calm=true) (hg:Gl X "max") (hm:X.mg "max" = none) (ha:QAE X [e,e2] fa) (he:starEach [e,e2] X.env=(false,eval e X.env)::starEach [e2] X.env:=by rfl) (hpl:(backTo pos (starEach [e2] X.env)).any (·.1)=false:=by rfl):QE X (.Call (.Name "max" p) [e,e2] [] pos) (fB zJh fa) :=
 zCT zOn (zMm hcalm) (by rfl) hg hm ha (by decide) (by decide) he hpl
theorem zSj (hcalm:X.calm=true) (hg:Gl X "min") (hm:X.mg "min" = none) (ha:QAE X [e,e2] fa) (he:starEach [e,e2] X.env=(false,eval e X.env)::starEach [e2] X.env:=by rfl) (hpl:(backTo pos (starEach [e2] X.env)).any (·.1)=false:=by rfl):QE X (.Call (.Name "min" p) [e,e2] [] pos) (fB zFJ fa) :=
 zCT zPA (zM4 hcalm) (by rfl) hg hm ha (by decide) (by decide) he hpl
def zBf:KM:=λx ds M=>match x,ds with
 |.dat (.ref n),[.ref m]=>match M[n]?,M[m]? with
  |some (.lst xs),some (.lst ys)=>if xs.length+ys.length<=sizeLine then some (.non,M.set n (.lst (xs++ys))) else none
  |_,_=>none
 |_,_=>none
theorem zLW {K:Yb}:zN8 K zMC zBf:=by
 intro L M M' H H0 x ds d v vs Q c rx rd hk q;unfold zBf at hk;split at hk
 .rename_i n m;split at hk
  .rename_i xs ys e1 e1';split at hk
   .rename_i hz;cases hk;unfold zf Rep at rx;obtain ⟨a,rfl,e2⟩:=rx;obtain ⟨ws,e3,r3⟩:=c.obj n a _ e2 e1;obtain ⟨w,rfl,r4⟩:=rd.one;unfold Rep at r4;obtain ⟨b,rfl,e4⟩:=r4;obtain ⟨zs,e5,r5⟩:=c.obj m b _ e4 e1';obtain ⟨c5,s5⟩:=c.write e2 e1 (r3.app r5);exact ⟨a,b,ws,zs,rfl,rfl,e3,e5,by rw[r3.length,r5.length];exact hz,q L _ _ s5 c5 (by unfold Rep;rfl)⟩
   .cases hk
  .cases hk
 .cases hk
theorem zP6 (h:QE X a f) (hg:QA X [e] fg) (hbase:attributeBase a "extend" X.env (eval a X.env)=eval a X.env:=by rfl)
  (hfew:((backTo cpos (starEach [e] X.env)).all (λx=> !x.1)&&(backToKw cpos (keywordEach [] X.env)).all (λx=>x.1.isSome)&&decide ([e].length+([]:List Keyword).length+(if ([]:List Keyword).isEmpty then 0 else 1)<30))=true:=by rfl)
  (hline:(apos.endLine==cpos.line)=true:=by rfl) (hs:starEach [e] X.env=(false,eval e X.env)::starEach [] X.env:=by rfl) (hplain:(backTo cpos (starEach [] X.env)).any (·.1)=false:=by rfl) :
  QE X (.Call (.Attribute a "extend" apos) [e] [] cpos) (fM zBf f fg) :=
 .mk <| PE.imp (zJu PySem.F.plainAttrs_list PySem.F.slot_list_extend PySem.F.type_list_extend zND h.un hg.un hbase hfew hline hs hplain) λ_ _ _ z=>zIA zLW z
end
end L3
namespace HT
open PySem PySem.Spec PyProof.Rows
end HT
namespace L3
open PySem PySem.Spec PyProof.Rows L2
section
def zJ1 (fg:FG) (f:FE):FS:=λσ M=>match toD f σ M with
 |some (d,M1)=>match fg d σ with
  |some σ1=>some (.nx,σ1,M1)
  |none=>none
 |none=>none
theorem zUb (hk:GOk g fg) (h:QE X e f) (hg:PG X tg g) (hs:swapsWithSole [tg] e pos.line X.env=pure false:=by rfl) (hw:swappedStores [tg] e X.env=pure none:=by rfl)
  (h1:(assignEach [tg] X.env).map (·.2)=[assign tg X.env]:=by rfl):QS X (.Assign [tg] e pos) (zJ1 fg f) :=
 .mk <| PS.imp (zOB h.un hg hs hw h1) λE τ H zz=>by
  obtain ⟨L,σ,M,o,σ',M',c,rs,hf,q⟩:=zz;unfold zJ1 at hf;split at hf
  .rename_i d M1 e1;split at hf
   .rename_i σ1 e2;cases hf;refine zJy ⟨L,σ,M,_,_,c,rs,e1,λL1 H1 v s1 c1 r1=>?_⟩;exact hk (rs.stp s1) r1 e2 λτ' rs'=>q L1 H1 s1 c1 τ' rs'
   .cases hf
  .cases hf
theorem zLy:OkS (zJ1 fg f σ M) P ↔ Ok (f σ M) (zFT λd M1=>∃ σ1,fg d σ=some σ1/\P .nx σ1 M1):=by
 rw[<-zAf];unfold zJ1;constructor
 .rintro ⟨o,σ',M',e,p⟩;split at e
  .rename_i d M1 e1;split at e
   .rename_i σ1 e2;cases e;exact ⟨d,_,e1,_,e2,p⟩
   .cases e
  .cases e
 .rintro ⟨d,M1,e1,σ1,e2,p⟩;refine ⟨.nx,σ1,M1,?_,p⟩;rw[e1];dsimp only;rw[e2]
end
def SI (b:Bool) (h:Heap) (it t:Yt) (k:Nat):Prop:=if b then h.IsTupleIter it t k else h.IsListIter it t k
def SO (b:Bool) (h:Heap) (t:Yt) (xs:Yp):Prop:=if b then h.IsTuple t xs else h.IsList t xs
abbrev itO (b:Bool) (t:Addr):Obj:={ cls:=.type (if b then "tuple_iterator" else "list_iterator"),data:=.fields #[.ref t,.int 0 0] }
theorem SI.keep (x:SI b h it t k) (e:∀ o,h.get? it=some o->h'.get? it=some o):SI b h' it t k:=by
 cases b with
 |true=>obtain ⟨o,q,r⟩:=(show h.IsTupleIter it t k from x);exact (show h'.IsTupleIter it t k from ⟨o,e o q,r⟩)
 |false=>obtain ⟨o,q,r⟩:=(show h.IsListIter it t k from x);exact (show h'.IsListIter it t k from ⟨o,e o q,r⟩)
theorem SO.keep (x:SO b h t xs) (e:∀ o,h.get? t=some o->h'.get? t=some o):SO b h' t xs:=by
 cases b with
 |true=>obtain ⟨o,q,r⟩:=(show h.IsTuple t xs from x);exact (show h'.IsTuple t xs from ⟨o,e o q,r⟩)
 |false=>obtain ⟨o,q,r⟩:=(show h.IsList t xs from x);exact (show h'.IsList t xs from ⟨o,e o q,r⟩)
theorem SI.but (x:SI b h a t i) (hs:Heap.ExtBut c h h') (n:a≠c):SI b h' a t i:=x.keep λo e=>hs a o n e
theorem SO.but (x:SO b h a its) (hs:Heap.ExtBut c h h') (n:a≠c):SO b h' a its:=x.keep λo e=>hs a o n e
theorem SI.obj (x:SI b h it t k):∃ o,h.get? it=some o /\ ∀ v,o.data≠.cell v:=by
 cases b with
 |true=>obtain ⟨o,q,_,r⟩:=(show h.IsTupleIter it t k from x);exact ⟨o,q,λv m=>by rw[r]at m;cases m⟩
 |false=>obtain ⟨o,q,_,r⟩:=(show h.IsListIter it t k from x);exact ⟨o,q,λv m=>by rw[r]at m;cases m⟩
section
theorem zBb (I:SI b s.heap it t i) (T:SO b s.heap t its) (hx:its[i]?=some x)
  (q:∀ h',SI b h' it t (i+1)->Heap.SameBut it s.heap h'->Q x { s with heap:=h' }):wpAny (model prog w) A (Builtin.SmallTypes.nextOf (.ref it)) Q E s:=by
 cases b with
 |true=>exact zGa (show s.heap.IsTupleIter it t i from I) (show s.heap.IsTuple t its from T) hx q
 |false=>exact wpAny_nextOf_list_item (show s.heap.IsListIter it t i from I) (show s.heap.IsList t its from T) hx q
theorem zDt (hh:A.handled=none) (I:SI b s.heap it t i) (T:SO b s.heap t its) (hx:its[i]?=none)
  (q:∀ h' e,Heap.ExtBut it s.heap h'->(∃ o,h'.get? e=some o/\o.cls=.type "StopIteration")->E (.ref e) { s with heap:=h' }):wpAny (model prog w) A (Builtin.SmallTypes.nextOf (.ref it)) Q E s:=by
 cases b with
 |true=>exact zE4 hh (show s.heap.IsTupleIter it t i from I) (show s.heap.IsTuple t its from T) hx q
 |false=>exact wpAny_nextOf_list_end hh (show s.heap.IsListIter it t i from I) (show s.heap.IsList t its from T) hx q
theorem zMJ (hl:SO b s.heap l items) (hQ:Q (.ref s.heap.objs.size) { s with heap:=s.heap.push (itO b l) }):wpAny (model prog w) A (pyIter (.ref l)) Q E s:=by
 cases b with
 |true=>exact wpAny_pyIter_tuple (show s.heap.IsTuple l items from hl) hQ
 |false=>exact wpAny_pyIter_list (show s.heap.IsList l items from hl) hQ
structure ZipG (b1 b2:Bool) (h:Heap) (z TI TO i1 i2 t1 t2:Yt) (f:Yu) (k1 k2:Nat):Prop where
 z:IsZip h z TI TO f
 ti:IsPair h TI (.ref i1) (.ref i2)
 to:∃ a b,IsPair h TO a b
 a:SI b1 h i1 t1 k1
 b:SI b2 h i2 t2 k2
theorem zNj (e:h.get? it=some (itO b t)):SI b h it t 0:=by
 cases b with
 |true=>exact (show h.IsTupleIter it t 0 from ⟨_,e,rfl,rfl⟩)
 |false=>exact (show h.IsListIter it t 0 from ⟨_,e,rfl,rfl⟩)
abbrev zG1 (b1:Bool) (h:Heap) (a:Yt):Heap:=h.push (itO b1 a)
abbrev zG2 (b1 b2:Bool) (h:Heap) (a b:Yt):Heap:=zG1 b2 (zG1 b1 h a) b
abbrev zG3 (b1 b2:Bool) (h:Heap) (a b:Addr):Heap:=(zG2 b1 b2 h a b).push { cls:=.type "tuple", data:=.seq #[.ref h.objs.size,.ref (zG1 b1 h a).objs.size] }
abbrev zG4 (b1 b2:Bool) (h:Heap) (a b:Addr):Heap:=(zG3 b1 b2 h a b).push { cls:=.type "tuple", data:=.seq #[.none,.none] }
abbrev zG5 (b1 b2:Bool) (h:Heap) (a b:Addr):Heap:=(zG4 b1 b2 h a b).push { cls:=.type "zip", data:=.fields #[.none,.bool false,.bool false,.ref (zG2 b1 b2 h a b).objs.size,.ref (zG3 b1 b2 h a b).objs.size] }
theorem zLf (b1 b2:Bool) (a b:Addr) (xs ys:Array Value):Meets (Builtin.«zip.__new__» ⟨[.type "zip", .ref a,.ref b],[]⟩) (λ_ R s=>SO b1 s.heap a xs/\SO b2 s.heap b ys/\R (.ok (.ret (.ref (zG4 b1 b2 s.heap a b).objs.size))) { s with heap:=zG5 b1 b2 s.heap a b }) :=
 .of_wp λprog w A R s h=>by
  obtain ⟨hp,g,d,tk,os⟩:=s;obtain ⟨Ta,Tb,h⟩:=h;have sz:=sub_zip;have U1:SO b1 (Shared.heap ⟨hp,g,d,tk,os⟩) a xs:=Ta;have U2:SO b2 (Shared.heap ⟨hp.push (itO b1 a),g,d,tk,os⟩) b ys:=Tb.keep λo e=>zVP _ e;wp_walk using zMJ U1,zMJ U2;exact ⟨_,rfl,h⟩
theorem zO3 (Ta:SO b1 s.heap a xs) (Tb:SO b2 s.heap b ys)
  (h:∀ h',ZipG b1 b2 h' (s.heap.objs.size+4) (s.heap.objs.size+2) (s.heap.objs.size+3) s.heap.objs.size (s.heap.objs.size+1) a b .none 0 0->(∀ c o,s.heap.get? c=some o->h'.get? c=some o)->Q (.ref (s.heap.objs.size+4)) { s with heap:=h' }) :
  wpAny (model prog w) A (call (.type "zip") [.ref a,.ref b]) Q E s:=by
 refine callType_new PySem.F.called_zip (by decide) (PySem.F.typeCall_zip_2 _ _) (PySem.F.newCall_zip_2 _ _) (λobj=>PySem.F.args_object_init_3 obj _ _) PySem.F.entry_zip_new (zLf b1 b2 a b xs ys) ⟨Ta,Tb,?_⟩;have q1:(zG1 b1 s.heap a).objs.size=s.heap.objs.size+1:=zV4 ..;have q2:(zG2 b1 b2 s.heap a b).objs.size=s.heap.objs.size+2:=by rw[zV4,q1]
 have q3:(zG3 b1 b2 s.heap a b).objs.size=s.heap.objs.size+3:=by rw[zV4,q2]
 have q4:(zG4 b1 b2 s.heap a b).objs.size=s.heap.objs.size+4:=by rw[zV4,q3]
 have u:∀ {h:Heap} {c:Yt} {o p:Obj},h.get? c=some o->(h.push p).get? c=some o:=λe=>zVP _ e;have p5:(zG5 b1 b2 s.heap a b).get? (zG4 b1 b2 s.heap a b).objs.size=some _:=zVY _ rfl;have p4:(zG5 b1 b2 s.heap a b).get? (zG3 b1 b2 s.heap a b).objs.size=some _:=u (zVY _ rfl);have p3:(zG5 b1 b2 s.heap a b).get? (zG2 b1 b2 s.heap a b).objs.size=some _:=u (u (zVY _ rfl));have p2:(zG5 b1 b2 s.heap a b).get? (zG1 b1 s.heap a).objs.size=some _:=u (u (u (zVY _ rfl)));have p1:(zG5 b1 b2 s.heap a b).get? s.heap.objs.size=some _:=u (u (u (u (zVY _ rfl))));rw[q2,q3,q4]at p5;rw[q1,q2]at p3;rw[q3]at p4;rw[q1]at p2;rw[q4];exact ⟨⟨_,p5,rfl⟩,h _ ⟨p5,p3,⟨_,_,p4⟩,zNj p1,zNj p2⟩ λc o x=>u (u (u (u (u x))))⟩
end
def SqG (K:Yb) (b:Bool) (H:Hp) (a:Yt) (xs:List V):Prop:=if b then SqT K H a xs else SqL K H a xs
theorem zK4 (I:Inv X zB σ H s) (h:SqG X.K b H a xs):∃ its,zZ xs its/\SO b s.heap a its.toArray:=by
 cases b with
 |true=>obtain ⟨its,rv,p1,_⟩:=I.tuple h;exact ⟨its,rv,p1⟩
 |false=>obtain ⟨its,rv,p1,_⟩:=I.list h;exact ⟨its,rv,p1.isList⟩
theorem zTW (x:SO b h a its):a<h.objs.size:=by
 cases b with
 |true=>obtain ⟨_,e,_⟩:=(show h.IsTuple a its from x);exact zVZ e
 |false=>obtain ⟨_,e,_⟩:=(show h.IsList a its from x);exact zVZ e
section
theorem zLD {K:Yb} {L1:Yg} {M1:Mem} {H1:Hp} {x:D} {v:V} {xs:List D} (c1:Cor K L1 M1 H1) (r1:Rep L1 H1 x v) (e:zAQ M1 (.dat x)=some xs) :
  ∃ b l,v=.ref l/\(∃ vs,SqG K b H1 l vs) /\ ∀ L2 H2 M2,Stp L1 H1 L2 H2->Cor K L2 M2 H2->zAQ M2 (.dat x)=some xs -> ∃ vs',SqG K b H2 l vs'/\zL L2 H2 xs vs':=by
 have r1':zf H1 L1 H1 (.dat x) v:=r1;cases x with
 |tup ds=>
  cases e;obtain ⟨a,vs,rfl,e3,r3⟩:=zB1 r1' (xs:=xs) rfl;exact ⟨true,a,rfl,⟨vs,(show SqT K H1 a vs from .of e3)⟩,λL2 H2 M2 s2 c2 _=>⟨vs,(show SqT K H2 a vs from .of (s2.tup a vs e3)),r3.stp s2⟩⟩
 |ref n=>
  have e2:zBB M1 (.dat (.ref n))=some xs:=e;obtain ⟨a,vs,rfl,e3,r3⟩:=zAw c1 r1' e2;refine ⟨false,a,rfl,⟨vs,(show SqL K H1 a vs from .inl e3)⟩,λL2 H2 M2 s2 c2 hq=>?_⟩;unfold Rep at r1;obtain ⟨a',ha',e5⟩:=r1;cases ha';have e6:L2[n]?=some a:=by obtain ⟨N,hN⟩:=s2.pre;rw[hN];exact zBg e5
  have r2:zf H2 L2 H2 (.dat (.ref n)) (.ref a):=by unfold zf Rep;exact ⟨a,rfl,e6⟩
  obtain ⟨a2,vs',h2,e7,r7⟩:=zAw c2 r2 (show zBB M2 (.dat (.ref n))=some xs from hq);cases h2;exact ⟨vs',(show SqL K H2 a vs' from .inl e7),r7⟩
 |_=>cases e
end
theorem zFx {ns:Ye} {its:Yf} (r:zZ (ns.map V.int) its) {i:Nat} {v:Yu} (h:its.toArray[i]?=some v):∃ t,v=.int (ns.getD i 0) t:=by
 have h':its[i]?=some v:=by simpa using h
 have hi:i<its.length:=(zVR.mp h').1;have hl:=r.length;rw[zVX]at hl;have hx:(ns.map V.int)[i]?=some (.int (ns.getD i 0)):=by
  rw[zVl,zVT,zVS (by omega)];rfl
 obtain ⟨u,hu,ru⟩:=r.get hx;rw[h']at hu;cases hu;obtain ⟨t,rfl⟩:=ru;exact ⟨t,rfl⟩
theorem zPv (hh:A.handled=none) (b:Bool) (I ax:Yt) (hne:ax≠I) (items:Yp) :
  Walks prog w A I [I,ax] [I] items.size (λi v=>items[i]?=some v) (λi h=>SI b h I ax i/\SO b h ax items):=by
 cases b with
 |true=>exact Walks.tuple hh I ax hne items
 |false=>exact Walks.list hh I ax hne items
section
theorem zHm (gt:Bool) (hc:X.calm=true):zBT X (.builtin (if gt then "max" else "min")) (λxs H Q=>∃ (b:Bool) (a:Addr) (ns:List Int) (m:Int),xs=[.ref a]/\SqG X.K b H a (ns.map V.int)/\m∈ns/\(∀ x∈ns,if gt then x<=m else m<=x)/\Q (.int m) H):=by
 intro zB s σ H xs us Q I r h;obtain ⟨b,a,ns,m,rfl,hs,hm,hb,q⟩:=h;obtain ⟨u,rfl,ru⟩:=zCo r;cases ru;obtain ⟨its,rv,p1⟩:=zK4 I hs;have hl:its.toArray.size=ns.length:=by have:=rv.length;simp at this ⊢;omega
 have hpos:0<ns.length:=zYa hm;have hlt:=zTW p1;have hfp:∀ c∈[s.heap.objs.size,a],c<(s.heap.push (itO b a)).objs.size:=λc hc'=>by
  rw[zV4];simp only[zVa,zVt,zWj]at hc';rcases hc' with rfl|rfl
  .exact zWL _
  .exact zWD hlt
 have st:SI b (s.heap.push (itO b a)) s.heap.objs.size a 0/\SO b (s.heap.push (itO b a)) a its.toArray:=⟨zNj (zVY _ rfl),p1.keep λo e=>zVP _ e⟩;have kp:∀ h':Heap,(∀ c o,c∉[s.heap.objs.size]->(s.heap.push (itO b a)).get? c=some o->h'.get? c=some o) -> ∀ c o,s.heap.get? c=some o->h'.get? c=some o:=λh' hk c o e0=>
  hk c o (by simp only[zVa,zVt,zWj];exact zVj (zVZ e0)) (zVP _ e0)
 have fin:∀ (i:Nat) (v:Yu) (h':Heap) (tk:Nat),its.toArray[i]?=some v->ns.getD i 0=m->(∀ c o,s.heap.get? c=some o->h'.get? c=some o)->EP X zB σ Q v { s with heap:=h',toks:=tk }:=λi v h' tk hv hi hk=>by
  obtain ⟨t,rfl⟩:=zFx rv hv;rw[hi];exact ⟨.int m,H,I.kept hk,⟨t,rfl⟩,q⟩
 cases gt with
 |true=>
  refine call_max_walk (zMJ p1 ⟨s.heap.objs.size,[s.heap.objs.size,a],[s.heap.objs.size],its.toArray.size,λi v=>its.toArray[i]?=some v,λi h=>SI b h s.heap.objs.size a i/\SO b h a its.toArray,_,rfl,zPv (A:=X.A.in1) (I.ok.hd hc) b _ a (zVj hlt) its.toArray,st,hfp,by omega,CmpOf.ints_gt (λi=>ns.getD i 0) (λ_ _ hv=>zFx rv hv),λv h' tk hP hk=>?_⟩);refine fin _ v h' tk hP ?_ (kp h' hk);obtain ⟨h1,h2⟩:=argBest_gt (λi=>ns.getD i 0) (its.toArray.size-1);rw[hl]at h1 h2 ⊢;generalize argBest _ (ns.length-1)=q at h1 h2 ⊢;obtain ⟨j,hj,ej⟩:=List.mem_iff_getElem.mp hm;have h3:=h2 j (by omega);have e3:ns.getD j 0=m:=by rw[zVT,zVS hj];exact ej
  have hq:q<ns.length:=by omega
  have h4:ns.getD q 0<=m:=by
   have:=hb (ns.getD q 0) (by rw[zVT,zVS hq];exact zVw hq);simpa using this
  rw[e3]at h3;omega
 |false=>
  refine call_min_walk (zMJ p1 ⟨s.heap.objs.size,[s.heap.objs.size,a],[s.heap.objs.size],its.toArray.size,λi v=>its.toArray[i]?=some v,λi h=>SI b h s.heap.objs.size a i/\SO b h a its.toArray,_,rfl,zPv (A:=X.A.in1) (I.ok.hd hc) b _ a (zVj hlt) its.toArray,st,hfp,by omega,CmpOf.ints_lt (λi=>ns.getD i 0) (λ_ _ hv=>zFx rv hv),λv h' tk hP hk=>?_⟩);refine fin _ v h' tk hP ?_ (kp h' hk);obtain ⟨h1,h2⟩:=argBest_lt (λi=>ns.getD i 0) (its.toArray.size-1);rw[hl]at h1 h2 ⊢;generalize argBest _ (ns.length-1)=q at h1 h2 ⊢;obtain ⟨j,hj,ej⟩:=List.mem_iff_getElem.mp hm;have h3:=h2 j (by omega);have e3:ns.getD j 0=m:=by rw[zVT,zVS hj];exact ej
  have hq:q<ns.length:=by omega
  have h4:m<=ns.getD q 0:=by
   have:=hb (ns.getD q 0) (by rw[zVT,zVS hq];exact zVw hq);simpa using this
  rw[e3]at h3;omega
def zBR (gt:Bool):Int->List Int->Int
 |m,[]=>m
 |m,x::r=>zBR gt (if (if gt then m<x else x<m) then x else m) r
theorem zCJ (gt:Bool):∀ (r:Ye) (m:Int),zBR gt m r∈m::r /\ ∀ x∈m::r,if gt then x<=zBR gt m r else zBR gt m r<=x
 |[],m=>by
  refine ⟨by simp[zBR],λx hx=>?_⟩;have:x=m:=by simpa using hx
  subst this;cases gt <;> simp[zBR]
 |y::r,m=>by
  unfold zBR;obtain ⟨h1,h2⟩:=zCJ gt r (if (if gt then m<y else y<m) then y else m);generalize hb:zBR gt (if (if gt then m<y else y<m) then y else m) r=B at h1 h2;constructor
  .rcases zVa.mp h1 with q|q
   .rw[q];by_cases hc:(if gt=true then m<y else y<m)
    .rw[zVd hc];simp
    .rw[zVg hc];simp
   .simp[q]
  .intro x hx;have h0:=h2 _ zVc;rcases zVa.mp hx with q|q
   .subst q;cases gt with
    |true=>simp at h0 ⊢;split at h0 <;> omega
    |false=>simp at h0 ⊢;split at h0 <;> omega
   .rcases zVa.mp q with z|z
    .subst z;cases gt with
     |true=>simp at h0 ⊢;split at h0 <;> omega
     |false=>simp at h0 ⊢;split at h0 <;> omega
    .exact h2 x (zVb _ z)
def zBP (gt:Bool):KB:=λxs M=>match xs with
 |[.dat d]=>match zAQ M (.dat d) with
  |some ds=>match zAZ ds with
   |some (n::ns)=>some (.dat (.int (zBR gt n ns)),M)
   |_=>none
  |none=>none
 |[.fl ds]=>match zAZ ds with
  |some (n::ns)=>some (.dat (.int (zBR gt n ns)),M)
  |_=>none
 |_=>none
theorem zKK {K:Yb} {gt:Bool}:zEk K (λxs H Q=>∃ (b:Bool) (a:Yt) (ns:Ye) (m:Int),xs=[.ref a]/\SqG K b H a (ns.map V.int)/\m∈ns/\(∀ x∈ns,if gt then x<=m else m<=x)/\Q (.int m) H) (zBP gt):=by
 intro L M M' H H0 xs d vs Q c r hk q;unfold zBP at hk;split at hk
 .rename_i d0;split at hk
  .rename_i ds e1;split at hk
   .rename_i n ns e2;cases hk;obtain ⟨v,rfl,r1⟩:=r.one;have r1':Rep L H d0 v:=r1;obtain ⟨b,l,rfl,_,key⟩:=zLD c r1' e1;obtain ⟨vs',hq,rr⟩:=key L H M (.refl L H) c e1;have ev:=zC9 e2 rr;subst ev;obtain ⟨h1,h2⟩:=zCJ gt ns n;exact ⟨b,l,n::ns,zBR gt n ns,rfl,hq,h1,h2,q L H _ (.refl L H) c (zAF (L:=L) (H:=H))⟩
   .cases hk
  .cases hk
 .rename_i ds;split at hk
  .rename_i n ns e2;cases hk;obtain ⟨v,rfl,r1⟩:=r.one;obtain ⟨l,vs',rfl,hq,rr⟩:=zAw c r1 (show zBB M (.fl ds)=some ds from rfl);have ev:=zC9 e2 rr;subst ev;obtain ⟨h1,h2⟩:=zCJ gt ns n;exact ⟨false,l,n::ns,zBR gt n ns,rfl,.inl hq,h1,h2,q L H _ (.refl L H) c (zAF (L:=L) (H:=H))⟩
  .cases hk
 .cases hk
theorem zS9 (hcalm:X.calm=true) (hg:Gl X "max") (hm:X.mg "max" = none) (ha:QAE X [e] fa) (he:starEach [e] X.env=(false,eval e X.env)::starEach [] X.env:=by rfl) (hpl:(backTo pos (starEach [] X.env)).any (·.1)=false:=by rfl):QE X (.Call (.Name "max" p) [e] [] pos) (fB (zBP true) fa) :=
 zCT zKK (zHm true hcalm) (by rfl) hg hm ha (by decide) (by decide) he hpl
theorem zTV (hcalm:X.calm=true) (hg:Gl X "min") (hm:X.mg "min" = none) (ha:QAE X [e] fa) (he:starEach [e] X.env=(false,eval e X.env)::starEach [] X.env:=by rfl) (hpl:(backTo pos (starEach [] X.env)).any (·.1)=false:=by rfl):QE X (.Call (.Name "min" p) [e] [] pos) (fB (zBP false) fa) :=
 zCT zKK (zHm false hcalm) (by rfl) hg hm ha (by decide) (by decide) he hpl
end
section
def zKG (f:FE):FT:=λσ M=>match f σ M with
 |some (x,M1)=>match zAQ M1 x with
  |some xs=>some (!xs.isEmpty,M1)
  |none=>none
 |none=>none
theorem zQs (h:QE X a f) (he:∀ whole,isTrue a X.env whole=(do let v <- whole;standAt a.pos;holding [v] (truthy v)):=by intro _;rfl):QT X a (zKG f) :=
 .mk <| PT.imp (zNo h.un he) λτ H Q zz=>by
  obtain ⟨L,σ,M,d,M',c,rs,hf,q⟩:=zz;unfold zKG at hf;split at hf
  .rename_i x M1 e1;split at hf
   .rename_i xs e2;cases hf;refine ⟨L,σ,M,_,_,c,rs,e1,λL1 H1 v s1 c1 r1=>⟨!xs.isEmpty,?_,q L1 H1 s1 c1⟩⟩;unfold zAQ at e2;have emp:∀ {vs:List V},zL L1 H1 xs vs->(!xs.isEmpty) = !vs.isEmpty:=λ{vs} r=>by
     have:=r.length;cases xs <;> cases vs <;> first|rfl|simp at this
    cases t:zDK x with
    |some ws=>
     rw[t]at e2;cases e2;obtain ⟨l,vs,rfl,e3,r3⟩:=zB1 r1 t;exact .inr (.inl ⟨vs,.of e3,emp r3⟩)
    |none=>
     rw[t]at e2;obtain ⟨l,vs,rfl,e3,r3⟩:=zAw c1 r1 e2;exact .inl ⟨vs,.inl e3,emp r3⟩
   .cases hf
  .cases hf
def zHF (f:FE):FE:=λσ M=>match f σ M with
 |some (.dat (.ref n),M1)=>match M1[n]? with
  |some (.lst xs)=>match xs[xs.length-1]? with
   |some d=>some (.dat d,M1.set n (.lst xs.dropLast))
   |none=>none
  |_=>none
 |_=>none
theorem zGs (h:zL L H ds vs):zL L H ds.dropLast vs.dropLast:=by
 have:=h.eraseIdx (ds.length-1);rw[zEM]at this;have hl:=h.length;rw[<-hl,zEM]at this;exact this
theorem zTF (h:QE X o f) (hbase:attributeBase o "pop" X.env (eval o X.env)=eval o X.env:=by rfl) (hline:(apos.endLine==cpos.line)=true:=by rfl):QE X (.Call (.Attribute o "pop" apos) [] [] cpos) (zHF f) :=
 .mk <| PE.imp (zSL PySem.F.plainAttrs_list PySem.F.slot_list_pop PySem.F.type_list_pop zTB h.un hbase hline) λτ H Q zz=>by
  obtain ⟨L,σ,M,d,M',c,rs,hf,q⟩:=zz;unfold zHF at hf;split at hf
  .rename_i n M1 e1;split at hf
   .rename_i xs e2;split at hf
    .rename_i d' e3;cases hf;refine ⟨L,σ,M,_,_,c,rs,e1,λL1 H1 v s1 c1 r1=>?_⟩;unfold zf Rep at r1;obtain ⟨l,rfl,e4⟩:=r1;obtain ⟨ws,e5,r5⟩:=c1.obj n l _ e4 e2;obtain ⟨u,e6,r6⟩:=r5.get e3;obtain ⟨c5,s5⟩:=c1.write e4 e2 (zGs r5);refine ⟨.inl ⟨rfl,⟨ws,.of e5⟩⟩,l,ws,u,rfl,rfl,e5,by rw[r5.length];exact e6,q L1 _ _ (s1.trans s5) c5 (r6.stp s5)⟩
    .cases hf
   .cases hf
  .cases hf
def zNO (i j k:Nat):FG:=λd σ=>match d with
 |.tup [x,y,z]=>some (((σ.set i (some x)).set j (some y)).set k (some z))
 |_=>none
abbrev gP3 (K:Yb) (i j k:Nat):TG:=zOp K 3 (zD3 (zBS i) (zD3 (zBS j) (zD3 (zBS k) zOb)))
theorem zUc (r:zL L H [x,y,z] vs):∃ v1 v2 v3,vs=[v1,v2,v3]/\Rep L H x v1/\Rep L H y v2/\Rep L H z v3:=by
 unfold zL at r;obtain ⟨v1,r',rfl,h1,r⟩:=r;obtain ⟨v2,v3,rfl,h2,h3⟩:=r.two;exact ⟨v1,v2,v3,rfl,h1,h2,h3⟩
theorem zRU {K:Yb} {i j k:Nat}:GOk (gP3 K i j k) (zNO i j k):=by
 intro L H σ σ' τ d v Q rs r hf q;unfold zNO at hf;split at hf
 .rename_i x y z;cases hf;unfold Rep at r;obtain ⟨a,vs,rfl,e,r⟩:=r;obtain ⟨v1,v2,v3,rfl,r1,r2,r3⟩:=zUc r;exact ⟨a,_,rfl,.of e,rfl,v1,[v2,v3],rfl,v2,[v3],rfl,v3,[],rfl,rfl,q _ (((rs.set r1).set r2).set r3)⟩
 .cases hf
theorem zMR:zBT X (.builtin "len") (λxs H Q=>∃ (p:Addr) (kvs:List (Key × V)),xs=[.ref p]/\H p=some (.dK kvs)/\Q (.int kvs.length) H):=by
 intro zB s σ H xs us Q I r h;obtain ⟨p,kvs,rfl,hx,q⟩:=h;obtain ⟨u,rfl,rx⟩:=zCo r;cases rx;have hn:=zD6;obtain ⟨hz,hS,vs,r',m⟩:kvs.length<=sizeLine/\(p==sysModules)=false /\ ∃ vs,KV kvs vs/\s.heap.DictOf (zAE X.prog X.w) p vs:=I.hok p _ hx;have hlen:kvs.length=vs.length:=Paired.length r';exact call_len_dict hS m (by omega) ⟨.int kvs.length,H,I.tok _,⟨s.toks+1,by rw[hlen]⟩,q⟩
def zHe:KB:=λxs M=>match xs with
 |[.dat (.ref n)]=>match M[n]? with
  |some (.dict kvs)=>some (.dat (.int kvs.length),M)
  |_=>none
 |_=>none
theorem zPS {K:Yb}:zEk K (λxs H Q=>∃ (p:Yt) (kvs:List (Key × V)),xs=[.ref p]/\H p=some (.dK kvs)/\Q (.int kvs.length) H) zHe:=by
 intro L M M' H H0 xs d vs Q c r hk q;unfold zHe at hk;split at hk
 .rename_i n;split at hk
  .rename_i kvs e1;cases hk;obtain ⟨v,rfl,r1⟩:=r.one;unfold zf Rep at r1;obtain ⟨a,rfl,e2⟩:=r1;obtain ⟨ws,e3,r3⟩:=c.obj n a _ e2 e1;have hl:=r3.length;refine ⟨a,ws,rfl,e3,?_⟩;have:=q L H (.int kvs.length) (.refl L H) c (zAF (L:=L) (H:=H));rw[<-hl]at this;exact this
  .cases hk
 .cases hk
theorem zTA (hg:Gl X "len") (hm:X.mg "len" = none) (ha:QAE X [e] fa) (he:starEach [e] X.env=(false,eval e X.env)::starEach [] X.env:=by rfl) (hpl:(backTo pos (starEach [] X.env)).any (·.1)=false:=by rfl):QE X (.Call (.Name "len" p) [e] [] pos) (fB zHe fa) :=
 zCT zPS zMR PySem.boot_len hg hm ha (by decide) (by decide) he hpl
end
section
theorem zPy {its:List Value} {i:Int} (e:s.heap.get? l=some { cls:=.type "list", data:=.seq its.toArray n }) (hfit:¬ (!Builtin.List.listFitsIndex i)=true) (h0:¬ (i<0)) (hz:its.toArray.size<=sizeLine)
  (h:∀ g:Array Value->Array Value,g its.toArray=(its.take (min i.toNat its.length)++[u2]++its.drop (min i.toNat its.length)).toArray->Q .none { s with heap:=s.heap.update l (Obj.mapSeq g),toks:=s.toks }) :
  wpAny (model prog w) A (call (.builtin "list.insert") [.ref l,.int i t,u2]) Q E s:=by
 have hm:=@AutoSeq1.list_insert_list_int_val_1 l its.toArray n i t u2 hfit hz;have h1:s.TypeIs (.ref l) "list" := ⟨_,e,rfl⟩;refine call_meets (B:=Builtin.«list.insert») (self:=.ref l) (rest:=[.int i t,u2]) F.slot_list_insert h1 F.entry_list_insert (F.args_list_insert_3 _ _ _) hm ⟨e,?_⟩;refine h _ ?_;simp only[h0,if_false,zVW];simp;exact List.take_of_length_le (by simp)
end
section
def zMG:V->List V->Hp->VK->Prop:=λx vs H Q=>∃ (l:Yt) (i:Int) (y:V) (xs:List V),x=.ref l/\vs=[.int i,y]/\H l=some (.lst xs)/\0<=i/\i.toNat<=xs.length/\xs.length<sizeLine/\Q .non (upd H l (.lst (xs.take i.toNat++[y]++xs.drop i.toNat)))
theorem zMu:MtM X "list.insert" zMG:=by
 intro zB s σ H x vs v us Q I rx rv h;obtain ⟨l,i,y,xs,rfl,rfl,hH,h0,hi,hz,q⟩:=h;cases rx;obtain ⟨u,u2,rfl,⟨t,rfl⟩,ru2⟩:=rv.two;obtain ⟨z,its,n,r,hl,e⟩:=I.lstM hH;have hs:(sizeLine:Nat)<2 ^ 62:=by decide
 have hi1 : -(2 ^ 63)<=i:=by omega
 have hi2:i<2 ^ 63:=by omega
 refine zPy (its:=its) e (by rw[fitsIndex_both hi1 hi2];exact zVk) (by omega) (by rw[zVW,<-hl];exact zYK hz) λg hg=>?_;rw[Nat.min_eq_left (by omega)]at hg;exact ⟨.non,_,I.lset (its':=its.take i.toNat++[u2]++its.drop i.toNat) (ys:=xs.take i.toNat++[y]++xs.drop i.toNat) hH e hg (((r.take i.toNat).append (.cons ru2 .nil)).append (r.drop i.toNat)) (by simp;omega),rfl,q⟩
def zDw:KM:=λx ds M=>match x,ds with
 |.dat (.ref n),[.int i,d]=>match M[n]? with
  |some (.lst xs)=>if 0<=i/\i.toNat<=xs.length/\xs.length<sizeLine then some (.non,M.set n (.lst (xs.take i.toNat++[d]++xs.drop i.toNat))) else none
  |_=>none
 |_,_=>none
theorem zHX:∀ (k:Nat) {ds:List D} {vs:List V},zL L H ds vs->zL L H (ds.take k) (vs.take k)
 |0,_,_,_=> .nil
 |k+1,[],vs,h=>by unfold zL at h;subst h;exact .nil
 |k+1,d::ds,vs,h=>by
  unfold zL at h;obtain ⟨v,r,rfl,h1,h2⟩:=h;exact .cons h1 (zHX k h2)
theorem zHg:∀ (k:Nat) {ds:List D} {vs:List V},zL L H ds vs->zL L H (ds.drop k) (vs.drop k)
 |0,_,_,h=>h
 |k+1,[],vs,h=>by unfold zL at h;subst h;exact .nil
 |k+1,d::ds,vs,h=>by
  unfold zL at h;obtain ⟨v,r,rfl,h1,h2⟩:=h;exact zHg k h2
theorem zK2 {K:Yb}:zN8 K zMG zDw:=by
 intro L M M' H H0 x ds d v vs Q c rx rd hk q;unfold zDw at hk;split at hk
 .rename_i n i d';split at hk
  .rename_i xs e1;split at hk
   .rename_i hz;cases hk;unfold zf Rep at rx;obtain ⟨a,rfl,e2⟩:=rx;obtain ⟨ws,e3,r3⟩:=c.obj n a _ e2 e1;obtain ⟨w1,w2,rfl,r4,r5⟩:=rd.two;have hw:w1=.int i:=by unfold Rep at r4;exact r4
    subst hw;obtain ⟨c5,s5⟩:=c.write e2 e1 (((zHX i.toNat r3).app (.cons r5 .nil)).app (zHg i.toNat r3));exact ⟨a,i,w2,ws,rfl,rfl,e3,hz.1,by rw[r3.length];exact hz.2.1,by rw[r3.length];exact hz.2.2,q L _ _ s5 c5 (by unfold Rep;rfl)⟩
   .cases hk
  .cases hk
 .cases hk
theorem zOu (h:QE X a f) (hg:QA X [x1,x2] fg) (hbase:attributeBase a "insert" X.env (eval a X.env)=eval a X.env:=by rfl)
  (hfew:((backTo cpos (starEach [x1,x2] X.env)).all (λx=> !x.1)&&(backToKw cpos (keywordEach [] X.env)).all (λx=>x.1.isSome)&&decide ([x1,x2].length+([]:List Keyword).length+(if ([]:List Keyword).isEmpty then 0 else 1)<30))=true:=by rfl)
  (hline:(apos.endLine==cpos.line)=true:=by rfl) (hs:starEach [x1,x2] X.env=(false,eval x1 X.env)::starEach [x2] X.env:=by rfl) (hplain:(backTo cpos (starEach [x2] X.env)).any (·.1)=false:=by rfl) :
  QE X (.Call (.Attribute a "insert" apos) [x1,x2] [] cpos) (fM zDw f fg) :=
 .mk <| PE.imp (zJu PySem.F.plainAttrs_list PySem.F.slot_list_insert PySem.F.type_list_insert zMu h.un hg.un hbase hfew hline hs hplain) λ_ _ _ z=>zIA zK2 z
end
def zIo (fg:FG) (tc:FT) (fi2:FI) (own2:Yj) (fg2:FG) (tc2:FT) (te:FE) (σ:Sd) (all:List D) (gd:Option (Mem->Prop)):List D->List D->Mem->Option (List D × Mem)
 |[],acc,M=>open Classical in if zAo gd all M then some (acc,M) else none
 |x::r,acc,M=>open Classical in if zAo gd all M then match fg x σ with
   |some σ1=>match tc σ1 M with
    |some (true,M1)=>match fi2 σ1 M1 with
     |some (ys,gd2,M2)=>if acc.length+ys.length<=sizeLine then match zAk fg2 tc2 te (zA2 own2 σ1) ys gd2 ys M2 with
       |some (ds,M3)=>zIo fg tc fi2 own2 fg2 tc2 te σ all gd r (acc++ds) M3
       |none=>none
      else none
     |none=>none
    |some (false,M1)=>zIo fg tc fi2 own2 fg2 tc2 te σ all gd r acc M1
    |none=>none
   |none=>none
  else none
def zEy (own own2:Yj) (fi:FI) (fg:FG) (tc:FT) (fi2:FI) (fg2:FG) (tc2:FT) (te:FE):FE:=λσ M=>match fi σ M with
 |some (xs,gd,M1)=>match zIo fg tc fi2 own2 fg2 tc2 te (zA2 own σ) xs gd xs [] M1 with
  |some (ys,M2)=>some (.fl ys,M2)
  |none=>none
 |none=>none
theorem zK3 {K:Yb} {own own2:Yj} {fi fi2:FI} {g g2:TG} {fg fg2:FG} {tc tc2:FT} {te:FE} (hg:zEL own g fg) (hg2:zEL own2 g2 fg2) {τ:Sv} {H:Hp} {Q:VK} (h:trE K (zEy own own2 fi fg tc fi2 fg2 tc2 te) τ H Q) :
  zPx own own2 (trI K fi) g (trT K tc) (trI K fi2) g2 (trT K tc2) (trD K (toD te)) τ H Q:=by
 obtain ⟨L,σ,M,d,Mf,c,rs,hf,q⟩:=h;unfold zEy at hf;split at hf
 .rename_i xs gd M1 e1;split at hf
  .rename_i zs M2 e2;cases hf;refine ⟨L,σ,M,_,_,_,c,rs,e1,λL1 H1 J s1 c1 it=>?_⟩
   refine ⟨λi m ys H'=>m=xs.length-i/\i<=xs.length /\ ∃ L' M' as,Stp L1 H1 L' H'/\Cor K L' M' H'/\zL L' H' as ys/\as.length<=sizeLine/\zIo fg tc fi2 own2 fg2 tc2 te (zA2 own σ) xs gd (xs.drop i) as M'=some (zs,Mf),
    ⟨xs.length,by simp,zWA _,L1,M1,[],.refl _ _,c1,.nil,zWA _,by simpa using e2⟩,?_⟩
   rintro i m ys H' ⟨rfl,hi,L',M',as,s',c',r',hl,e'⟩;by_cases hlt:i<xs.length
   .rw[zB4 hlt]at e';unfold zIo at e';split at e'
    .rename_i hgd;obtain ⟨step,_⟩:=it L' H' M' s' c' hgd;obtain ⟨go,yl⟩:=step i xs[i] (zVS hlt);split at e'
     .rename_i σ1 eg;refine .inr ⟨go,λv H2 hy=>?_⟩;obtain ⟨gr,rv⟩:=yl v H2 hy;have s2:Stp L1 H1 L' H2:=s'.yld gr;refine hg (zDq own ((rs.stp s1).stp s2)) (.refl _) rv eg λτ2 r2 x2=>⟨x2,?_⟩;split at e'
      .rename_i M3 e3;split at e'
       .rename_i ys2 gd2 M4 e4;split at e'
        .rename_i hz2;split at e'
         .rename_i ds M5 e5;refine ⟨L',σ1,M',_,_,c'.grow gr,r2,e3,λL3 H3 s3 c3=>zHC ?_⟩;have st3:Stp L' H' L3 H3:=(Stp.grow gr).trans s3;refine ⟨L3,σ1,M3,_,_,_,c3,r2.stp s3,e4,λL4 H4 J2 s4 c4 it2=>?_⟩
          refine ⟨λj m2 ws H5=>m2=ys2.length-j/\j<=ys2.length /\ ∃ L5 M6 bs cs,Stp L4 H4 L5 H5/\Cor K L5 M6 H5/\zL L5 H5 (as++bs) ws/\bs.length<=j/\zAk fg2 tc2 te (zA2 own2 σ1) ys2 gd2 (ys2.drop j) M6=some (cs,M5)/\bs++cs=ds,
           ⟨ys2.length,by simp,zWA _,L4,M4,[],ds,.refl _ _,c4,by simpa using (r'.stp st3).stp s4,zVU _,by simpa using e5,rfl⟩,?_⟩
          rintro j m2 ws H5 ⟨rfl,hj,L5,M6,bs,cs,s5,c5,r5,hbl,e6,hbc⟩;have hws:ws.length<=as.length+j:=by rw[r5.length,zVe];omega
          by_cases hlt2:j<ys2.length
          .rw[zB4 hlt2]at e6;unfold zAk at e6;split at e6
           .rename_i hgd2;obtain ⟨step2,_⟩:=it2 L5 H5 M6 s5 c5 hgd2;obtain ⟨go2,yl2⟩:=step2 j ys2[j] (zVS hlt2);split at e6
            .rename_i σ2 eg2;refine .inr ⟨go2,λv2 H6 hy2=>?_⟩;obtain ⟨gr2,rv2⟩:=yl2 v2 H6 hy2;have s6:Stp L4 H4 L5 H6:=s5.yld gr2;refine hg2 (zDq own2 (((r2.stp s3).stp s4).stp s6)) (.refl _) rv2 eg2 λτ3 r3 x3=>⟨x3,?_⟩;split at e6
             .rename_i M7 e7;split at e6
              .rename_i d M8 e8;split at e6
               .rename_i ds' M9 e9;cases e6;refine ⟨L5,σ2,M6,_,_,c5.grow gr2,r3,e7,λL7 H7 s7 c7=>zHC ?_⟩;refine ⟨L7,σ2,M7,_,_,c7,r3.stp s7,e8,λL8 H8 w s8 c8 r8=>?_⟩;have st:Stp L5 H5 L8 H8:=((Stp.grow gr2).trans s7).trans s8;refine ⟨by omega,ys2.length-(j+1),by omega,rfl,hlt2,L8,M8,bs++[d],ds',s5.trans st,c8,?_,by simp;omega,e9,by rw[<-hbc];simp⟩;have:=(r5.stp st).app (.cons r8 .nil);simpa using this
               .cases e6
              .cases e6
             .rename_i M7 e7;refine ⟨L5,σ2,M6,_,_,c5.grow gr2,r3,e7,λL7 H7 s7 c7=>zGv ?_⟩;have st:Stp L5 H5 L7 H7:=(Stp.grow gr2).trans s7;exact ⟨ys2.length-(j+1),by omega,rfl,hlt2,L7,M7,bs,cs,s5.trans st,c7,r5.stp st,by omega,e6,hbc⟩
             .cases e6
            .cases e6
           .cases e6
          .have hj':j=ys2.length:=by omega
           subst hj';rw[List.drop_length]at e6;unfold zAk at e6;split at e6
           .rename_i hgd2;cases e6;obtain ⟨_,stop2⟩:=it2 L5 H5 _ s5 c5 hgd2;rw[zV8]at hbc;subst hbc;refine .inl ⟨stop2,xs.length-(i+1),by omega,rfl,hlt,L5,M5,as++bs,s'.trans ((st3.trans s4).trans s5),c5,r5,by rw[zVe];omega,e'⟩
           .cases e6
         .cases e'
        .cases e'
       .cases e'
      .rename_i M3 e3;refine ⟨L',σ1,M',_,_,c'.grow gr,r2,e3,λL3 H3 s3 c3=>zGv ?_⟩;have st:Stp L' H' L3 H3:=(Stp.grow gr).trans s3;exact ⟨xs.length-(i+1),by omega,rfl,hlt,L3,M3,as,s'.trans st,c3,r'.stp st,hl,e'⟩
      .cases e'
     .cases e'
    .cases e'
   .have hi':i=xs.length:=by omega
    subst hi';rw[List.drop_length]at e';unfold zIo at e';split at e'
    .rename_i hgd;cases e';obtain ⟨_,stop⟩:=it L' H' _ s' c' hgd;refine .inl ⟨stop,by rw[r'.length];exact hl,λp hp=>?_⟩;exact q L' _ _ ((s1.trans s').trans (.upd hp)) (c'.upd hp) (zf.newLst (s1.trans s') c c' hp r')
    .cases e'
  .cases hf
 .cases hf
section
structure QParts2 (X:Cx) (scope:Y0) (t1:Expr) (f1:Yi) (t2 i2:Expr) (f2:Yi) (elt:Expr) (g:TG) (tc:FT) (fi2:FI) (g2:TG) (tc2:FT) (te:FE):Prop where
 g:∀ zB cl s H fp,PG (zH X zB scope cl s H fp) t1 g
 c:∀ zB cl s H fp,QIfs (zH X zB scope cl s H fp) f1 tc
 w2:∀ zB cl s H fp,QI (zH X zB scope cl s H fp) t2 i2 fi2
 g2:∀ zB cl s H fp,PG (zH X zB scope cl s H fp) t2 g2
 c2:∀ zB cl s H fp,QIfs (zH X zB scope cl s H fp) f2 tc2
 e:∀ zB cl s H fp,QE (zH X zB scope cl s H fp) elt te
 s2:∀ zB cl s H fp x,foldedSetIterable i2 (zH X zB scope cl s H fp).env x=pure x
theorem zQ9 {own own2:Yj} {fi fi2:FI} {g g2:TG} {fg fg2:FG} {tc tc2:FT} {te:FE} (hsub:∀ i∈own2,i∈own) (hg:zEL own g fg) (hg2:zEL own2 g2 fg2) (C:CompIn X scope own) (hcalm:X.calm=true) (hi:QI X t1 i1 fi) (p:QParts2 X scope t1 f1 t2 i2 f2 elt g tc fi2 g2 tc2 te) (hs:∀ x,foldedSetIterable i1 X.env x=pure x:=by intro _;rfl) :
  QE X (zBC elt t1 i1 f1 t2 i2 f2 scope pos) (zEy own own2 fi fg tc fi2 fg2 tc2 te) :=
 .mk <| PE.imp (zPi hsub C hcalm hi.un ⟨p.g,λzB cl s H fp=>(p.c zB cl s H fp).un,λzB cl s H fp=>(p.w2 zB cl s H fp).un,p.g2,λzB cl s H fp=>(p.c2 zB cl s H fp).un,λzB cl s H fp=>(zBx (p.e zB cl s H fp)).un,p.s2⟩ hs) λ_ _ _ h=>zK3 hg hg2 h
end
end L3
namespace L2
open PySem PySem.Spec PyProof.Rows
section
theorem zGW (hN:X.N.Nodup) (hi':X.N[i]?=some x) (hx:Loc X.env.scope x) (hfn:X.fn x=true\/X.env.scope.names.lookup x=some .local)
  (hsw:swapsWith (.DictComp kx vx [⟨tg,iter,ifs,0⟩] scope pos) (some (.Name x pos')) pos''.line X.env=pure true)
  (hu:X.A.units+1<cLine) (C:CompIn X scope own) (hcalm:X.calm=true) (hi:PI X tg iter wi) (p:CompParts X scope tg ifs kx g tc tk) (p2:∀ zB cl s H fp,PE (zH X zB scope cl s H fp) vx tv) (hs:∀ x,foldedSetIterable iter X.env x=pure x:=by intro _;rfl) :
  PS X (.Assign [.Name x pos'] (.DictComp kx vx [⟨tg,iter,ifs,0⟩] scope pos) pos'') (zOE (zFE isT own wi g tc tk tv) (zBS i)):=by
 intro zB s σ H D I h;obtain ⟨cl,hcl,c1,c2⟩:=C.sc.closure I;rw[exec_Assign_Name_used _ _ _ _ hsw];refine zVO (zWM (zVO ?_));show wpAny _ X.A (do let _ <- comprehension (.DictComp kx vx [⟨tg,iter,ifs,0⟩] scope pos) scope X.env _ newDict false (eval iter X.env) (some (assign (.Name x pos') X.env))) _ _ s
 refine zVO (zVu (zXI (use:=some (assign (.Name x pos') X.env)) (Q:=λ_ s'=>SP X zB D .next s') rfl hs hcl C.sc.kind C.sc.names
  (thn (hi zB s σ H _ I h) λv s1 h1=>thn h1 λitv s2 h2=>?_)) (λ_ s' hq=>zVQ (zVQ hq)) λ_ _ e=>e)
 obtain ⟨it,fp,tn,J,H2,e,I2,T,st2,f2,hD⟩:=h2;subst e;obtain ⟨W,⟨m0,w0⟩,turn⟩:=hD s2.heap.objs.size (I2.hok.fresh (zVU _))
 refine zDL hu C hcalm I2 T st2 f2 c1 c2 (p.g _ _ _ _ _) (p.c _ _ _ _ _) (p.e _ _ _ _ _) (p2 _ _ _ _ _) (RR:=λacc C r s'=>compPost (model X.prog X.w) X.A X.xe (some (assign (.Name x pos') X.env)) (λ_ s'=>SP X zB D .next s') acc C r s')
  (QQ:=λH=>zBS i (.ref s2.heap.objs.size) σ H D.nx) w0 turn ?_
 intro σc H' s' Ic qq;obtain ⟨m,hn,_⟩:=Ic.loc;have J':=zD4 (h':=s'.heap) I2 f2 Ic (.refl ..);obtain ⟨oC,es,ep,hoC,hdC,r1,r2⟩:=id hn;have nC:H' (s2.heap.objs.size+1)=none:=Ic.free;have K':Inv X (zB++[(s2.heap.objs.size+1,oC)]) σ H' s':=J'.pins_of λq hq=>by
  rcases zVo.mp hq with z|z
  .exact J'.pin q (zVi _ z)
  .have e:q=(s2.heap.objs.size+1,oC):=by simpa using z
   subst e;refine ⟨hoC,nC,zWt (zWD I2.lt),I2.nofs (zW6 _),λv z=>?_⟩;have z':oC.data=.cell v:=z;rw[hdC]at z';cases z'
 show wpAny _ X.A (assign (.Name x pos') X.env (.ref s2.heap.objs.size)) _ _ _;refine thn (zIZ hN hi' hx hfn _ s' σ _ (.ref s2.heap.objs.size) (.ref s2.heap.objs.size) _ K' rfl qq) λ_ s'' ⟨σ'',H'',I'',q''⟩=>?_;obtain ⟨eC,_⟩:=I''.pin (s2.heap.objs.size+1,oC) (by simp);refine ⟨m,⟨oC,es,ep,eC,hdC,r1,r2⟩,λh' hs'=>⟨σ'',H'',?_,q''⟩⟩;have I3:Inv X zB σ'' H'' s'':=I''.unpinned;obtain ⟨_,nC'',neC,_,_⟩:=I''.pin (s2.heap.objs.size+1,oC) (by simp);refine I3.turned (t':=s''.toks) (it:=s2.heap.objs.size+1) (λb o hb e=>hs'.extBut b o hb e) nC'' neC (.inr (zVp I2.sz (zW6 _))) (λx c e z=>?_) (λq hq z=>?_)
 .obtain ⟨v,o,ho,hd⟩:=I3.cell x c e;rw[z,eC]at ho;cases ho;rw[hdC]at hd;cases hd
 .obtain ⟨e,_⟩:=I2.pin q hq;exact zVj (zWD (zVZ e)) z
end
end L2
namespace L3
open PySem PySem.Spec PyProof.Rows L2
section
variable {isT:Bool}
theorem zKl (hN:X.N.Nodup) (hi':X.N[i]?=some x) (hx:Loc X.env.scope x) (hfn:X.fn x=true\/X.env.scope.names.lookup x=some .local)
  (hsw:swapsWith (.DictComp kx vx [⟨tg,iter,ifs,0⟩] scope pos) (some (.Name x pos')) pos''.line X.env=pure true)
  (hu:X.A.units+1<cLine) (hg:zEL own g fg) (C:CompIn X scope own) (hcalm:X.calm=true) (hi:QI X tg iter fi) (p:QParts X scope tg ifs kx g tc tk) (p2:∀ zB cl s H fp,QE (zH X zB scope cl s H fp) vx tv) (hs:∀ x,foldedSetIterable iter X.env x=pure x:=by intro _;rfl) :
  QS X (.Assign [.Name x pos'] (.DictComp kx vx [⟨tg,iter,ifs,0⟩] scope pos) pos'') (zh i (zCf isT own fi fg tc tk tv)) :=
 .mk <| PS.imp (zGW (isT:=isT) hN hi' hx hfn hsw hu C hcalm hi.un p.parts (λ_ _ _ _ _=>(zBx (p2 _ _ _ _ _)).un) hs) λ_ _ _ z=>zF7 (λ_ _ _ z=>zFk hg z) z
end
end L3
namespace L2
open PySem PySem.Spec PyProof.Rows
end L2
namespace L3
open PySem PySem.Spec PyProof.Rows L2
open SeqAt
structure Df (K:Yb) (mg:Yh) (x:Str) (st:Stmt) (ps:Yk) where
 f:Addr
 fd:FuncData
 F:Fun K x x st f fd
 b:zF1 K fd ps []
 m:mg x=some (.ref f)
structure Dg (K:Yb) (x:Str) (st:Stmt) where
 f:Addr
 {od an:Option Addr}
 {sl:Array (Option Value)}
 {oc kV dc pm cd ct:Yu}
 a:PySem.W.nsIn K mainGlobals x=some (some (.ref f))
 l:K.lookup f=some ⟨oc,od,.func (PySem.W.fnOf x x (zDx st) (zCQ st) (zR st) .none kV dc pm an cd ct),sl⟩
 c:PySem.W.codeIn K cd x=true
 k:PySem.W.keepIn K (.ref f)=true
abbrev Dg.df {K:Yb} {x:Str} {st:Stmt} {ps:Yk} {h:Heap} {mg:Yh} (g:Dg K x st) (X:K.In h) (G:h.Ns mainGlobals mg)
  (hb:∀ (kV doc pm:Yu) (an:Option Addr) (cdv ct:Yu) (us:Yf),us.length=ps.length->bindArgs (PySem.W.fnOf x x (zDx st) (zCQ st) (zR st) .none kV doc pm an cdv ct) ⟨us,[]⟩=pure (ps.zip us)):Df K mg x st ps :=
 ⟨g.f,_,zOL g.l g.c g.k,(zOL g.l g.c g.k).binds hb,PySem.W.mg_of X G g.a⟩
abbrev Od (P:Ym) (w:Yo) (base:Heap) (k:Nat) {K:Yb} {mg:Yh} {x:Str} {st:Stmt} {ps:Yk} (d:Df K mg x st ps) (m:FF):Prop:=FnOk P w K mg base CX0 k d.f d.fd ps (spF K ps.length m)
abbrev Zn (K:Yb) (x:Str):Prop:=PySem.W.nsIn K mainGlobals x=some none
abbrev Ki (K:Yb) (t T:String) (b:Bool):Prop:=PySem.W.kitOne K (.type t) (.type T)=some b
theorem zF8 {P:List Value->Prop} (h:∀ a,P [a]):∀ us:List Value,us.length=1->P us
 |[a],_=>h a
theorem zKx {P:List Value->Prop} (h:∀ a b,P [a,b]):∀ us:List Value,us.length=2->P us
 |[a,b],_=>h a b
theorem zNF {P:List Value->Prop} (h:∀ a b c,P [a,b,c]):∀ us:List Value,us.length=3->P us
 |[a,b,c],_=>h a b c
theorem zU0 {P:List Value->Prop} (h:∀ a b c d,P [a,b,c,d]):∀ us:List Value,us.length=4->P us
 |[a,b,c,d],_=>h a b c d
section
variable {st:Stmt}
theorem zUq {d:Df X.K X.mg x st ps} (F:FnOk X.prog X.w X.K X.mg X.base CX0 k d.f d.fd ps (spF X.K (e::es).length g)) (hr:Room k X.A) (hg:Gl X x)
  (ha:QA X (e::es) fa) (hl:∀ σ M ds M1,fa σ M=some (ds,M1)->ds.length=(e::es).length) (hdb:(x==("__debug__" : Str))=false) (he:starEach (e::es) X.env=(false,eval e X.env)::starEach es X.env) (hpl:(backTo pos (starEach es X.env)).any (·.1)=false) :
  QE X (.Call (.Name x p) (e::es) [] pos) (zP g fa):=zST F hr hg d.m d.F.kp d.b ha hl hdb he hpl
theorem zVF (hN:X.N.Nodup) (hi:X.N[i]?=some x) (h:QE X e f) (hx:Loc X.env.scope x:=by first|exact Or.inl rfl|exact Or.inr rfl) (hs:swapsWith e (some (.Name x pos')) pos.line X.env=pure false:=by rfl)
  (hf:X.fn x=true\/X.env.scope.names.lookup x=some .local:=by first|exact .inl rfl|exact .inr rfl|assumption):QS X (.Assign [.Name x pos'] e pos) (zh i f):=zUU hN hi hx h hs hf
theorem zT6 (hN:X.N.Nodup) (hi:X.N[i]?=some x) (hx:Loc X.env.scope x:=by first|exact Or.inl rfl|exact Or.inr rfl) (hf:X.fn x=true\/X.env.scope.names.lookup x=some .local:=by first|exact .inl rfl|exact .inr rfl|assumption):PG X (.Name x pos) (zBS i):=zIZ hN hi hx hf
end
section
theorem zMd (hv:s.heap.IsItemsView v d) (ho:s.heap.get? d=some o) (hdat:o.data=.dict es ep)
  (hQ:Q (.ref s.heap.objs.size) { s with heap:=s.heap.push { cls:=.type "dict_itemiterator", data:=.fields #[.none,.bool false,.ref d,.int 0 0,.int es.size 0,.int ep 0,.none,.none] } }):wpAny (model prog w) A (pyIter (.ref v)) Q E s:=by
 obtain ⟨q,hq,_,hd⟩:=id hv;refine wpAny_pyIter_slot hv.typeIs F.slot_dict_items_iter (zV1 F.slot_dict_items_iter hv.typeIs F.entry_dict_items_iter ?_ (F.args_dict_items_iter_1 _));unfold Builtin.«dict_items.__iter__»;refine zVO (zVQ (zVO ?_));unfold Builtin.Dict_items.dictOf;refine zVO (zV3 hq hd (x:=.ref d) rfl (zVQ (zVO ?_)));unfold Builtin.Dict_items.newIterator;refine zVO (wpAny_dictEntries ho hdat (zVO (wpAny_dictEpoch ho hdat ?_)));simp only[show Builtin.Dict_items.ownsTuple "dict_itemiterator" = true by decide,if_true];refine zVr (zVQ ⟨_,rfl, "dict_itemiterator", _,⟨_,zVY _ rfl,rfl⟩,F.slot_dict_itemiterator_next.lookup,?_⟩) (by simp only[sizeOk,Builtin.Dict_items.ownedTupleFields,zVW,zVe,zVv,List.length_nil,sizeLine_eq];omega);simpa [rawInt,Builtin.Dict_items.ownedTupleFields] using hQ
theorem zF2 (hh:A.handled=none) (hit:IsItemIter s.heap it d i es.size ep ok ov) (hod:s.heap.get? d=some o) (hdd:o.data=.dict es ep) (hge:es.size<=i)
  (hQ:∀ h',Heap.ExtBut it s.heap h'->Q none { s with heap:=h' }):wpAny (model prog w) A (pyNext (.ref it)) Q E s:=by
 have hT:s.TypeIs (.ref it) "dict_itemiterator" := ⟨_,hit,rfl⟩;unfold pyNext;refine zVO (wpAny_attempt (zV0 (name:=Str.ofString "__next__") hT F.slot_dict_itemiterator_next (zV1 F.slot_dict_itemiterator_next hT F.entry_dict_itemiterator_next ?_ (F.args_dict_itemiterator_next_1 _))));refine zVO (zVQ (zVO (zVO ?_)));first|refine zVO (wpAny_typeNameOfWhole_itemiter hT (zVQ ?_))|refine zVO (wpAny_typeNameOf_itemiter hT (zVQ ?_))
 refine zVO (wpAny_fieldsOf hit rfl ?_);simp only[show Builtin.Dict_items.ownsTuple "dict_itemiterator" = true by decide,if_true];show wpAny _ _ (if (Value.ref d==Value.none)=true then _ else _) _ _ s;rw[zVg (show ¬ ((Value.ref d==Value.none)=true)from zVk)];refine zVO (zVQ (zVO (wpAny_dictEntries hod hdd ?_)));rw[zVg (by simp)];refine zVO (zVQ (zVO (wpAny_dictEpoch hod hdd ?_)));rw[zVg (by simp)];refine zVQ ?_;simp only[show ¬ ((i:Int)<0)from by omega,if_false,zX8,Array.getElem?_eq_none hge];refine zVO ?_;first|refine zVO (wpAny_typeNameOfWhole_itemiter hT (zVQ ?_))|refine zVO (wpAny_typeNameOf_itemiter hT (zVQ ?_))
 show wpAny _ _ (setField (.ref it) 2 .none >>= _) _ _ s;refine zVO (zW9 hit rfl (by simp) ?_);refine zVO ?_;simp only[newExc,newTuple];refine zVO (zVr ?_ (by size_fits));refine zVO (m:=firstArgMember _ _) (wpAny_of_eq (a:=Value.none) (by first|rfl|(simp only[firstArgMember];rfl)) ?_);refine zVr ?_ (by size_fits);simp only[raiseNew];refine zVO (wpAny_handled ?_);rw[show A.in1.handled=none from hh];refine zVO (zVQ (wpAny_throw ?_));refine zVO (wpAny_isInstance (T := "StopIteration") (b:=true) ⟨_,zVY _ rfl,rfl⟩ isSubtype_stop ?_);exact zVQ (hQ _ (((zWR ..).extBut.push _).push _))
theorem zKw (hit:IsItemIter s.heap it d i es.size ep ok ov) (hod:s.heap.get? d=some o) (hdd:o.data=.dict es ep) (hx:es[i]?=some e)
  (hQ:∀ h',IsItemIterOut h' it d (i+1) es.size ep e.key e.val s.heap.objs.size->h'.get? s.heap.objs.size=some { cls:=.type "tuple", data:=.seq #[e.key,e.val] }->(∀ b o,b≠it->s.heap.get? b=some o->h'.get? b=some o)->Q (some (.ref s.heap.objs.size)) { s with heap:=h' }) :
  wpAny (model prog w) A (pyNext (.ref it)) Q E s:=by
 obtain ⟨hp,g,dr,tk,os⟩:=s;have hT:Shared.TypeIs ⟨hp,g,dr,tk,os⟩ (.ref it) "dict_itemiterator" := ⟨_,hit,rfl⟩;obtain ⟨hlt,hxe⟩:=Array.getElem?_eq_some_iff.mp hx;unfold pyNext;refine zVO (wpAny_attempt (zV0 (name:=Str.ofString "__next__") hT F.slot_dict_itemiterator_next (zV1 F.slot_dict_itemiterator_next hT F.entry_dict_itemiterator_next ?_ (F.args_dict_itemiterator_next_1 _))));refine zVO (zVQ (zVO (zVO ?_)));first|refine zVO (wpAny_typeNameOfWhole_itemiter hT (zVQ ?_))|refine zVO (wpAny_typeNameOf_itemiter hT (zVQ ?_))
 refine zVO (wpAny_fieldsOf hit rfl ?_);simp only[show Builtin.Dict_items.ownsTuple "dict_itemiterator" = true by decide,if_true];show wpAny _ _ (if (Value.ref d==Value.none)=true then _ else _) _ _ _;rw[zVg (show ¬ ((Value.ref d==Value.none)=true)from zVk)];refine zVO (zVQ (zVO (wpAny_dictEntries hod hdd ?_)));rw[zVg (by simp)];refine zVO (zVQ (zVO (wpAny_dictEpoch hod hdd ?_)));rw[zVg (by simp)];refine zVQ ?_;simp only[show ¬ ((i:Int)<0)from by omega,if_false,zX8,zV9 hlt,hxe];refine zVO ?_;first|refine zVO (wpAny_typeNameOfWhole_itemiter hT (zVQ ?_))|refine zVO (wpAny_typeNameOf_itemiter hT (zVQ ?_))
 refine zVO (wpAny_isOneOf_itemiter hT ?_);show wpAny _ _ (setField (.ref it) 3 (rawInt ((i:Int)+1)) >>= _) _ _ ⟨hp,g,dr,tk,os⟩;refine zVO (zWe hit (by simp) λh1 he1 hs1=>?_);replace hs1:Heap.SameBut it hp h1:=hs1;replace he1:IsItemIter h1 it d (i+1) es.size ep ok ov:=by
  have q:((i+1:Nat):Int)=(i:Int)+1:=by omega
  unfold IsItemIter;rw[q];simpa [rawInt] using he1
 have hT1:Shared.TypeIs ⟨h1,g,dr,tk,os⟩ (.ref it) "dict_itemiterator" := ⟨_,he1,rfl⟩;refine zVO (zWH (zVO (wpAny_isOneOf_itemiter hT1 (zVO (wpAny_isOneOf_itemiter hT1 ?_)))));unfold Builtin.Dict_items.pairFromOwner;refine zVO (wpAny_newTuple ?_);have he2:IsItemIter (h1.push { cls:=.type "tuple", data:=.seq #[e.key,e.val] }) it d (i+1) es.size ep ok ov:=zVP _ he1;generalize hh2:h1.push { cls:=.type "tuple", data:=.seq #[e.key,e.val] }=h2 at he2;have z1:h1.objs.size=hp.objs.size:=hs1.1;have hil:it<hp.objs.size:=zVZ hit;have t2:h2.get? hp.objs.size=some { cls:=.type "tuple", data:=.seq #[e.key,e.val] }:=by rw[<-hh2,<-z1];exact zVY _ rfl
 have k2:∀ b o,b≠it->hp.get? b=some o->h2.get? b=some o:=λb o hb q=>by rw[<-hh2];exact zVP _ (hs1.extBut b o hb q)
 show wpAny _ _ (Builtin.Dict_items.ownedTupleIsFree (.ref it) >>= _) _ _ ⟨h2,g,dr,tk,os⟩;rw[z1];refine zVO ?_;unfold Builtin.Dict_items.ownedTupleIsFree;refine zVO (zV3 he2 rfl (x:=.none) rfl (zVQ ?_));simp only[if_true];refine zVO (zV3 he2 rfl (x:=ok) rfl (zVO (zV3 he2 rfl (x:=ov) rfl ?_)));refine zVO (zWe he2 (by simp) λh3 he3 hs3=>?_);replace he3:IsItemIter h3 it d (i+1) es.size ep e.key ov:=he3;replace hs3:Heap.SameBut it h2 h3:=hs3;refine zVO (zWe he3 (by simp) λh4 he4 hs4=>?_);replace he4:IsItemIter h4 it d (i+1) es.size ep e.key e.val:=he4;replace hs4:Heap.SameBut it h3 h4:=hs4;refine zVO (zWe he4 (by simp) λh5 he5 hs5=>?_);replace he5:IsItemIterOut h5 it d (i+1) es.size ep e.key e.val hp.objs.size:=he5;replace hs5:Heap.SameBut it h4 h5:=hs5;refine zVO (zWe he5 (by simp) λh6 he6 hs6=>?_);replace he6:IsItemIterOut h6 it d (i+1) es.size ep e.key e.val hp.objs.size:=he6;replace hs6:Heap.SameBut it h5 h6:=hs6;have up:∀ b o,b≠it->h2.get? b=some o->h6.get? b=some o:=λb o hb q=>hs6.extBut b o hb (hs5.extBut b o hb (hs4.extBut b o hb (hs3.extBut b o hb q)));exact zVO (wpAny_letGo (zVQ (zVQ ⟨_,rfl,zVQ (hQ h6 he6 (up _ _ (zWt hil) t2) λb o hb q=>up b o hb (k2 b o hb q))⟩)))
theorem zIE (d:Yt) (hd:(d==sysModules)=false) :
  MeetsIn prog w (Builtin.«dict.items» ⟨[.ref d],[]⟩) (λ_ R s=>s.TypeIs (.ref d) "dict" /\ R (.ok (.ret (.ref s.heap.objs.size))) { s with heap:=s.heap.push { cls:=.type "dict_items", data:=.fields #[.ref d] } }) :=
 .of_wp λA R s ⟨hT,h⟩=>by
  unfold Builtin.«dict.items»;refine zVO ?_;unfold Builtin.Dict.noArgs;refine zVO (wpAny_notOrdered_dict hT ?_);refine zVQ ?_;unfold Builtin.Dict.showsAll;rw[zVg (by rw[hd];exact zVk)];exact zVO (zVQ (zVO (zVr (zVQ ⟨_,rfl,h⟩))))
end
theorem zGh:entryFor table "dict_itemiterator.__iter__" = some Builtin.«dict_keyiterator.__iter__»:=entryFor_alias (id' := "dict_keyiterator.__iter__") (by kernel_rfl) rfl (by decide +kernel) (by kernel_rfl)
theorem zGw (he:IsItemIter s.heap it d i n ep ok ov) (h:Q (.ref it) s):wpAny (model prog w) A (pyIter (.ref it)) Q E s:=by
 have hT:s.TypeIs (.ref it) "dict_itemiterator" := ⟨_,he,rfl⟩;refine wpAny_pyIter_slot hT F.slot_dict_itemiterator_iter (zV1 F.slot_dict_itemiterator_iter hT zGh ?_ (F.args_dict_itemiterator_iter_1 _));show wpAny _ _ (ret (.ref it)) _ _ s;exact zVQ ⟨_,rfl, "dict_itemiterator", _,hT,F.slot_dict_itemiterator_next.lookup,h⟩
def zUY (d:Yt) (o:Obj) (kvs:List (List Key × V)):It :=
 ⟨λi H=>H d=some (.frz o (.dT kvs))/\i<kvs.length,
  λi H v H'=>∃ T b k x,kvs[i]?=some (k,x)/\v=.ref T/\H T=none/\H b=some (.tup (k.map kV))/\H'=upd H T (.tup [.ref b,x]),
  λi H=>H d=some (.frz o (.dT kvs))/\kvs.length<=i⟩
theorem zOh (I:Inv X zB σ H s) (hd:o.data=.dict es ep) (e:H d=some (.frz o (.dT kvs))) :
  s.heap.get? d=some o /\ ∃ xs,KT H kvs xs/\es.toList=xs.map (entryOfKey (tupleKind (zAE X.prog X.w)))/\kvs.length=es.size:=by
 obtain ⟨h0,_,_,xs,r,o',es',ep',h1,_,h3,h4,_⟩:=(show zAT X.prog X.w H s.heap d (.frz o (.dT kvs))from I.hok d _ e);rw[h0]at h1;cases h1;rw[hd]at h3;cases h3;refine ⟨h0,xs,r,h4,?_⟩;have h5:es.toList.length=xs.length:=by rw[h4,zVX]
 rw[Paired.length r,<-h5,zV7]
theorem zTb:∀ {kvs:List (List Key × V)} {xs:List (List Key × Addr × Value)} {i:Nat} {k:List Key} {x:V},KT H kvs xs->kvs[i]?=some (k,x) -> ∃ b u,xs[i]?=some (k,b,u)/\H b=some (.tup (k.map kV))/\zn x u:=by
 intro kvs xs i k x r;induction r generalizing i with
 |nil=>intro e;cases e
 | @cons p q ps qs hq t ih=>
  intro e;cases i with
  |zero=>
   cases e;obtain ⟨q1,q2,q3⟩:=q;exact ⟨q2,q3,by rw[show k=q1 from hq.1];rfl,hq.2.1,hq.2.2⟩
  |succ j=>exact ih e
theorem zLZ {P:Ym} {w:Yo} {K:Yb} {tes:Yi} {ek:Nat} {ep:Pos} {it d:Yt} {o:Obj} {kvs:List (List Key × V)} {es:Array DictEntry} {en:Nat} (hd:o.data=.dict es en) :
  Turn P w K (.Tuple tes ek ep) (zUY d o kvs) [it] it (λi h=>∃ ok ov,IsItemIter h it d i es.size en ok ov) where
 mem:=zVq.mpr rfl;obj:=λi h ⟨ok,ov,he⟩ c hc=>by
  cases zVq.mp hc;exact ⟨_,he,λv m=>by cases m⟩
 keep:=λi h h' ⟨ok,ov,he⟩ k=>⟨ok,ov,k it (zVq.mpr rfl) _ he⟩;item:=by
  intro X hP hw hK hc i zB s σ H E I hf Z hg;subst hP hw hK;obtain ⟨ok,ov,he⟩:=Z;obtain ⟨hg,hi⟩:=hg;obtain ⟨h0,xs,r,h4,hl⟩:=zOh I hd hg;rcases hkx:kvs[i]with ⟨k,x⟩;have hk:kvs[i]?=some (k,x):=by rw[zVS hi,hkx]
  obtain ⟨b,u,h5,h6,h7⟩:=zTb r hk;have hx:es[i]?=some (entryOfKey (tupleKind (zAE X.prog X.w)) (k,b,u)):=by
   rw[<-zW3,h4,zVl,h5];rfl
  have ilt:it<s.heap.objs.size:=zVZ he;refine zKw he h0 hd hx λh' ho hT kp=>⟨_,rfl,wpAny_letOwnedTupleGo_items ho λh2 he2 e2=>?_⟩;have kk:∀ c q,c∉[it]->s.heap.get? c=some q->h2.get? c=some q:=λc q n z=>e2.extBut _ _ (λy=>n (zVq.mpr y)) (kp c q (λy=>n (zVq.mpr y)) z);have NT:=e2.extBut _ _ (zWt ilt) hT;have hfr:H s.heap.objs.size=none:=I.hok.fresh (zVU _);refine ⟨.ref s.heap.objs.size,upd H s.heap.objs.size (.tup [.ref b,x]),zFI (s:=s) (h':=h2) (t':=s.toks) I hf kk (zVU _) ?_,rfl,⟨_,b,k,x,hk,rfl,hfr,h6,rfl⟩,⟨_,_,he2⟩,λc hm=>?_⟩
  .exact ⟨by show 2<=sizeLine;decide,[.ref b,u],.cons rfl (.cons h7 .nil),⟨_,NT,rfl,⟨_,rfl⟩,rfl⟩⟩
  .cases zVq.mp hm;rw[zT (zVj ilt)];exact (hf it hm).1
 done:=by
  intro X hP hw hK hc i zB s σ H E I hf Z hg;subst hP hw hK;obtain ⟨ok,ov,he⟩:=Z;obtain ⟨hg,hi⟩:=hg;obtain ⟨h0,xs,r,h4,hl⟩:=zOh I hd hg;exact zF2 (I.ok.hd hc) he h0 hd (by omega) λh' x=>⟨rfl,zDy (s:=s) (h':=h') (t':=s.toks) I hf λc q n z=>x c q (λy=>n (zVq.mpr y)) z⟩
 self:=λA i s Q E Z h=>by
  obtain ⟨ok,ov,he⟩:=Z;exact zGw he h
theorem zTI (I:Inv X zB σ H s) (ed:H d=some (.dT kvs)):∃ o es en,s.heap.get? d=some o/\o.data=.dict es en/\Inv X zB σ (upd H d (.frz o (.dT kvs))) s:=by
 obtain ⟨z1,z2,xs,r,o,es',en,h1,h2,h3,h4,h5⟩:=(show zAT X.prog X.w H s.heap d (.dT kvs)from I.hok d _ ed);refine ⟨o,es',en,h1,h3,zEU (s:=s) (h':=s.heap) (t':=s.toks) (ob:=.frz o (.dT kvs)) I (by rw[ed];exact True.intro) (Heap.SameBut.refl _ _) ⟨o,h1⟩ ⟨h1,z1,z2,xs,KT.keeps r λc ys ec=>?_,o,es',en,h1,h2,h3,h4,h5⟩⟩;rw[zT (zGm ec ed (λz=>nomatch z))];exact ec
section
theorem zPQ {td:TE} (ho:PE X e td) (hbase:attributeBase e "items" X.env (eval e X.env)=eval e X.env:=by rfl) (hline:(apos.endLine==cpos.line)=true:=by rfl) :
  PI X (.Tuple es ek ep) (.Call (.Attribute e "items" apos) [] [] cpos) (λσ H R=>td σ H λx H1=>∃ d kvs,x=.ref d/\H1 d=some (.dT kvs) /\ ∀ o,R (zUY d o kvs) (upd H1 d (.frz o (.dT kvs)))):=by
 intro zB s σ H R I h;refine wpAny_Call_method0_late hbase hline (thn (ho zB s σ H _ I h) λv s1 ⟨x,H1,I1,r1,d,kvs,ex,ed,q⟩=>?_);subst ex;cases r1;obtain ⟨t1,t2,t3⟩:=zPK I1 (.inr ⟨kvs,.inl ed⟩);refine ⟨"dict", "dict.items", PySem.F.plainAttrs_dict,PySem.F.slot_dict_items,PySem.F.type_dict_items,t1,t2,Calls.callWith_builtin rfl (PySem.evalArgs_none ?_)⟩;refine call_meetsIn PySem.F.slot_dict_items t1 PySem.F.entry_dict_items (PySem.F.args_dict_items_1 _) (zIE d t3) ⟨t1,?_⟩;obtain ⟨o,es',en,h1,h3,I0⟩:=zTI I1 ed;refine zMd (d:=d) (o:=o) (es:=es') (ep:=en) ⟨_,zVY _ rfl,rfl,rfl⟩ (zVP _ h1) h3 ?_;have ge:s1.heap.objs.size<=(s1.heap.push { cls:=.type "dict_items", data:=.fields #[.ref d] }).objs.size:=by rw[zV4];exact zW6 _
 refine ⟨_,[_],_,_,_,rfl,I0.kept (t':=s1.toks) λb q z=>zVP _ (zVP _ z),zLZ h3,⟨_,_,zVY _ rfl⟩,λc hc=>?_,q o⟩;cases zVq.mp hc;exact I0.fpOk ge (I0.hok.fresh ge)
end
theorem zQm (h:zBw d=some k):Rep L H d (kV k):=by
 cases d with
 |int i=>cases h;unfold Rep;rfl
 |str x=>cases h;unfold Rep;rfl
 |_=>cases h
theorem zJL:∀ {ds:List D} {ks:List Key},zD1 ds=some ks->zL L H ds (ks.map kV)
 |[],ks,h=>by cases h;exact .nil
 |d::ds,ks,h=>by
  unfold zD1 at h;cases e1:zBw d with
  |none=>rw[e1]at h;cases h
  |some k=>
   cases e2:zD1 ds with
   |none=>rw[e1,e2]at h;cases h
   |some ks'=>rw[e1,e2]at h;cases h;exact .cons (zQm e1) (zJL e2)
theorem zSz (h:tkD d=some k) (e:H b=some (.tup (k.map kV))):Rep L H d (.ref b):=by
 cases d with
 |tup ds=>unfold Rep;exact ⟨b,_,rfl,e,zJL h⟩
 |_=>cases h
theorem zMB:∀ {ps:List (D × D)} {vs:List (List Key × V)} {i:Nat} {p:D × D},zAn tkD L H ps vs->ps[i]?=some p -> ∃ k x,vs[i]?=some (k,x)/\tkD p.1=some k/\Rep L H p.2 x
 |[],_,i,p,_,e=>by cases e
 |q::ps,vs,i,p,h,e=>by
  obtain ⟨k,v,r',rfl,e1,h1,h2⟩:=h;cases i with
  |zero=>cases e;exact ⟨k,v,rfl,e1,h1⟩
  |succ j=>exact zMB (ps:=ps) (i:=j) h2 (by rw[List.getElem?_cons_succ]at e;exact e)
def zFn (f:FE):FI:=λσ M=>match f σ M with
 |some (.dat (.ref n),M1)=>match M1[n]? with
  |some (.dicT ps)=>some (ps.map λp=>D.tup [p.1,p.2],none,M1.set n (.set []))
  |_=>none
 |_=>none
section
theorem zPq (h:QE X e f) (hbase:attributeBase e "items" X.env (eval e X.env)=eval e X.env:=by rfl) (hline:(apos.endLine==cpos.line)=true:=by rfl) :
  QI X (.Tuple es ek ep) (.Call (.Attribute e "items" apos) [] [] cpos) (zFn f):=.mk <| PI.imp (zPQ h.un hbase hline) λτ H R zz=>by
 obtain ⟨L,σ,M,xs,gd,M',c,rs,hf,q⟩:=zz;unfold zFn at hf;split at hf
 .rename_i n M1 e1;split at hf
  .rename_i ps e2;cases hf;refine ⟨L,σ,M,_,_,c,rs,e1,λL1 H1 v s1 c1 r1=>?_⟩;unfold zf Rep at r1;obtain ⟨a,rfl,ea⟩:=r1;obtain ⟨vs,e3,r3⟩:=c1.obj n a _ ea e2;refine ⟨a,vs,rfl,e3,λo=>?_⟩;obtain ⟨c2,s2⟩:=c1.put (m:=.set []) (o':=.frz o (.dT vs)) ea e3 (λ_ z=>by cases z) (λ_ _ z=>by cases z) λ_=>⟨o,_,zj⟩;refine q L1 _ _ (s1.trans s2) c2 λL2 H2 M2 s3 c3 _=>?_;have hz:H2 a=some (.frz o (.dT vs)):=s3.frz _ _ _ zj;have r4:=r3.stp (s2.trans s3);refine ⟨λi d hd=>?_,hz,by rw[zVX,r4.length];exact zVU _⟩;rw[zVl]at hd;cases hp:ps[i]? with
   |none=>rw[hp]at hd;cases hd
   |some p=>
    rw[hp]at hd;cases hd;obtain ⟨k,x,hk,ek,rx⟩:=zMB r4 hp;refine ⟨⟨hz,(zVR.mp hk).1⟩,λv H3 hy=>?_⟩;obtain ⟨T,b,k',x',hk',rfl,hT,hb,rfl⟩:=hy;rw[hk]at hk';cases hk';exact ⟨λa o e=>by rw[zT (zk e hT)];exact e,Rep.newTup hT (.cons (zSz ek hb) (.cons rx .nil))⟩
  .cases hf
 .cases hf
end
def zLr (i j k:Nat):FG:=λd σ=>match d with
 |.tup [x,.tup [y,z]]=>some (((σ.set i (some x)).set j (some y)).set k (some z))
 |_=>none
abbrev gN3 (K:Yb) (i j k:Nat):TG:=zOp K 2 (zD3 (zBS i) (zD3 (zOp K 2 (zD3 (zBS j) (zD3 (zBS k) zOb))) zOb))
theorem zNJ {K:Yb} {own:Yj} {i j k:Nat} (hi:i∈own) (hj:j∈own) (hk:k∈own):zEL own (gN3 K i j k) (zLr i j k):=by
 intro L H σ σ' τ τ0 d v Q rs ex r hf q;unfold zLr at hf;split at hf
 .rename_i x y z;cases hf;unfold Rep at r;obtain ⟨a,vs,rfl,e,r⟩:=r;obtain ⟨v1,v2,rfl,r1,r2⟩:=r.two;unfold Rep at r2;obtain ⟨b,ws,rfl,e2,r2⟩:=r2;obtain ⟨w1,w2,rfl,r3,r4⟩:=r2.two;exact ⟨a,_,rfl,.of e,rfl,v1,[.ref b],rfl,.ref b,[],rfl,b,_,rfl,.of e2,rfl,w1,[w2],rfl,w2,[],rfl,rfl,rfl,q _ (((rs.set r1).set r3).set r4) (((ex.set hi).set hj).set hk)⟩
 .cases hf
theorem zLo:∀ {ys:List V} {us:Yf},ys.length=us.length->(∀ (i:Nat) y u,ys[i]?=some y->us[i]?=some u->zn y u)->zZ ys us
 |[],[],_,_=> .nil
 |[],_::_,h,_=>by cases h
 |_::_,[],h,_=>by cases h
 |y::ys,u::us,h,q=> .cons (q 0 y u rfl rfl) (zLo (Nat.succ.inj h) λi y' u' e1 e2=>q (i+1) y' u' (by simpa using e1) (by simpa using e2))
end L3
namespace ST
open PySem PySem.Spec PyProof.Rows
end ST
namespace L3
open PySem PySem.Spec PyProof.Rows L2 ST
end L3
namespace ST
open PySem PySem.Spec PyProof.Rows
end ST
namespace L3
open PySem PySem.Spec PyProof.Rows L2 ST
end L3
namespace L2
open PySem PySem.Spec PyProof.Rows
section
variable {prog:Ym} {w:Yo} {A:Yn} {E:Yc} {s:Yl}
theorem zIt (hx:s.heap.get? a=some o) (hc:o.cls=.type "list") (hdat:o.data=.seq xs k) (hd:o.dict=none) (hA:A.handled=none)
  (h:∀ h' tk,(∀ b u,s.heap.get? b=some u->h'.get? b=some u)->Q none { s with heap:=h',toks:=tk }):wpAny (model prog w) A (getAttr? (.ref a) "keys") Q E s:=by
 obtain ⟨c,dct,dat,sl⟩:=o;simp only at hc hdat hd;subst hc hdat hd;obtain ⟨hp,g,d,tk,os⟩:=s;have hT:∀ tk',(⟨hp,g,d,tk',os⟩:Shared).TypeIs (.ref a) "list" := λ_=>⟨_,hx,rfl⟩;have f1:=sub_AttributeError;have f3:=F.slot_list_getattribute.lookup;have f4:=F.slot_list_getattribute.bind (.ref a);have f5:=am_list_getattr_none;have hmiss:typeLookup (.type "list") "keys" = pure none:=by rw[typeLookup_type,builtinLookup_eq_fast];kernel_rfl
 unfold getAttr? getAttrBy? getAttrBy;repeat (any_goals (first|assumption|exact hT _|((with_reducible show wpAny _ _ (call (Value.builtin "list.__getattribute__") _ _) _ _ _);refine call_meets F.slot_list_getattribute (hT _) am_entry_list_getattribute (F.args_list_getattribute_2 _ _) (meets_getattribute_miss_list a xs k sl "keys" _ hmiss (by decide)) ⟨hx,hA,λh' tk' e hx'=>?_⟩)|wp_step))
 obtain ⟨t',u',he⟩:=hx'.there;unfold getattributeRaised;repeat (any_goals (first|assumption|wp_step))
 exact h _ _ hx'.keeps
end
set_option genInjectivity true in
inductive Puts (d:Yt):List V->Hp->Hp->Prop
 |nil {H:Hp}:Puts d [] H H
 |cons {b:Yt} {k x:V} {vs:List V} {H H1 H2:Hp}:H b=some (.tup [k,x])->zEB H d k x H1->Puts d vs H1 H2->Puts d (.ref b::vs) H H2
theorem zDH:entryFor table "dict.update.loop" = some Builtin.«dict.update.loop»:=entryFor_of_tree (by kernel_rfl)
theorem zA7:plainId "dict.update.loop" = true:=by decide +kernel
theorem zEB.some {H H1:Hp} {d:Yt} {k x:V} (p:zEB H d k x H1):H d≠none /\ ∀ b,b≠d->H1 b=H b:=by
 rcases p with ⟨kvs,k,e,_,_,rfl⟩|⟨kvs,k,b,e,_,_,_,rfl⟩
 .exact ⟨by rw[e];simp,λb hb=>zT hb⟩
 .exact ⟨by rw[e];simp,λb hb=>zT hb⟩
section
variable {X:Cx} {zB:Yd} {σ:St} {A:Yn}
theorem zNA (hu:A.units+2<cLine) (hA:A.handled=none) (hai:a≠it) (had:a≠d) (P:Puts d vs H H2) :
  ∀ (pre its:Yf) (j:Int) (s:Yl),items.toList=pre++its->zZ vs its->Inv X zB σ H s->zBr X zB H it->s.heap.IsListIter it a pre.length->s.heap.IsList a items ->
   (∀ s',Inv X zB σ H2 s'->R (.ok (.ret .none)) s')->codeAny (model X.prog X.w) A (.builtin "dict.update.loop" ⟨[.ref d,.ref it,rawInt j,.none],[]⟩) R s:=by
 have W:=Walks.list (prog:=X.prog) (w:=X.w) (A:=A.in1) (by simpa using hA) it a hai items;induction P with
 |nil=>
  intro pre its j s hi hv I hf h1 h2 hR;cases hv;have hn:items.size=pre.length:=by rw[<-zV7,hi];simp
  refine codeAny_builtin zDH ?_;rw[zWJ zA7 _];refine zVO (W.done s _ _ (by rw[hn];exact ⟨h1,h2⟩) λh' tk k=>?_);refine zVO (zVQ ?_);exact zVQ (hR _ (L3.zDy (s:=s) (h':=h') (t':=tk) I (ch:=[it]) (λb hb=>by cases zVq.mp hb;exact hf) λb u hb e=>k b u hb e))
 | @cons b k x vs H H1 H2 eb dp _ ih=>
  intro pre its j s hi hv I hf h1 h2 hR;cases hv with
  | @cons _ u _ its rb hv=>
  cases rb;have hlt:pre.length<items.size:=by rw[<-zV7,hi];simp
  refine codeAny_builtin zDH ?_;rw[zWJ zA7 _];refine zVO (W.item pre.length s _ _ hlt ⟨h1,h2⟩ λv h' tk hP hst kk=>?_);have hv':v=.ref b:=by
   rw[<-zW3,hi]at hP;simpa using hP.symm
  subst hv';have I1:Inv X zB σ H { s with heap:=h',toks:=tk }:=L3.zDy (s:=s) (h':=h') (t':=tk) I (ch:=[it]) (λb hb=>by cases zVq.mp hb;exact hf) λb u hb e=>kk b u hb e;obtain ⟨us,ru,⟨o,eo,oc,no,od⟩,_⟩:=I1.tuple (a:=b) (xs:=[k,x]) (.inl (.inl eb));obtain ⟨u1,u2,rfl,r1,r2⟩:=zNv ru;refine zVO (zWH ?_);refine zVO (wpAny_tryCatch ?_);unfold Builtin.Dict.pairItems;refine zVO (wpAny_typeOf (T := "tuple") ⟨o,eo,oc⟩ ?_);rw[zVd (by decide)];refine zVO (zWE eo od (zVQ ?_));refine zWH (zHh (show A.in1.units+1<cLine from hu) I1 dp r1 r2 λs3 I3 hs=>?_);obtain ⟨dn,ds⟩:=dp.some;have hid:it≠d:=λz=>dn (z▸hf.1);have hst3:=W.frame (pre.length+1) h' s3.heap hst λc hc o e=>by
   rw[hs.2 c (λz=>by
    rcases zVa.mp hc with q|q
    .exact hid (q.symm.trans z)
    .exact had ((zVq.mp q).symm.trans z))]
   exact e
  refine zVQ ⟨plainId_quiet zA7 _,ih (pre++[.ref b]) its (j+1) s3 (by rw[hi];simp) hv I3 ⟨(ds it hid).trans hf.1,hf.2⟩ (by rw[zVe];exact hst3.1) hst3.2 hR⟩
theorem zJj (hu:X.A.units+1+4<cLine) (hc:X.calm=true):zBT X (.type "dict") (λxs H Q=>∃ a vs isT,xs=[.ref a]/\H a=some (.lst vs) /\ ∀ p,H p=none -> ∃ H2,Puts p vs (upd H p (zBJ isT)) H2/\Q (.ref p) H2):=by
 intro zB s σ H xs us Q I r h;obtain ⟨a,vs,isT,rfl,ea,q⟩:=h;obtain ⟨u,rfl,rx⟩:=zCo r;cases rx;obtain ⟨its,rv,⟨ol,nl,e1,e2,e3,e4⟩,hz⟩:=I.list (xs:=vs) (.inl (.inl ea));have hA:X.A.handled=none:=I.ok.hd hc;have hp:H s.heap.objs.size=none:=I.hok.fresh (zVU _);obtain ⟨H2,P,qq⟩:=q _ hp;refine callType_codes (Q₁:=λobj s₁=>obj=.ref s.heap.objs.size/\s₁={ s with heap:=s.heap.push zAb }) F.kt_called_dict (F.kt_typeCall_dict_1 _) F.entry_dict_init (kt_code_dict_new _ ⟨rfl,rfl⟩) ?_;rintro obj s₁ ⟨rfl,rfl⟩;have big:sysModules<s.heap.objs.size:=I.big;have hsm:(s.heap.objs.size==sysModules)=false:=by rw[beq_eq_false_iff_ne];exact zWt big
 have pD:(s.heap.push zAb).get? s.heap.objs.size=some zAb:=zVY _ rfl;have I1:Inv X zB σ (upd H s.heap.objs.size (zBJ isT)) { s with heap:=s.heap.push zAb }:=by
  refine I.laid (t':=s.toks) (λb q z=>zVP _ z) (zVU _) ?_;cases isT with
  |false=>exact ⟨zWA _,hsm,[],.nil,zAb,#[],0,pD,⟨rfl,rfl,rfl⟩,rfl,λ_ he=>by simp at he,.nil,List.nodup_nil⟩
  |true=>exact ⟨zWA _,hsm,[],.nil,zAb,#[],0,pD,⟨rfl,rfl,rfl⟩,rfl,rfl,List.nodup_nil⟩
 have hl1:(s.heap.push zAb).get? a=some ol:=zVP _ e1;have hap:a≠s.heap.objs.size:=zVj (zVZ e1);refine ⟨⟨_,pD,rfl⟩,F.args_dict_init_2 _ _,?_⟩;unfold Builtin.«dict.__init__»;refine zVO ?_;unfold Builtin.Dict.selfAndRest;refine zVO (wpAny_notOrdered_dict ⟨_,pD,rfl⟩ ?_);refine zVQ ?_;show wpAny _ _ (Builtin.Dict.updateFrom "dict.__init__" s.heap.objs.size (.ref a) [] .none) _ _ _;unfold Builtin.Dict.updateFrom;refine zVO (wpAny_typeOf (T := "list") ⟨ol,hl1,e2⟩ ?_);rw[zVd (by decide)];refine zVO (zIt hl1 e2 e4 e3 (by simpa using hA) λh' tk k=>?_);have I2:Inv X zB σ (upd H s.heap.objs.size (zBJ isT)) { s with heap:=h',toks:=tk }:=I1.kept (t':=tk) k;rw[zVd (show (none:Option Value).isNone=true from rfl)];refine zVO (zWl ?_);have hl2:h'.IsList a its.toArray:=⟨ol,k _ _ hl1,e2,nl,e4⟩;refine zVO (wpAny_pyIter_list (s:={ s with heap:=h',toks:=tk }) hl2 ?_);refine zVQ ⟨plainId_quiet zA7 _,?_⟩;have I3:Inv X zB σ (upd H s.heap.objs.size (zBJ isT)) { s with heap:=h'.push { cls:=.type "list_iterator", data:=.fields #[.ref a,.int 0 0] },toks:=tk }:=I2.kept (t':=tk) λb u z=>zVP _ z;refine zNA (items:=its.toArray) (show X.A.in1.units+2<cLine from Nat.lt_of_le_of_lt (by show X.A.units+1+2<=_;omega) hu) (by simpa using hA) (zVj (zVZ (k _ _ hl1))) hap P [] its 0 _ (by simp) rv I3 ?_ ?_ ?_ ?_
 .exact I2.fpOk (zVU _) (I2.hok.fresh (zVU _))
 .exact ⟨_,zVY _ rfl,rfl,rfl⟩
 .exact ⟨ol,zVP _ (k _ _ hl1),e2,nl,e4⟩
 .exact λs' I'=>⟨rfl,.ref s.heap.objs.size,H2,I',rfl,qq⟩
end
end L2
namespace L3
open PySem PySem.Spec PyProof.Rows L2
def zEw (n:Nat):List D->Mem->Option Mem
 |[],M=>some M
 |.tup [k,v]::ds,M=>match zD0 M n k v with
  |some M1=>zEw n ds M1
  |none=>none
 |_::_,_=>none
def zDo (isT:Bool):KB:=λxs M=>match xs with
 |[.fl ds]=>match zEw M.length ds (M++[zEA isT]) with
  |some M1=>some (.dat (.ref M.length),M1)
  |none=>none
 |_=>none
theorem zGe {K:Yb} {n:Nat} {p:Yt}:∀ {ds:List D} {L:Yg} {M M':Mem} {H:Hp} {vs:List V},Cor K L M H->L[n]?=some p->zL L H ds vs->zEw n ds M=some M' -> ∃ H',Puts p vs H H'/\Cor K L M' H'/\Stp L H L H'
 |[],L,M,M',H,vs,c,lp,r,e=>by
  unfold zL at r;subst r;cases e;exact ⟨H,.nil,c,.refl L H⟩
 |d::ds,L,M,M',H,vs,c,lp,r,e=>by
  unfold zL at r;obtain ⟨v,r',rfl,r1,r2⟩:=r;unfold zEw at e;split at e
  .rename_i h;cases h
  .rename_i k x ds' e0;cases e0;split at e
   .rename_i M1 e1;unfold Rep at r1;obtain ⟨b,ws,rfl,e2,r3⟩:=r1;unfold zL at r3;obtain ⟨vk,r4,rfl,rk,r5⟩:=r3;unfold zL at r5;obtain ⟨vx,r6,rfl,rx,r7⟩:=r5;unfold zL at r7;subst r7;obtain ⟨H1,dp,c1,s1⟩:=zFt c lp rk rx e1;obtain ⟨H2,P,c2,s2⟩:=zGe c1 lp (r2.stp s1) e;exact ⟨H2,.cons e2 dp P,c2,s1.trans s2⟩
   .cases e
  .cases e
section
variable {X:Cx}
theorem zLK (isT:Bool):zEk X.K (λxs H Q=>∃ a vs isT,xs=[.ref a]/\H a=some (.lst vs) /\ ∀ p,H p=none -> ∃ H2,Puts p vs (upd H p (zBJ isT)) H2/\Q (.ref p) H2) (zDo isT):=by
 intro L M M' H H0 xs d vs Q c r hk q;unfold zDo at hk;split at hk
 .rename_i ds;split at hk
  .rename_i M1 e1;cases hk;obtain ⟨v,rfl,r1⟩:=r.one;unfold zf at r1;obtain ⟨a,ws,rfl,_,e2,_,r2⟩:=r1;refine ⟨a,ws,isT,rfl,e2,λp hp=>?_⟩;obtain ⟨c0,s0⟩:Cor X.K (L++[p]) (M++[zEA isT]) (upd H p (zBJ isT))/\Stp L H (L++[p]) (upd H p (zBJ isT)):=by
    cases isT with
    |true=>exact c.pushO (m:=.dicT []) hp ⟨[],zj,rfl⟩
    |false=>exact c.pushO (m:=.dict []) hp ⟨[],zj,rfl⟩
   have lp0:(L++[p])[M.length]?=some p:=by rw[<-c.len];simp
   obtain ⟨H2,P,c2,s2⟩:=zGe c0 lp0 (r2.stp s0) e1;refine ⟨H2,P,q _ _ _ (s0.trans s2) c2 ?_⟩;unfold zf Rep;exact ⟨p,rfl,lp0⟩
  .cases hk
 .cases hk
theorem zO1 (isT:Bool) (hu:X.A.units+1+4<cLine) (hc:X.calm=true) (hg:Gl X "dict") (hm:X.mg "dict" = none) (ha:QAE X [e] fa) (he:starEach [e] X.env=(false,eval e X.env)::starEach [] X.env:=by rfl) (hpl:(backTo pos (starEach [] X.env)).any (·.1)=false:=by rfl):QE X (.Call (.Name "dict" p) [e] [] pos) (fB (zDo isT) fa) :=
 zEb (zLK isT) (zJj hu hc) (by rfl) hg hm ha (by decide) (by decide) he hpl
end
end L3
namespace L2
open PySem PySem.Spec PyProof.Rows ST
end L2
namespace L3
open PySem PySem.Spec PyProof.Rows L2 ST
section
variable {prog:Ym} {w:Yo} {A:Yn} {E:Yc} {s:Yl}
theorem zEZ (h:Q (s.heap.get? a) s):wpAny (model prog w) A (loadIfAlive a) Q E s:=λΓ p _=>by
 unfold loadIfAlive;rw[Sem.wp_loadIfAlive];simpa using h
abbrev zEx (f:Value) (g:Bool) (TI TO:Addr):Obj:={ cls:=.type "zip", dict:=none,data:=.fields #[f,.bool g,.bool false,.ref TI,.ref TO],slots:=#[] }
structure ZipA (b1 b2:Bool) (h:Heap) (z TI TO i1 i2 t1 t2:Yt) (k:Nat):Prop where
 z:∃ f g,(f=.none \/ ∃ T:Addr,f=rawInt T)/\h.get? z=some (zEx f g TI TO)
 ti:IsPair h TI (.ref i1) (.ref i2)
 to:∃ a b,IsPair h TO a b
 a:SI b1 h i1 t1 k
 b:SI b2 h i2 t2 k
theorem zL5 {z TI TO:Yt} {f:Yu} {g:Bool} {Q:Bool->Shared->Prop} (hf:f=.none \/ ∃ T:Addr,f=rawInt T) (Z0:s.heap.get? z=some (zEx f g TI TO)) (qt:Q true s) (qf:∀ h' g',h'.get? z=some (zEx f g' TI TO)->Heap.SameBut z s.heap h'->Q false { s with heap:=h' }):wpAny (model prog w) A (Builtin.SmallTypes.ownedTupleIsFree (.ref z)) Q E s:=by
 unfold Builtin.SmallTypes.ownedTupleIsFree;rcases hf with rfl|⟨T,rfl⟩
 .exact zVO (zV3 Z0 rfl (x:=.none) rfl (zVQ qt))
 .refine zVO (zV3 Z0 rfl (x:=rawInt T) rfl ?_);unfold rawInt;dsimp only;refine zVO (zEZ ?_);cases AT:s.heap.get? ((T:Int)).toNat with
  |none=>exact zVQ qt
  |some o=>
   simp only[Option.isNone_some,zWP,if_false];refine zVO (zV3 Z0 rfl (x:=.bool g) rfl ?_);cases g
   .rw[zVd (by decide)];exact zVO (zWe Z0 (by simp) λh1 Z1 e1=>zVQ (qf h1 true Z1 e1))
   .rw[zVg (by decide)];exact zVQ (qf s.heap true Z0 (Heap.SameBut.refl _ _))
theorem zMP {b1 b2:Bool} {z TI TO i1 i2 t1 t2:Yt} {k:Nat} {xs ys:Yp} {x y:Yu} {Q:Option Value->Shared->Prop} (D:ZipApart z TI TO i1 i2 t1 t2) (Z:ZipA b1 b2 s.heap z TI TO i1 i2 t1 t2 k)
  (T1:SO b1 s.heap t1 xs) (T2:SO b2 s.heap t2 ys) (hx:xs[k]?=some x) (hy:ys[k]?=some y)
  (q:∀ h',ZipA b1 b2 h' z TI TO i1 i2 t1 t2 (k+1)->IsPair h' s.heap.objs.size x y ->
   (∀ c o,c∉[z,TO,i1,i2]->s.heap.get? c=some o->h'.get? c=some o)->Q (some (.ref s.heap.objs.size)) { s with heap:=h' }):wpAny (model prog w) A (pyNext (.ref z)) Q E s:=by
 obtain ⟨⟨f,g,hf,Z0⟩,P0,⟨a,b,O0⟩,I1,I2⟩:=Z;have ty:s.TypeIs (.ref z) "zip" := ⟨_,Z0,rfl⟩;unfold pyNext;refine zVO (wpAny_attempt (zV0 (name:=Str.ofString "__next__") ty PySem.F.slot_zip_next (zV1 PySem.F.slot_zip_next ty PySem.F.entry_zip_next ?_ (PySem.F.args_zip_next_1 _))));refine zVO (m:=field (.ref z) 2) (zV3 Z0 rfl (x:=.bool false) rfl ?_);refine zVO (m:=field (.ref z) 3) (zV3 Z0 rfl (x:=.ref TI) rfl ?_);refine zVO (zWE P0 rfl ?_);refine zVO (m:=Builtin.SmallTypes.ownedTupleIsFree (.ref z)) (zL5 hf Z0 ?_ λh1 g' Z1 e1=>?_)
 .rw[zVd rfl];refine zVO (zWl (zVO (zV3 Z0 rfl (x:=.ref TO) rfl (zVO (zWe Z0 (by simp) λh1 Z1 e1=>?_)))));replace Z1:h1.get? z=some (zEx .ellipsis g TI TO):=Z1;refine zVO ?_;simp only[List.forIn_cons,List.forIn_nil,List.zipIdx_cons,List.zipIdx_nil];refine zVO (zVO (wpAny_onRaise (zVO (m:=Builtin.SmallTypes.nextOf (.ref i1)) (zBb (SI.but I1 e1.extBut D.i1z) (SO.but T1 e1.extBut D.l1z) hx λh2 J1 e2=>zVQ ?_))));have O2:IsPair h2 TO a b:=e2.extBut _ _ D.TOi1 (e1.extBut _ _ D.TOz O0);refine zVO (zWE O2 rfl (zVO (wpAny_updateSeq_pair O2 λh3 O3 e3=>zVO (wpAny_letGo (zVQ ?_)))));replace O3:IsPair h3 TO x b:=O3
  refine zVO (zVO (wpAny_onRaise (zVO (m:=Builtin.SmallTypes.nextOf (.ref i2)) (zBb (SI.but (SI.but (SI.but I2 e1.extBut D.i2z) e2.extBut D.i12.symm) e3.extBut D.TOi2.symm)
   (SO.but (SO.but (SO.but T2 e1.extBut D.l2z) e2.extBut D.l2i1) e3.extBut D.l2TO) hy λh4 J2 e4=>zVQ ?_))))
  have O4:IsPair h4 TO x b:=e4.extBut _ _ D.TOi2 O3;refine zVO (zWE O4 rfl (zVO (wpAny_updateSeq_pair O4 λh5 O5 e5=>zVO (wpAny_letGo (zVQ (zVQ ?_))))));replace O5:IsPair h5 TO x y:=O5;refine zVO (zWE O5 rfl (zVO (wpAny_newTuple ?_)));have sz:h5.objs.size=s.heap.objs.size:=by rw[e5.1,e4.1,e3.1,e2.1,e1.1]
  have Z5:h5.get? z=some (zEx .ellipsis g TI TO):=e5.extBut _ _ D.TOz.symm (e4.extBut _ _ D.i2z.symm (e3.extBut _ _ D.TOz.symm (e2.extBut _ _ D.i1z.symm Z1)));have kp:∀ c o,c∉[z,TO,i1,i2]->s.heap.get? c=some o->h5.get? c=some o:=λc o n e=>by
   simp only[zVa,zVt,zWj,not_or]at n;obtain ⟨n1,n2,n3,n4⟩:=n;exact e5.extBut _ _ n2 (e4.extBut _ _ n4 (e3.extBut _ _ n2 (e2.extBut _ _ n3 (e1.extBut _ _ n1 e))))
  have A5:SI b1 h5 i1 t1 (k+1):=SI.but (SI.but (SI.but J1 e3.extBut D.TOi1.symm) e4.extBut D.i12) e5.extBut D.TOi1.symm;have B5:SI b2 h5 i2 t2 (k+1):=SI.but J2 e5.extBut D.TOi2.symm;have zl:z<h5.objs.size:=zVZ Z5;refine zVO (m:=Builtin.SmallTypes.ownedTupleHandOut (.ref z) (.ref h5.objs.size)) ?_;unfold Builtin.SmallTypes.ownedTupleHandOut;have Z6:(h5.push { cls:=.type "tuple", data:=.seq #[x,y] }).get? z=some (zEx .ellipsis g TI TO):=zVP _ Z5;refine zVO (zWe Z6 (by simp) λh7 Z7 e7=>?_);replace Z7:h7.get? z=some (zEx (rawInt h5.objs.size) g TI TO):=Z7;refine zWe Z7 (by simp) λh8 Z8 e8=>?_;replace Z8:h8.get? z=some (zEx (rawInt h5.objs.size) false TI TO):=Z8;have up:∀ c o,c≠z->h5.get? c=some o->h8.get? c=some o:=λc o n e=>e8.extBut _ _ n (e7.extBut _ _ n (zVP _ e));have N8:IsPair h8 h5.objs.size x y:=e8.extBut _ _ (zWt zl) (e7.extBut _ _ (zWt zl) (zVY _ rfl));rw[sz]at Z8 N8;refine zVQ ⟨_,rfl,?_⟩;rw[sz];refine zVQ (q h8 ⟨⟨_,false,.inr ⟨_,rfl⟩,Z8⟩,up _ _ D.TIz (kp _ _ (by simp[D.TIz,D.TITO,D.TIi1,D.TIi2]) P0),⟨_,_,up _ _ D.TOz O5⟩,?_,?_⟩ N8 λc o n e=>up c o (λm=>n (by simp[m])) (kp c o n e))
  .exact A5.keep λo e=>up _ o D.i1z e
  .exact B5.keep λo e=>up _ o D.i2z e
 .rw[zVg (by decide)];dsimp only;rw[<-Array.forIn_toList];simp only[List.forIn_cons,List.forIn_nil];refine zVO (zVO (zVO (zWH (zVO (m:=Builtin.SmallTypes.nextOf (.ref i1)) (zBb (SI.but I1 e1.extBut D.i1z) (SO.but T1 e1.extBut D.l1z) hx λh2 J1 e2=>zVQ (zVQ ?_))))));refine zVO (zVO (zWH (zVO (m:=Builtin.SmallTypes.nextOf (.ref i2)) (zBb (SI.but (SI.but I2 e1.extBut D.i2z) e2.extBut D.i12.symm) (SO.but (SO.but T2 e1.extBut D.l2z) e2.extBut D.l2i1) hy λh4 J2 e4=>zVQ (zVQ (zVQ ?_))))));have sz:h4.objs.size=s.heap.objs.size:=by rw[e4.1,e2.1,e1.1]
  have kp:∀ c o,c∉[z,i1,i2]->s.heap.get? c=some o->h4.get? c=some o:=λc o n e=>by
   simp only[zVa,zVt,zWj,not_or]at n;exact e4.extBut _ _ n.2.2 (e2.extBut _ _ n.2.1 (e1.extBut _ _ n.1 e))
  have Z4:h4.get? z=some (zEx f g' TI TO):=e4.extBut _ _ D.i2z.symm (e2.extBut _ _ D.i1z.symm Z1);refine zVO (wpAny_newTuple (hsz:=by show 2<=sizeLine;rw[sizeLine_eq];omega) (zVQ ⟨_,rfl,?_⟩));have up:∀ c o,h4.get? c=some o->(h4.push { cls:=.type "tuple", data:=.seq #[x,y] }).get? c=some o:=λc o e=>zVP _ e;have N8:IsPair (h4.push { cls:=.type "tuple", data:=.seq #[x,y] }) h4.objs.size x y:=zVY _ rfl;rw[sz]at N8;show wpAny _ _ (pure (some (Value.ref h4.objs.size))) _ _ _;rw[sz];refine zVQ (q _ ⟨⟨f,g',hf,up _ _ Z4⟩,up _ _ (kp _ _ (by simp[D.TIz,D.TIi1,D.TIi2]) P0),⟨a,b,up _ _ (kp _ _ (by simp[D.TOz,D.TOi1,D.TOi2]) O0)⟩,?_,?_⟩ N8 λc o n e=>up c o (kp c o (λm=>n (by simp only[zVa,zVt,zWj]at m ⊢;rcases m with m|m|m <;> simp[m])) e))
  .exact (SI.but J1 e4.extBut D.i12).keep λo e=>up _ o e
  .exact J2.keep λo e=>up _ o e
theorem zOR {b1 b2:Bool} {z TI TO i1 i2 t1 t2:Yt} {k:Nat} {xs ys:Yp} {Q:Option Value->Shared->Prop} (hh:A.handled=none) (D:ZipApart z TI TO i1 i2 t1 t2) (Z:ZipA b1 b2 s.heap z TI TO i1 i2 t1 t2 k)
  (T1:SO b1 s.heap t1 xs) (T2:SO b2 s.heap t2 ys) (he:xs[k]?=none\/ys[k]?=none)
  (q:∀ h',(∀ c o,c∉[z,TO,i1,i2]->s.heap.get? c=some o->h'.get? c=some o)->Q none { s with heap:=h' }):wpAny (model prog w) A (pyNext (.ref z)) Q E s:=by
 obtain ⟨⟨f,g,hf,Z0⟩,P0,⟨a,b,O0⟩,I1,I2⟩:=Z;have ty:s.TypeIs (.ref z) "zip" := ⟨_,Z0,rfl⟩
 have stop:∀ (e:Addr) (h':Heap),(∀ c o,c∉[z,TO,i1,i2]->s.heap.get? c=some o->h'.get? c=some o)->(∃ o,h'.get? e=some o/\o.cls=.type "StopIteration") ->
   wpAny (model prog w) A (do if (<- isInstance (.ref e) (.type "StopIteration")) then pure none else throw (.ref e):Sem (Option Value)) Q E { s with heap:=h' }:=λe h' k1 ⟨o,e1,e2⟩=>
  zVO (wpAny_isInstance (T := "StopIteration") (b:=true) ⟨o,e1,e2⟩ isSubtype_stop (zVQ (q h' k1)))
 unfold pyNext;refine zVO (wpAny_attempt (zV0 (name:=Str.ofString "__next__") ty PySem.F.slot_zip_next (zV1 PySem.F.slot_zip_next ty PySem.F.entry_zip_next ?_ (PySem.F.args_zip_next_1 _))));refine zVO (m:=field (.ref z) 2) (zV3 Z0 rfl (x:=.bool false) rfl ?_);refine zVO (m:=field (.ref z) 3) (zV3 Z0 rfl (x:=.ref TI) rfl ?_);refine zVO (zWE P0 rfl ?_);refine zVO (m:=Builtin.SmallTypes.ownedTupleIsFree (.ref z)) (zL5 hf Z0 ?_ λh1 g' Z1 e1=>?_)
 .rw[zVd rfl];refine zVO (zWl (zVO (zV3 Z0 rfl (x:=.ref TO) rfl (zVO (zWe Z0 (by simp) λh1 Z1 e1=>?_)))));replace Z1:h1.get? z=some (zEx .ellipsis g TI TO):=Z1;refine zVO ?_;simp only[List.forIn_cons,List.forIn_nil,List.zipIdx_cons,List.zipIdx_nil];cases hx:xs[k]? with
  |none=>
   refine zVO (zVO (wpAny_onRaise (zVO (m:=Builtin.SmallTypes.nextOf (.ref i1)) (zDt hh (SI.but I1 e1.extBut D.i1z) (SO.but T1 e1.extBut D.l1z) hx λh2 e e2 he=>?_))));obtain ⟨oe,o1,o2⟩:=he;have Z2:h2.get? z=some (zEx .ellipsis g TI TO):=e2 _ _ D.i1z.symm Z1;have ne:e≠z:=λm=>by subst m;rw[Z2]at o1;cases o1;simp at o2
   refine zWe Z2 (by simp) λh3 _ e3=>stop e h3 (λc o n x=>?_) ⟨oe,e3.extBut _ _ ne o1,o2⟩;simp only[zVa,zVt,zWj,not_or]at n;exact e3.extBut _ _ n.1 (e2 _ _ n.2.2.1 (e1.extBut _ _ n.1 x))
  |some x=>
   have hy:ys[k]?=none:=by
    rcases he with m|m
    .rw[hx]at m;cases m
    .exact m
   refine zVO (zVO (wpAny_onRaise (zVO (m:=Builtin.SmallTypes.nextOf (.ref i1)) (zBb (SI.but I1 e1.extBut D.i1z) (SO.but T1 e1.extBut D.l1z) hx λh2 J1 e2=>zVQ ?_))));have O2:IsPair h2 TO a b:=e2.extBut _ _ D.TOi1 (e1.extBut _ _ D.TOz O0);refine zVO (zWE O2 rfl (zVO (wpAny_updateSeq_pair O2 λh3 O3 e3=>zVO (wpAny_letGo (zVQ ?_)))))
   refine zVO (zVO (wpAny_onRaise (zVO (m:=Builtin.SmallTypes.nextOf (.ref i2)) (zDt hh (SI.but (SI.but (SI.but I2 e1.extBut D.i2z) e2.extBut D.i12.symm) e3.extBut D.TOi2.symm)
    (SO.but (SO.but (SO.but T2 e1.extBut D.l2z) e2.extBut D.l2i1) e3.extBut D.l2TO) hy λh4 e e4 he=>?_))))
   obtain ⟨oe,o1,o2⟩:=he;have Z4:h4.get? z=some (zEx .ellipsis g TI TO):=e4 _ _ D.i2z.symm (e3.extBut _ _ D.TOz.symm (e2.extBut _ _ D.i1z.symm Z1));have ne:e≠z:=λm=>by subst m;rw[Z4]at o1;cases o1;simp at o2
   refine zWe Z4 (by simp) λh5 _ e5=>stop e h5 (λc o n x=>?_) ⟨oe,e5.extBut _ _ ne o1,o2⟩;simp only[zVa,zVt,zWj,not_or]at n;exact e5.extBut _ _ n.1 (e4 _ _ n.2.2.2 (e3.extBut _ _ n.2.1 (e2.extBut _ _ n.2.2.1 (e1.extBut _ _ n.1 x))))
 .rw[zVg (by decide)];dsimp only;rw[<-Array.forIn_toList];simp only[List.forIn_cons,List.forIn_nil];cases hx:xs[k]? with
  |none=>
   refine zVO (zVO (zVO (zWH (zVO (m:=Builtin.SmallTypes.nextOf (.ref i1)) (zDt hh (SI.but I1 e1.extBut D.i1z) (SO.but T1 e1.extBut D.l1z) hx λh2 e e2 he=>?_)))));refine stop e h2 (λc o n x=>?_) he;simp only[zVa,zVt,zWj,not_or]at n;exact e2 _ _ n.2.2.1 (e1.extBut _ _ n.1 x)
  |some x=>
   have hy:ys[k]?=none:=by
    rcases he with m|m
    .rw[hx]at m;cases m
    .exact m
   refine zVO (zVO (zVO (zWH (zVO (m:=Builtin.SmallTypes.nextOf (.ref i1)) (zBb (SI.but I1 e1.extBut D.i1z) (SO.but T1 e1.extBut D.l1z) hx λh2 J1 e2=>zVQ (zVQ ?_))))));refine zVO (zVO (zWH (zVO (m:=Builtin.SmallTypes.nextOf (.ref i2)) (zDt hh (SI.but (SI.but I2 e1.extBut D.i2z) e2.extBut D.i12.symm) (SO.but (SO.but T2 e1.extBut D.l2z) e2.extBut D.l2i1) hy λh4 e e4 he=>?_))));refine stop e h4 (λc o n x=>?_) he;simp only[zVa,zVt,zWj,not_or]at n;exact e4 _ _ n.2.2.2 (e2.extBut _ _ n.2.2.1 (e1.extBut _ _ n.1 x))
theorem zUG {z TI TO:Yt} {f:Yu} {g:Bool} {Q:Yc} (Z0:s.heap.get? z=some (zEx f g TI TO)) (h:Q (.ref z) s):wpAny (model prog w) A (pyIter (.ref z)) Q E s :=
 have ty:s.TypeIs (.ref z) "zip" := ⟨_,Z0,rfl⟩;wpAny_pyIter_slot ty PySem.F.slot_zip_iter (zV1 PySem.F.slot_zip_iter ty PySem.F.entry_zip_iter (show wpAny _ _ (ret (.ref z)) _ _ s from zVQ ⟨_,rfl, "zip", _,ty,PySem.F.slot_zip_next.lookup,h⟩) (PySem.F.args_zip_iter_1 _))
end
theorem zLE:typeLookup (.type "zip") "__len__" = pure none:=by rw[typeLookup_type,builtinLookup_eq_fast];kernel_rfl
theorem zJB:typeLookup (.type "zip") "__length_hint__" = pure none:=by rw[typeLookup_type,builtinLookup_eq_fast];kernel_rfl
structure Col (h0:Heap) (S:Yt) (xs ys:Yf) (Ts:Yg) (h:Heap):Prop where
 kp:∀ b o,h0.get? b=some o->h.get? b=some o
 lst:∃ c,h.get? S=some { cls:=.type "list", dict:=none,data:=.seq (Ts.map Value.ref).toArray c,slots:=#[] }
 nd:Ts.Nodup
 up:∀ (j:Nat) T,Ts[j]?=some T->S<T /\ ∃ x y,xs[j]?=some x/\ys[j]?=some y/\IsPair h T x y
theorem Col.move {h0 h h':Heap} {S:Yt} {xs ys:Yf} {Ts:Yg} {ch:Yg} (C:Col h0 S xs ys Ts h) (hc:∀ b∈ch,h0.objs.size<=b/\b<S) (k:∀ c o,c∉ch->h.get? c=some o->h'.get? c=some o):Col h0 S xs ys Ts h' where
 kp:=λb o e=>k b o (λm=>absurd (zVZ e) (Nat.not_lt.mpr (hc b m).1)) (C.kp b o e);lst:=let ⟨c,e⟩:=C.lst;⟨c,k S _ (λm=>absurd (hc S m).2 (zV6 _)) e⟩;nd:=C.nd;up:=λj T e=>by
  obtain ⟨l,x,y,e1,e2,p⟩:=C.up j T e;exact ⟨l,x,y,e1,e2,k T _ (λm=>absurd (Nat.lt_trans l (hc T m).2) (zV6 _)) p⟩
section
variable {prog:Ym} {w:Yo} {A:Yn} {E:Yc} {R:Yx} {s0:Yl}
theorem zPE {b1 b2:Bool} {z TI TO i1 i2 t1 t2 S:Yt} {xs ys:Yf} {res:Yu} (hh:A.handled=none) (D:ZipApart z TI TO i1 i2 t1 t2) (T1:SO b1 s0.heap t1 xs.toArray) (T2:SO b2 s0.heap t2 ys.toArray) (hn:min xs.length ys.length<=sizeLine)
  (hch:∀ b∈[z,TO,i1,i2],s0.heap.objs.size<=b/\b<S) (hTI:S≠TI)
  (hR:∀ h' Ts,Col s0.heap S xs ys Ts h'->Ts.length=min xs.length ys.length->R (.ok (.ret res)) { s0 with heap:=h' }) :
  ∀ (k:Nat) (h:Heap) (Ts:Yg),min xs.length ys.length-Ts.length=k->Ts.length<=min xs.length ys.length->ZipA b1 b2 h z TI TO i1 i2 t1 t2 Ts.length->Col s0.heap S xs ys Ts h ->
  codeAny (model prog w) A (.builtin "list.extend.loop" ⟨[.ref S,.ref z,res],[]⟩) R { s0 with heap:=h }:=by
 intro k;induction k with
 |zero=>
  intro h Ts hk hl Z C;refine codeAny_builtin PySem.F.entry_extend_loop ?_;rw[zWJ PySem.F.plain_extend_loop _];show wpAny _ A.in1 (pyNext (.ref z) >>= _) _ _ _;refine zVO (zOR (s:={ s0 with heap:=h }) hh D Z (T1.keep λo e=>C.kp _ o e) (T2.keep λo e=>C.kp _ o e) ?_ λh' kp=>?_)
  .rcases (show xs.length<=Ts.length\/ys.length<=Ts.length by omega)with q|q
   .exact .inl (by simp;omega)
   .exact .inr (by simp;omega)
  .exact zVQ (hR h' Ts (C.move hch kp) (by omega))
 |succ k ih=>
  intro h Ts hk hl Z C;have l1:Ts.length<xs.length:=by omega
  have l2:Ts.length<ys.length:=by omega
  refine codeAny_builtin PySem.F.entry_extend_loop ?_;rw[zWJ PySem.F.plain_extend_loop _];show wpAny _ A.in1 (pyNext (.ref z) >>= _) _ _ _;refine zVO (zMP (s:={ s0 with heap:=h }) D Z (T1.keep λo e=>C.kp _ o e) (T2.keep λo e=>C.kp _ o e) (x:=xs[Ts.length]) (y:=ys[Ts.length]) (by simp[l1]) (by simp[l2]) λh' Z' N' kp=>?_);have C':=C.move hch kp;obtain ⟨c,hS⟩:=C'.lst;obtain ⟨c0,hS0⟩:=C.lst;have Slt:S<h.objs.size:=zVZ hS0;show wpAny _ A.in1 (updateSeq S (·.push (.ref h.objs.size)) >>= _) _ _ _;refine zVO ?_;have neS:∀ b,b≠S -> ∀ o,h'.get? b=some o->(h'.update S (Obj.mapSeq (·.push (Value.ref h.objs.size)))).get? b=some o:=λb n o e=>(zV5 _ _ (Ne.symm n)).trans e;have zS:∀ b∈[z,TO,i1,i2],b≠S:=λb hb=>zVj (hch b hb).2;refine wpAny_updateSeq (s:={ s0 with heap:=h' }) hS rfl (zVQ ⟨plainId_quiet PySem.F.plain_extend_loop _,ih _ (Ts++[h.objs.size]) (by simp;omega) (by simp;omega) ?_ ?_⟩) (by simp;omega) (by simp;omega)
  .obtain ⟨⟨f,g,hf,Z0⟩,P0,⟨x,y,O0⟩,I1,I2⟩:=Z';rw[zVe,List.length_singleton];exact ⟨⟨f,g,hf,neS z (zS z (by simp)) _ Z0⟩,neS TI (Ne.symm hTI) _ P0,⟨x,y,neS TO (zS TO (by simp)) _ O0⟩,I1.keep λo e=>neS i1 (zS i1 (by simp)) o e,I2.keep λo e=>neS i2 (zS i2 (by simp)) o e⟩
  .refine ⟨λb o e=>?_,?_,?_,λj T e=>?_⟩
   .by_cases hb:b=S
    .subst hb;obtain ⟨z1,z2⟩:=hch z (by simp);exact absurd (zVZ e) (Nat.not_lt.mpr (zVp z1 (zYK z2)))
    .exact neS b hb o (C'.kp b o e)
   .have e:=zWB (Obj.mapSeq (·.push (Value.ref h.objs.size))) hS rfl;rw[show (Ts++[h.objs.size]).map Value.ref=Ts.map Value.ref++[Value.ref h.objs.size] by simp];exact ⟨_,e.trans (by rw[<-List.push_toArray];rfl)⟩
   .rw[zWc];refine ⟨C.nd,by simp,λa ha b hb q=>?_⟩;have:b=h.objs.size:=by simpa using hb
    subst this;subst q;obtain ⟨j,hj⟩:=List.getElem?_of_mem ha;obtain ⟨_,x,y,_,_,p⟩:=C.up j _ hj;exact absurd (zVZ p) (zV6 _)
   .by_cases hj:j<Ts.length
    .rw[zVV hj]at e;obtain ⟨l,x,y,e1,e2,p⟩:=C'.up j T e;exact ⟨l,x,y,e1,e2,neS T (zWt l) _ p⟩
    .rw[zWY (by omega)]at e;have hj2:j=Ts.length:=by
      have:=(zVR.mp e).1;simp at this;omega
     subst hj2;simp at e;subst e;exact ⟨Slt,_,_,zVS l1,zVS l2,neS _ (zWt Slt) _ N'⟩
theorem zLC {b1 b2:Bool} {z TI TO i1 i2 t1 t2 S:Yt} {xs ys:Yf} {res:Yu} {h:Heap} {c:Nat} (hh:A.handled=none) (D:ZipApart z TI TO i1 i2 t1 t2) (T1:SO b1 s0.heap t1 xs.toArray) (T2:SO b2 s0.heap t2 ys.toArray) (hn:min xs.length ys.length<=sizeLine)
  (hch:∀ b∈[z,TO,i1,i2],s0.heap.objs.size<=b/\b<S) (hTI:S≠TI)
  (hR:∀ h' Ts,Col s0.heap S xs ys Ts h'->Ts.length=min xs.length ys.length->R (.ok (.ret res)) { s0 with heap:=h' })
  (Z:ZipA b1 b2 h z TI TO i1 i2 t1 t2 0) (hS:h.get? S=some { cls:=.type "list", data:=.seq #[] c }) (kp:∀ b o,s0.heap.get? b=some o->h.get? b=some o) :
  wpAny (model prog w) A.in1 (Builtin.List.listExtendWith (.ref S) (.ref z) res)
   (λfin s'=>match fin with|.done f=>R (.ok f) s'|.again c'=>c'.quiet=true/\codeAny (model prog w) A c' R s') (λe s'=>R (.error e) s') { s0 with heap:=h }:=by
 have zS:∀ b∈[z,TO,i1,i2],b≠S:=λb hb=>zVj (hch b hb).2;have hSz:S≠z:=Ne.symm (zS z (by simp));obtain ⟨⟨f,g,hf,Z0⟩,P0,⟨x,y,O0⟩,I1,I2⟩:=Z;have ty:Shared.TypeIs { s0 with heap:=h } (.ref z) "zip" := ⟨_,Z0,rfl⟩;unfold Builtin.List.listExtendWith;refine zVO (wpAny_typeOf ty ?_);have h1:Builtin.List.listSameRef (.ref S) (.ref z)=false:=by simp[Builtin.List.listSameRef,hSz]
 have h2:(Value.type "zip" == Value.type "list")=false:=by decide
 have h3:(Value.type "zip" == Value.type "tuple")=false:=by decide
 simp only[h1,h2,h3,Bool.or_false,zWP,if_false];refine zVO (zUG (s:={ s0 with heap:=h }) Z0 ?_);refine zVO (zWH ?_);unfold Builtin.List.listLengthHint;refine zVO (wpAny_specialOf ty zLE ?_);show wpAny _ A.in1 (specialOf (Value.ref z) (Str.ofString "__length_hint__") >>= _) _ _ _;refine zVO (wpAny_specialOf ty zJB ?_);refine zVQ ?_;show wpAny _ A.in1 (rule "list.extend.makes-room" >>= λ_=>Builtin.List.listTouch (.ref S) >>= λ_=>
  again (.builtin "list.extend.loop" ⟨[.ref S,.ref z,res],[]⟩)) _ _ _
 refine zVO (zWl ?_);refine zVO ?_;show wpAny _ A.in1 (updateSeq S (·.push .none) >>= λ_=>updateSeq S (·.pop)) _ _ _;refine zVO (wpAny_updateSeq (s:={ s0 with heap:=h }) hS rfl ?_);have hS₂:=zWB (Obj.mapSeq (·.push Value.none)) hS rfl;refine wpAny_updateSeq (hz:=by seq_fits) hS₂ rfl ?_;have hS₃:=zWB (Obj.mapSeq (·.pop)) hS₂ rfl;have oth:∀ b o,b≠S->h.get? b=some o->((h.update S (Obj.mapSeq (·.push Value.none))).update S (Obj.mapSeq (·.pop))).get? b=some o :=
  λb o hb e=>(zV5 _ _ (Ne.symm hb)).trans ((zV5 _ _ (Ne.symm hb)).trans e)
 refine zVQ ⟨plainId_quiet PySem.F.plain_extend_loop _,zPE hh D T1 T2 hn hch hTI hR _ _ [] rfl (zWA _) ?_ ?_⟩
 .exact ⟨⟨f,g,hf,oth z _ (zS z (by simp)) Z0⟩,oth TI _ (Ne.symm hTI) P0,⟨x,y,oth TO _ (zS TO (by simp)) O0⟩,I1.keep λo e=>oth i1 o (zS i1 (by simp)) e,I2.keep λo e=>oth i2 o (zS i2 (by simp)) e⟩
 .refine ⟨λb o e=>oth b o (λm=>?_) (kp b o e),⟨_,hS₃⟩,.nil,λj T e=>by simp at e⟩;subst m;obtain ⟨z1,z2⟩:=hch z (by simp);exact absurd (zVZ e) (Nat.not_lt.mpr (zVp z1 (zYK z2)))
theorem zOl {b1 b2:Bool} {z TI TO i1 i2 t1 t2:Yt} {xs ys:Yf} {h:Heap} {Q:Yc} (hh:A.handled=none) (D:ZipApart z TI TO i1 i2 t1 t2) (T1:SO b1 s0.heap t1 xs.toArray) (T2:SO b2 s0.heap t2 ys.toArray) (hn:min xs.length ys.length<=sizeLine)
  (hch:∀ b∈[z,TO,i1,i2],s0.heap.objs.size<=b) (Z:ZipA b1 b2 h z TI TO i1 i2 t1 t2 0) (kp:∀ b o,s0.heap.get? b=some o->h.get? b=some o)
  (hQ:∀ h' Ts,Col s0.heap h.objs.size xs ys Ts h'->Ts.length=min xs.length ys.length->Q (.ref h.objs.size) { s0 with heap:=h' }) :
  wpAny (model prog w) A (call (.type "list") [.ref z]) Q E { s0 with heap:=h }:=by
 refine callType_codes (Q₁:=λobj s₁=>obj=.ref h.objs.size/\s₁={ s0 with heap:=h.push { cls:=.type "list", data:=.seq #[] } }) PySem.F.called_list (PySem.F.typeCall_list_1 _) PySem.F.entry_list_init
  (code_list_new _ ⟨rfl,rfl⟩) λobj s₁ h₁=>?_
 obtain ⟨rfl,rfl⟩:=h₁;have hS:(h.push { cls:=.type "list", data:=.seq #[] }).get? h.objs.size=some { cls:=.type "list", data:=.seq #[] }:=zVY _ rfl;obtain ⟨⟨f,g,hf,Z0⟩,P0,⟨x,y,O0⟩,I1,I2⟩:=Z;refine ⟨⟨_,hS,rfl⟩,PySem.F.args_list_init_2 _ _,?_⟩;show wpAny _ _ (do let old <- Builtin.List.listItems (.ref h.objs.size);Builtin.List.listUpdate (.ref h.objs.size) (λ_=> #[]);letGo old.toList.reverse;Builtin.List.listExtendWith (.ref h.objs.size) (.ref z) .none) _ _ _;refine zVO ?_;unfold Builtin.List.listItems;refine zVO (zWE hS rfl (zVQ ?_));show wpAny _ _ (updateSeq h.objs.size (λ_=> #[]) >>= λ_=>letGo (#[]:Array Value).toList.reverse >>= λ_=>Builtin.List.listExtendWith (.ref h.objs.size) (.ref z) .none) _ _ _;refine zVO (wpAny_updateSeq hS rfl ?_);have hS₂:=zWB (Obj.mapSeq (λ_=>(#[]:Array Value))) hS rfl;have oth:∀ b o,h.get? b=some o->((h.push { cls:=.type "list", data:=.seq #[] }).update h.objs.size (Obj.mapSeq (λ_=>(#[]:Array Value)))).get? b=some o :=
  λb o e=>(zV5 _ _ (zWt (zVZ e))).trans (zVP _ e)
 refine zVO (wpAny_letGo ?_);have lt:∀ b∈[z,TO,i1,i2],b<h.objs.size:=λb hb=>by
  obtain ⟨o1,e1,_⟩:=I1.obj;obtain ⟨o2,e2,_⟩:=I2.obj;simp only[zVa,zVt,zWj]at hb;rcases hb with rfl|rfl|rfl|rfl
  .exact zVZ Z0
  .exact zVZ O0
  .exact zVZ e1
  .exact zVZ e2
 refine zLC (s0:=s0) (A:=A.in1) hh D T1 T2 hn (λb hb=>⟨hch b hb,lt b hb⟩) (zWt (zVZ P0)) (λh' Ts C l=>⟨rfl,hQ h' Ts C l⟩) ?_ hS₂ λb o e=>oth b o (kp b o e);exact ⟨⟨f,g,hf,oth z _ Z0⟩,oth TI _ P0,⟨x,y,oth TO _ O0⟩,I1.keep λo e=>oth i1 o e,I2.keep λo e=>oth i2 o e⟩
end
section
variable {X:Cx} {zB:Yd} {σ:L2.St} {s:Yl}
theorem zH0:∀ (Ts:Yg) (ps:List (V × V)) (H:Hp),Inv X zB σ H s->Ts.length=ps.length->Ts.Nodup->(∀ T∈Ts,zBr X zB H T/\X.s₀.heap.objs.size<=T) ->
  (∀ (j:Nat) T p,Ts[j]?=some T->ps[j]?=some p -> ∃ x y,zn p.1 x/\zn p.2 y/\IsPair s.heap T x y) ->
  ∃ H',Inv X zB σ H' s/\(∀ a o,H a=some o->H' a=some o)/\(∀ a,a∉Ts->H' a=H a) /\ ∀ (j:Nat) T p,Ts[j]?=some T->ps[j]?=some p->H' T=some (.tup [p.1,p.2])
 |[],ps,H,I,_,_,_,_=>⟨H,I,λ_ _ e=>e,λ_ _=>rfl,λj T p e _=>by simp at e⟩
 |T::Ts,[],H,I,hl,_,_,_=>by simp at hl
 |T::Ts,p::ps,H,I,hl,nd,fp,hp=>by
  obtain ⟨⟨f0,f1,f2,f3,f4,f5⟩,g0⟩:=fp T (by simp);obtain ⟨x,y,rx,ry,q⟩:=hp 0 T p rfl rfl;have nT:T∉Ts:=(zWi.mp nd).1;have I2:Inv X zB σ (upd H T (.tup [p.1,p.2])) s:=I.trackAt q f0 g0 f1 f4 f5 ⟨by show 2<=sizeLine;decide,[x,y],.cons rx (.cons ry .nil),⟨_,q,rfl,⟨_,rfl⟩,rfl⟩⟩;obtain ⟨H',I',up,ot,at'⟩:=zH0 Ts ps _ I2 (by simpa using hl) (zWi.mp nd).2 (λU hU=>by
   obtain ⟨⟨a0,a1⟩,b0⟩:=fp U (by simp[hU]);exact ⟨⟨by rw[zT (show U≠T from λm=>nT (m▸hU))];exact a0,a1⟩,b0⟩) λj U r e1 e2=>hp (j+1) U r (by simpa using e1) (by simpa using e2)
  refine ⟨H',I',λa o e=>up a o (by rw[zT (zk e f0)];exact e),λa ha=>?_,λj U r e1 e2=>?_⟩
  .rw[ot a (λm=>ha (by simp[m])),zT (λm=>ha (by simp[m]))]
  .cases j with
   |zero=>
    simp at e1 e2;subst e1 e2;rw[ot T nT];exact zj
   |succ j=>exact at' j U r (by simpa using e1) (by simpa using e2)
end
section
variable {X:Cx} {a b:Expr} {p p2 pos pos2:Pos}
theorem zKV (hc:X.calm=true) (hgT:Gl X "list") (hmT:X.mg "list" = none) (hg:Gl X "zip") (hm:X.mg "zip" = none) (ha:PA X [a,b] ta)
  (hs:starEach [a,b] X.env=[(false,eval a X.env),(false,eval b X.env)]:=by rfl) (hs2:starEach [b] X.env=[(false,eval b X.env)]:=by rfl)
  (hs':starEach [.Call (.Name "zip" p2) [a,b] [] pos2] X.env=(false,eval (.Call (.Name "zip" p2) [a,b] [] pos2) X.env)::starEach [] X.env:=by rfl) (hpl':(backTo pos (starEach [] X.env)).any (·.1)=false:=by rfl) :
  PE X (.Call (.Name "list" p) [.Call (.Name "zip" p2) [a,b] [] pos2] [] pos) (λσ H Q=>ta σ H λvs H1=>∃ b1 b2 l1 l2 xs ys,vs=[.ref l1,.ref l2]/\SqG X.K b1 H1 l1 xs/\SqG X.K b2 H1 l2 ys/\min xs.length ys.length<=sizeLine /\
   ∀ (l:Yt) (Ts:Yg) (H':Hp),H1 l=none->Ts.length=min xs.length ys.length->(∀ a o,H1 a=some o->H' a=some o)->H' l=some (.lst (Ts.map V.ref)) ->
    (∀ (j:Nat) T x y,Ts[j]?=some T->xs[j]?=some x->ys[j]?=some y->H' T=some (.tup [x,y]))->Q (.ref l) H'):=by
 intro zB s σ H Q I h;refine wpAny_Call_Name_kw (zD7 I hgT hmT (by rfl) ?_ (by decide) (by decide));refine callWith_type1 ?_ hs' hpl';rw[hs'];show wpAny _ _ (spliced ((false,eval (.Call (.Name "zip" p2) [a,b] [] pos2) X.env)::backTo pos (starEach [] X.env))) _ _ s;refine Calls.spliced_cons ?_;refine Call_ (zD7 I hg hm (by rfl) (PyProof.Rows.callWith_type1 (thn (ha pos2 zB s σ H _ I h) λus s1 ⟨vs,H1,I1,r1,q1⟩=>?_) (by rw[hs,hs2]) (by rw[hs2];rfl)));obtain ⟨b1,b2,l1,l2,xs,ys,rfl,s1',s2',hz,q⟩:=q1;cases r1 with
 |cons r rr=>
  cases rr with
  |cons r' rr=>
   cases rr;cases r;cases r';obtain ⟨its,rv,p1⟩:=zK4 I1 s1';obtain ⟨its2,rv2,p2⟩:=zK4 I1 s2';have d1:l1<s1.heap.objs.size:=zTW p1;have d2:l2<s1.heap.objs.size:=zTW p2;have n1:=rv.length;have n2:=rv2.length;refine zO3 p1 p2 λh' Z kp=>Calls.spliced_nil ?_;refine zOl (s0:=s1) (I1.ok.hd hc) (zipApart_new d1 d2) p1 p2 (by rw[<-n1,<-n2];exact hz) (λc hc=>?_) ⟨⟨.none,false,.inl rfl,Z.z⟩,Z.ti,Z.to,Z.a,Z.b⟩ kp λh2 Ts C lT=>?_
   .simp only[zVa,zVt,zWj]at hc;rcases hc with rfl|rfl|rfl|rfl
    .exact Nat.le_add_right _ 4
    .exact Nat.le_add_right _ 3
    .exact zVU _
    .exact Nat.le_add_right _ 1
   .have I2:Inv X zB σ H1 { s1 with heap:=h2 }:=I1.kept (t':=s1.toks) C.kp;have gz:s1.heap.objs.size<=h'.objs.size:=zYK (Nat.lt_of_le_of_lt (Nat.le_add_right _ 4) (zVZ Z.z));have ge:∀ T∈Ts,h'.objs.size<T:=λT hT=>by
     obtain ⟨j,hj⟩:=List.getElem?_of_mem hT;exact (C.up j T hj).1
    have gs:∀ T,s1.heap.objs.size<=T->zBr X zB H1 T/\X.s₀.heap.objs.size<=T:=λT g=>⟨I1.fpOk g (I1.hok.fresh g),zVp I1.sz g⟩;have lps:(xs.zip ys).length=min xs.length ys.length:=List.length_zip;obtain ⟨H',I',up,ot,at'⟩:=zH0 Ts (xs.zip ys) H1 I2 (by rw[lps,lT,<-n1,<-n2]) C.nd (λT hT=>gs T (zVp gz (zYK (ge T hT)))) λj T pr e1 e2=>by
     obtain ⟨_,x,y,ex,ey,pp⟩:=C.up j T e1;obtain ⟨f1,f2⟩:=List.getElem?_zip_eq_some.mp e2;obtain ⟨u,hu,ru⟩:=rv.get f1;obtain ⟨u2,hu2,ru2⟩:=rv2.get f2;rw[hu]at ex;rw[hu2]at ey;cases ex;cases ey;exact ⟨_,_,ru,ru2,pp⟩
    obtain ⟨c,hS⟩:=C.lst;obtain ⟨⟨f0,f1,f2,f3,f4,f5⟩,g0⟩:=gs h'.objs.size gz;have nS:h'.objs.size∉Ts:=λm=>zV6 _ (ge _ m);have nH':H' h'.objs.size=none:=by rw[ot _ nS];exact f0
    have I3:Inv X zB σ (upd H' h'.objs.size (.lst (Ts.map V.ref))) { s1 with heap:=h2 }:=I'.trackAt hS nH' g0 f1 f4 f5 (show zAT X.prog X.w _ h2 _ (.lst (Ts.map V.ref)) from
     ⟨by rw[zVX,lT,<-n1,<-n2];exact hz,Ts.map Value.ref,c,zLo (by simp) (λi y u e1 e2=>by
      rw[zVl]at e1 e2;cases e3:Ts[i]? with
      |none=>rw[e3]at e1;cases e1
      |some T=>rw[e3]at e1 e2;cases e1;cases e2;rfl),hS⟩)
    refine ⟨.ref h'.objs.size,_,I3,rfl,q _ Ts _ f0 (by rw[lT,<-n1,<-n2]) (λa o e=>?_) zj λj T x y e1 e2 e3=>?_⟩
    .rw[zT (zk (up a o e) nH')];exact up a o e
    .have tt:=at' j T (x,y) e1 (List.getElem?_zip_eq_some.mpr ⟨e2,e3⟩);rw[zT (zk tt nH')];exact tt
def zHs (g:FA):FE:=λσ M=>match g σ M with
 |some ([x,y],M1)=>match zAQ M1 (.dat x),zAQ M1 (.dat y) with
  |some xs,some ys=>if (xs.zip ys).length<=sizeLine then some (.fl ((xs.zip ys).map λq=>D.tup [q.1,q.2]),M1) else none
  |_,_=>none
 |_=>none
theorem zMI:∀ {ds:List D} {vs:List V},vs.length=ds.length->(∀ (i:Nat) d v,ds[i]?=some d->vs[i]?=some v->Rep L H d v)->zL L H ds vs
 |[],[],_,_=> .nil
 |[],_::_,h,_=>by cases h
 |_::_,[],h,_=>by cases h
 |d::ds,v::vs,h,q=> .cons (q 0 d v rfl rfl) (zMI (Nat.succ.inj h) λi d' v' e1 e2=>q (i+1) d' v' (by simpa using e1) (by simpa using e2))
theorem zNH (hc:X.calm=true) (hgT:Gl X "list") (hmT:X.mg "list" = none) (hg:Gl X "zip") (hm:X.mg "zip" = none) (ha:QA X [a,b] g)
  (hs:starEach [a,b] X.env=[(false,eval a X.env),(false,eval b X.env)]:=by rfl) (hs2:starEach [b] X.env=[(false,eval b X.env)]:=by rfl)
  (hs':starEach [.Call (.Name "zip" p2) [a,b] [] pos2] X.env=(false,eval (.Call (.Name "zip" p2) [a,b] [] pos2) X.env)::starEach [] X.env:=by rfl) (hpl':(backTo pos (starEach [] X.env)).any (·.1)=false:=by rfl) :
  QE X (.Call (.Name "list" p) [.Call (.Name "zip" p2) [a,b] [] pos2] [] pos) (zHs g):=.mk <| PE.imp (zKV hc hgT hmT hg hm ha.un hs hs2 hs' hpl') λτ H Q zz=>by
 obtain ⟨L,σ,M,d,M',c,rs,hf,q⟩:=zz;unfold zHs at hf;split at hf
 .rename_i x y M1 e1;split at hf
  .rename_i ds es' e2 e3;split at hf
   .rename_i hz;cases hf;refine ⟨L,σ,M,_,_,c,rs,e1,λL1 H1 vs s1 c1 r1=>?_⟩;obtain ⟨v,v',rfl,r2,r3⟩:=r1.two;obtain ⟨b1,l1,rfl,_,k1⟩:=zLD c1 r2 e2;obtain ⟨b2,l2,rfl,_,k2⟩:=zLD c1 r3 e3;obtain ⟨ws1,g1,p1⟩:=k1 L1 H1 _ (.refl _ _) c1 e2;obtain ⟨ws2,g2,p2⟩:=k2 L1 H1 _ (.refl _ _) c1 e3;have hl:min ws1.length ws2.length=(ds.zip es').length:=by rw[List.length_zip,p1.length,p2.length]
    refine ⟨b1,b2,l1,l2,ws1,ws2,rfl,g1,g2,by rw[hl];exact hz,λl Ts H' h0 hT up hH at'=>?_⟩;obtain ⟨n0,n1⟩:=zHp s1 c c1 h0;have st:Stp L1 H1 L1 H':=.grow up;refine q L1 H' _ (s1.trans st) (c1.grow up) ⟨l,_,rfl,n0,hH,n1,zMI (by simp[hT,hl]) λi d v e4 e5=>?_⟩;rw[zVl]at e4 e5;cases e6:(ds.zip es')[i]? with
    |none=>rw[e6]at e4;cases e4
    |some pr=>
     cases e7:Ts[i]? with
     |none=>rw[e7]at e5;cases e5
     |some T=>
      rw[e6]at e4;rw[e7]at e5;cases e4;cases e5;obtain ⟨f1,f2⟩:=List.getElem?_zip_eq_some.mp e6;obtain ⟨u,hu,ru⟩:=p1.get f1;obtain ⟨u2,hu2,ru2⟩:=p2.get f2;unfold Rep;exact ⟨T,_,rfl,at' i T u u2 e7 hu hu2,.cons (ru.stp st) (.cons (ru2.stp st) .nil)⟩
   .cases hf
  .cases hf
 .cases hf
end
end L3
namespace Law
open PySem PySem.Spec PyProof.Rows L2 L3
def zDj:FS:=(zV (zh 1 (fOp zAP (fB zBM (zM (zC 0) za)) (fC (.int 3))))
  (zV (zCM (zv (fSl (zC 0) zFM (zEi (fC (.int 63))))) (gN 2) (zh 1 (fOp zFD (fOp zAP (fOp zAP (fOp zNd (zC 1) (fC (.int 6364136223846793))) (fOp zFD (zC 2) (fOp zOc (fC (.int 10)) (fC (.int 30))))) (fC (.int 1442695040888963))) (fC (.int 2305843009213693951)))))
  (zAY (zA5 (zD (toD (zi [2] (zv (fSl (zC 0) zFM (zEi (fC (.int 63))))) (gN 2) (tst (fOp kGe (fB zMQ (zM (zC 2) za)) (fOp zOc (fC (.int 10)) (fC (.int 18))))) (fB zMQ (zM (zC 2) za)))) (zD (toD (zC 1)) zG))))))
def zBD:FF:=zBH 3 zDj
def zEC:FS:=(zV (zAv (zBO (tst (fOp kNe (fOp kIx (zC 0) (fC (.int 0))) (zA5 zG))) (tst (fOp kEq (fOp kIx (fOp kIx (zC 0) (fC (.int 0))) (fC (.int 0))) (fC (.int 0))))) (zBQ (fM zKQ (fOp kIx (zC 0) (fC (.int 0))) (zD (toD (fC (.int 0))) zG))) 100)
  (zV (sIf (tst (fOp kNe (fOp kIx (zC 0) (fC (.int 0))) (zA5 zG))) (zV (zh 2 (fOp zFD (fOp kIx (fOp kIx (zC 0) (fC (.int 0))) (fC (.int 0))) (zC 1)))
  (zV (zLH (fOp zNV (fOp kIx (fOp kIx (zC 0) (fC (.int 0))) (fC (.int 0))) (zC 1)) (fOp kIx (zC 0) (fC (.int 0))) (fC (.int 0)))
  (zAY (zC 2)))) zBu)
  (zV (zLH (fOp zFD (fOp zAP (fOp zNd (fOp kIx (zC 0) (fC (.int 1))) (fC (.int 6364136223846793))) (fC (.int 1442695040888963))) (fC (.int 2305843009213693951))) (zC 0) (fC (.int 1)))
  (zAY (fOp zFD (fOp zNV (fOp zFD (fOp zNd (fOp kIx (zC 0) (fC (.int 1))) (fOp kIx (zC 0) (fC (.int 1)))) (fC (.int 2305843009213693921))) (fC (.int 65537))) (zC 1))))))
def zU:FF:=zBH 3 zEC
structure Gen (M:Mem) (n k:Nat):Prop where
 ex:∃ (c:Ye) (s:Int),M[n]?=some (.lst [.ref k,.int s])/\M[k]?=some (.lst (c.map D.int))/\(∀ x∈c,0<=x)/\c.length<=63/\0<=s/\s<2305843009213693951
 ne:n≠k
 wf:∀ (j:Nat) u,M[j]?=some u->MO.und M.length u=true
structure Nx (M M':Mem) (n k:Nat):Prop where
 gen:Gen M' n k
 len:M'.length=M.length
 fr:∀ j,j≠n->j≠k->M'[j]?=M[j]?
theorem Nx.refl (h:Gen M n k):Nx M M n k:=⟨h,rfl,λ_ _ _=>rfl⟩
theorem Nx.trans {M M1 M2:Mem} {n k:Nat} (a:Nx M M1 n k) (b:Nx M1 M2 n k):Nx M M2 n k:=⟨b.gen,b.len.trans a.len,λj h1 h2=>(b.fr j h1 h2).trans (a.fr j h1 h2)⟩
theorem zx (n:Nat):∀ c:List Int,D.unds n (c.map D.int)=true
 |[]=>rfl
 |x::r=>by
  show (D.und n (D.int x)&&D.unds n (r.map D.int))=true;rw[zx n r];rfl
theorem Gen.lt (h:Gen M n k):n<M.length/\k<M.length:=by
 obtain ⟨c,s,e1,e2,_⟩:=h.ex;exact ⟨(zVR.mp e1).1,(zVR.mp e2).1⟩
theorem Gen.put {M:Mem} (h:Gen M n k) {c:Ye} (hc:∀ x∈c,0<=x) (hl:c.length<=63) (h0:0<=s) (h1:s<2305843009213693951) :
  Nx M ((M.set k (.lst (c.map D.int))).set n (.lst [.ref k,.int s])) n k:=by
 obtain ⟨hn,hk⟩:=h.lt;refine ⟨⟨⟨c,s,?_,?_,hc,hl,h0,h1⟩,h.ne,λj u e=>?_⟩,by simp,λj h1 h2=>?_⟩
 .rw[zWI (by simpa using hn)]
 .rw[zVs h.ne,zWI hk]
 .rw[List.length_set,List.length_set];rw[zWx]at e;split at e
  .split at e
   .cases e;show D.unds _ _=true;unfold D.unds D.unds D.unds D.und;simp[hk]
   .cases e
  .rw[zWx]at e;split at e
   .rename_i z;subst z;cases e;exact zx _ _
   .exact h.wf j u e
 .rw[zVs (Ne.symm h1),zVs (Ne.symm h2)]
theorem zFu {M:Mem} (h:M[k]?=some u):M.set k u=M:=by
 apply List.ext_getElem?;intro i;rw[zWx];split
 .rename_i e;subst e;rw[zVd (zVR.mp h).1];exact h.symm
 .rfl
theorem zJT:∀ {a b:Ye},a.map D.int=b.map D.int->a=b
 |[],[],_=>rfl
 |[],_::_,h=>by cases h
 |_::_,[],h=>by cases h
 |x::a,y::b,h=>by
  rw[zVh,zVh]at h;have h1:=(zWS h).1;have h2:=zJT (zWS h).2;cases h1;rw[h2]
theorem at0 {x:D} {xs:List D}:atI (x::xs) 0=some x:=zIk (k:=0) rfl
theorem at1 {x y:D} {xs:List D}:atI (x::y::xs) 1=some y:=zIk (k:=1) rfl
theorem zRP (h:Gen M n k) (h0:0<m) (h1:m<1073741824) :
  Ok (zU [.ref n,.int m] M) λd M'=>(∃ i,d=.int i/\0<=i/\i<m)/\Nx M M' n k:=by
 unfold zU;rw[zAK];unfold zEC;rw[zJ];have st:∀ {M:Mem} {c:Ye} {s:Int} {σ:Sd} {P:EV->Mem->Prop},σ[0]?=some (some (.ref n))->M[n]?=some (.lst [.ref k,.int s])->P (.dat (.ref k)) M->Ok (fOp kIx (zC 0) (fC (.int 0)) σ M) P:=λhσ hM p=>
  zAH.mpr (zt.mpr ⟨_,hσ,zCO.mpr (zKU (zAA hM) at0 p)⟩)
 have sd:∀ {M:Mem} {s:Int} {σ:Sd} {P:EV->Mem->Prop},σ[0]?=some (some (.ref n))->M[n]?=some (.lst [.ref k,.int s])->P (.dat (.int s)) M->Ok (fOp kIx (zC 0) (fC (.int 1)) σ M) P:=λhσ hM p=>
  zAH.mpr (zt.mpr ⟨_,hσ,zCO.mpr (zKU (zAA hM) at1 p)⟩)
 have hd:∀ {M:Mem} {c:Ye} {x s:Int} {σ:Sd} {P:EV->Mem->Prop},σ[0]?=some (some (.ref n))->M[n]?=some (.lst [.ref k,.int s])->M[k]?=some (.lst ((x::c).map D.int))->P (.dat (.int x)) M->Ok (fOp kIx (fOp kIx (zC 0) (fC (.int 0))) (fC (.int 0)) σ M) P:=λ{M c x s σ P} hσ hM hK p=>
  zAH.mpr (st (c:=c) hσ hM (zCO.mpr (zKU (zAA hK) at0 p)))
 have ne:∀ {M:Mem} {c:Ye} {s:Int} {σ:Sd} {P:Bool->Mem->Prop},σ[0]?=some (some (.ref n))->M[n]?=some (.lst [.ref k,.int s])->M[k]?=some (.lst (c.map D.int))->P (!c.isEmpty) M->Ok (tst (fOp kNe (fOp kIx (zC 0) (fC (.int 0))) (zA5 zG)) σ M) P:=λ{M c s σ P} hσ hM hK p=>by
  refine zKq.mpr (zAH.mpr (st (c:=c) hσ hM (zLR.mpr (zCW.mpr ⟨zWA _,?_⟩))));rw[zQk (zBj hK) (by intro d e;cases e;rfl)];rw[zK0];simpa using p
 have W:∀ (fuel m':Nat) (σ:Sd) (M':Mem),m'<fuel->((σ=[some (.ref n),some (.int m),none]/\Nx M M' n k) /\ ∃ (c:Ye) (s:Int),M'[n]?=some (.lst [.ref k,.int s])/\M'[k]?=some (.lst (c.map D.int))/\c.length=m') ->
   OkS (zAv (zBO (tst (fOp kNe (fOp kIx (zC 0) (fC (.int 0))) (zA5 zG))) (tst (fOp kEq (fOp kIx (fOp kIx (zC 0) (fC (.int 0))) (fC (.int 0))) (fC (.int 0))))) (zBQ (fM zKQ (fOp kIx (zC 0) (fC (.int 0))) (zD (toD (fC (.int 0))) zG))) fuel σ M')
    (λo σ1 M1=>o=.nx/\σ1=[some (.ref n),some (.int m),none]/\Nx M M1 n k):=by
  intro fuel m' σ M' hlt hI;refine zB8 (I:=λm' σ M'=>(σ=[some (.ref n),some (.int m),none]/\Nx M M' n k) /\ ∃ (c:Ye) (s:Int),M'[n]?=some (.lst [.ref k,.int s])/\M'[k]?=some (.lst (c.map D.int))/\c.length=m') ?_ fuel m' σ M' hlt hI;rintro m' σ M' ⟨⟨rfl,nx⟩,c,s,e1,e2,hl⟩;refine zRX.mpr (ne rfl e1 e2 ?_);cases c with
  |nil=>simp;exact nx
  |cons x c=>
   simp only[List.isEmpty_cons,Bool.not_false,if_true];refine zKq.mpr (zAH.mpr (hd rfl e1 e2 (zCO.mpr (zJP.mpr (zK0.mpr ?_)))));by_cases hx:x=0
   .rw[zVd (by simpa using hx)];refine zCI.mpr (zLP.mpr (st (c:=c) rfl e1 ⟨⟨_,zBj e2⟩,zAm.mpr (zAf.mpr (zCO.mpr (zI.mpr (zCW.mpr ?_))))⟩));rw[zVh]at e2;rw[zTL e2];refine ⟨c.length,by rw[<-hl];simp,?_⟩;obtain ⟨c',s',z1,z2,z3,z4,z5,z6⟩:=nx.gen.ex;rw[e1]at z1;cases z1;rw[e2]at z2;have hcc:c'=x::c:=by
     have:(x::c).map D.int=c'.map D.int:=by have:=z2;simp only[Option.some.injEq,MO.lst.injEq]at this;simpa using this
     exact (zJT this).symm
    subst hcc;have P:=nx.gen.put (c:=c) (s:=s) (λy hy=>z3 y (zVb _ hy)) (by simp at z4;omega) z5 z6;have q:((M'.set k (.lst (c.map D.int))).set n (.lst [.ref k,.int s]))=M'.set k (.lst (c.map D.int)):=zFu (by rw[zVs (Ne.symm nx.gen.ne)];exact e1);rw[q]at P;have hk:=nx.gen.lt.2;refine ⟨⟨rfl,nx.trans P⟩,c,s,?_,?_,rfl⟩
    .rw[zVs (Ne.symm nx.gen.ne)];exact e1
    .rw[zWI hk]
   .rw[zVg (by simpa using hx)];first|exact ⟨rfl,rfl,nx⟩|exact ⟨trivial,trivial,nx⟩|simpa using nx
 obtain ⟨c,s,e1,e2,e3,e4,_⟩:=h.ex;refine OkS.mono (W 100 c.length _ M (by omega) ⟨⟨rfl,.refl h⟩,c,s,e1,e2,rfl⟩) ?_;rintro o σ M1 ⟨rfl,rfl,nx⟩;rw[zQ,zJ,zBW];obtain ⟨c,s,e1,e2,e3,e4,e5,e6⟩:=nx.gen.ex;refine ne rfl e1 e2 ?_;cases c with
 |nil=>
  simp only[List.isEmpty_nil,Bool.not_true,zWP,if_false];rw[zAx,zQ,zJ,zIe];refine zAH.mpr (zAH.mpr (zAH.mpr (sd rfl e1 (zCO.mpr (zON.mpr ⟨by simp[zMt] <;> omega,zCO.mpr (zEK.mpr (zCO.mpr (zFK.mpr ⟨by decide,?_⟩)))⟩)))));rw[zI];refine zt.mpr ⟨_,rfl,zCO.mpr ?_⟩;rw[zI];have hs0:0<=(s*6364136223846793+1442695040888963) % 2305843009213693951:=Int.emod_nonneg _ (by decide);have hs1:(s*6364136223846793+1442695040888963) % 2305843009213693951<2305843009213693951:=Int.emod_lt_of_pos _ (by decide);generalize (s*6364136223846793+1442695040888963) % 2305843009213693951=s' at hs0 hs1;have P:=nx.gen.put (c:=[]) (s:=s') (λ_ h=>by cases h) (by simp) hs0 hs1;rw[zFu (show M1[k]?=some (.lst (([]:List Int).map D.int))from e2)]at P;refine ⟨_,zGb (k:=1) e1 (by simp),?_⟩;rw[zQ,zAG];have e1':(M1.set n (.lst [.ref k,.int s']))[n]?=some (.lst [.ref k,.int s']):=zWI nx.gen.lt.1;refine zAH.mpr (zAH.mpr (zAH.mpr (zAH.mpr (sd rfl e1' (sd rfl e1' (zON.mpr ⟨by simp[zMt] <;> omega,zCO.mpr (zFK.mpr ⟨by decide,zCO.mpr (zOo.mpr ⟨by decide,zt.mpr ⟨_,rfl,zFK.mpr ⟨h0,?_⟩⟩⟩)⟩)⟩))))));rw[zI];exact ⟨⟨_,rfl,Int.emod_nonneg _ (by omega),Int.emod_lt_of_pos _ h0⟩,nx.trans P⟩
 |cons x c=>
  simp only[List.isEmpty_cons,Bool.not_false,if_true];rw[zJ,zW];refine zAH.mpr (hd rfl e1 e2 (zt.mpr ⟨_,rfl,zFK.mpr ⟨h0,?_⟩⟩));rw[zI,zQ,zJ,zIe];refine zAH.mpr (hd rfl e1 e2 (zt.mpr ⟨_,rfl,zOo.mpr ⟨⟨h0,h1⟩,?_⟩⟩));rw[zI];refine st (c:=c) rfl e1 (zCO.mpr ?_);rw[zI];refine ⟨_,zGb (k:=0) e2 (by simp),?_⟩;rw[zQ,zAG];refine zt.mpr ⟨_,rfl,?_⟩;rw[zI,zCv];have hx:=e3 x zVc;have P:=nx.gen.put (c:=(x / m)::c) (s:=s) (λy hy=>by
   rcases zVa.mp hy with z|z
   .subst z;exact Int.ediv_nonneg hx (by omega)
   .exact e3 y (zVb _ z)) (by simpa using e4) e5 e6
  rw[zFu (k:=n) (by rw[zVs (Ne.symm nx.gen.ne)];exact e1)]at P;exact ⟨⟨_,rfl,Int.emod_nonneg _ (by omega),Int.emod_lt_of_pos _ h0⟩,nx.trans P⟩
theorem zPO (ns:Ye) (lo hi:Ys):∃ c:List Int,L3.zFS (ns.map D.int) lo hi=c.map D.int/\c.length<=ns.length:=by
 refine ⟨(ns.drop (HT.sIx ns.length 0 lo)).take (HT.sIx ns.length ns.length hi-HT.sIx ns.length 0 lo),?_,?_⟩
 .unfold L3.zFS;rw[zVX,List.map_take,List.map_drop]
 .rw[zWm,zXr];omega
theorem zCg (h:x::r=c.map D.int):∃ y c',c=y::c'/\x=.int y/\r=c'.map D.int:=by
 cases c with
 |nil=>cases h
 |cons y c'=>rw[zVh]at h;exact ⟨y,c',rfl,(zWS h).1,(zWS h).2⟩
theorem zAU:zAo none xs M:=trivial
theorem zm (h:n<=100000):n<=sizeLine:=zVp h (by decide)
theorem zP1 {ns:Ye} (h:ns.length<=63):Ok (zBD [.ref 0] [.fro (ns.map D.int)]) λd M'=>d=.ref 2/\Gen M' 2 1/\M'[0]?=some (.fro (ns.map D.int))/\M'.length=3:=by
 unfold zBD;rw[zAK];unfold zDj;have e0:([.fro (ns.map D.int)]:Mem)[0]?=some (.fro (ns.map D.int)):=rfl;obtain ⟨cut,ec,lc⟩:=zPO ns none (some 63);have sl:∀ {σ:Sd} {P:EV->Mem->Prop},σ[0]?=some (some (.ref 0))->P (.fl (cut.map D.int)) [.fro (ns.map D.int)]->Ok (fSl (zC 0) zFM (zEi (fC (.int 63))) σ [.fro (ns.map D.int)]) P:=λhσ p=>by
  refine zRq.mpr (zt.mpr ⟨_,hσ,zKN.mpr (zKT.mpr (zCO.mpr (zKD.mpr ?_)))⟩);rw[zN7 (zLk e0) rfl,ec];exact p
 rw[zJ,zW];refine zAH.mpr (zKc.mpr (zCK.mpr (zt.mpr ⟨_,rfl,zCt.mpr ((zRm (zQB e0)).mpr (zCO.mpr (zEK.mpr ?_)))⟩)));rw[zI,zQ,zJ,zA6];obtain ⟨x,M1,ex,px⟩:=sl (σ:=[some (.ref 0),some (.int (((ns.map D.int).length:Int)+3)),none]) (P:=λx M=>x=.fl (cut.map D.int)/\M=[.fro (ns.map D.int)]) rfl ⟨rfl,rfl⟩;obtain ⟨rfl,rfl⟩:=px;refine ⟨_,_,_,zCU ex zCh,?_⟩;refine zAr (I:=λr σ M=>M=[.fro (ns.map D.int)]/\(∃ c:List Int,r=c.map D.int) /\ ∃ s y,σ=[some (.ref 0),some (.int s),y]/\0<=s/\s<2305843009213693951) ?_ ?_ _ _ _ ⟨rfl,⟨cut,rfl⟩,_,none,rfl,by simp;omega,by simp;omega⟩
 .rintro x r σ M ⟨rfl,⟨c,hc⟩,s,y,rfl,h0,h1⟩;obtain ⟨z,c',rfl,rfl,rfl⟩:=zCg hc;refine ⟨zAU,_,rfl,?_⟩;rw[zW];refine zAH.mpr (zAH.mpr (zAH.mpr (zAH.mpr (zt.mpr ⟨_,rfl,zCO.mpr (zON.mpr ⟨by simp[zMt],?_⟩)⟩))));refine zAH.mpr (zt.mpr ⟨_,rfl,zAH.mpr (zCO.mpr (zCO.mpr (zRo.mpr ⟨by decide,zFK.mpr ⟨by decide,zEK.mpr (zCO.mpr (zEK.mpr (zCO.mpr (zFK.mpr ⟨by decide,?_⟩))))⟩⟩)))⟩);rw[zI];exact ⟨rfl,⟨c',rfl⟩,_,_,rfl,Int.emod_nonneg _ (by decide),Int.emod_lt_of_pos _ (by decide)⟩
 .rintro σ M ⟨rfl,_,s,y,rfl,h0,h1⟩;refine ⟨zAU,?_⟩;rw[zQ,zAG,zLR,zAm,zAf,zDs];obtain ⟨x,M1,ex,px⟩:=sl (σ:=[some (.ref 0),some (.int s),y]) (P:=λx M=>x=.fl (cut.map D.int)/\M=[.fro (ns.map D.int)]) rfl ⟨rfl,rfl⟩;obtain ⟨rfl,rfl⟩:=px;refine ⟨_,_,_,zCU ex zCh,by rw[zVX];exact zm (by omega),?_⟩;refine Ok.mono (zDm (I:=λr acc M=>M=[.fro (ns.map D.int)]/\(∃ c:List Int,r=c.map D.int)/\r.length+acc.length<=63 /\ ∃ b:List Int,acc=b.map D.int /\ ∀ x∈b,0<=x) (Q:=λacc M=>M=[.fro (ns.map D.int)]/\acc.length<=63 /\ ∃ b:List Int,acc=b.map D.int /\ ∀ x∈b,0<=x) ?_ ?_ _ [] _ ⟨rfl,⟨cut,rfl⟩,by simp;omega,[],rfl,λ_ h=>by cases h⟩) ?_
  .rintro x r acc M ⟨rfl,⟨c,hc⟩,hl,b,rfl,hb⟩;obtain ⟨z,c',rfl,rfl,rfl⟩:=zCg hc;refine ⟨zAU,_,rfl,?_⟩;refine zKq.mpr (zAH.mpr (zKc.mpr (zCK.mpr (zt.mpr ⟨_,rfl,zCt.mpr (zRl.mpr (zAH.mpr (zCO.mpr (zCO.mpr (zRo.mpr ⟨by decide,zVJ.mpr (zK0.mpr ?_)⟩)))))⟩))));by_cases hz:(10:Int) ^ (18:Int).toNat<=(if z<0 then -z else z)
   .rw[zVd (by simpa using hz)];refine zKc.mpr (zCK.mpr (zt.mpr ⟨_,rfl,zCt.mpr (zRl.mpr (zI.mpr ⟨rfl,⟨c',rfl⟩,?_,b++[if z<0 then -z else z],by simp,?_⟩))⟩))
    .simp at hl ⊢;omega
    .intro y hy;rcases zVo.mp hy with q|q
     .exact hb y q
     .have:y=if z<0 then -z else z:=by simpa using q
      rw[this];split <;> omega
   .rw[zVg (by simpa using hz)];exact ⟨rfl,⟨c',rfl⟩,by simp at hl ⊢;omega,b,rfl,hb⟩
  .rintro acc M ⟨rfl,_,hl,hb⟩;exact ⟨zAU,rfl,by simpa using hl,hb⟩
  .rintro ys M ⟨rfl,hl,b,hb,hp⟩;rw[List.nil_append]at hb hl;subst hb;rw[zFd,zAm,zAf,zt];refine ⟨_,rfl,?_⟩;rw[zI,zCW];refine ⟨zm (by simp),?_⟩;rw[zFd];refine ⟨rfl,⟨⟨b,s,rfl,rfl,hp,by simpa using hl,h0,h1⟩,by decide,?_⟩,rfl,rfl⟩;intro j u e;match j,e with
   |0,e=>cases e;exact zx _ _
   |1,e=>cases e;exact zx _ _
   |2,e=>cases e;rfl
   |j+3,e=>simp at e
mutual
theorem zF6 (h:a<=b):∀ {d:D},D.und a d=true->D.und b d=true
 |.non,_=>by unfold D.und;rfl
 |.bl _,_=>by unfold D.und;rfl
 |.int _,_=>by unfold D.und;rfl
 |.str _,_=>by unfold D.und;rfl
 |.tup ds,e=>by unfold D.und at e ⊢;exact zB5 h e
 |.ref k,e=>by unfold D.und at e ⊢;simp at e ⊢;omega
theorem zB5 (h:a<=b):∀ {ds:List D},D.unds a ds=true->D.unds b ds=true
 |[],_=>by unfold D.unds;rfl
 |d::ds,e=>by
  unfold D.unds at e ⊢;rw[zVy]at e ⊢;exact ⟨zF6 h e.1,zB5 h e.2⟩
end
theorem zHi (h:a<=b) (e:MO.und a u=true):MO.und b u=true:=by
 cases u with
 |lst xs=>exact zB5 h e
 |fro xs=>exact zB5 h e
 |set xs=>exact zB5 h e
 |dict kvs|dicT kvs|froT kvs|froK kvs=>
  unfold MO.und at e ⊢;rw[zVz]at e ⊢;intro p hp;have:=e p hp;rw[zVy]at this ⊢;exact ⟨zF6 h this.1,zF6 h this.2⟩
theorem zGV:∀ {xs ys:List D},D.unds n (xs++ys)=(D.unds n xs&&D.unds n ys)
 |[],ys=>by simp[D.unds]
 |x::xs,ys=>by
  show (D.und n x&&D.unds n (xs++ys))=((D.und n x&&D.unds n xs)&&D.unds n ys);rw[zGV,Bool.and_assoc]
theorem zFs:∀ {xs:List D},(∀ x∈xs,D.und n x=true)->D.unds n xs=true
 |[],_=>rfl
 |x::xs,h=>by
  show (D.und n x&&D.unds n xs)=true;rw[h x zVc,zFs λy hy=>h y (zVb _ hy)];rfl
theorem zAs (c:Ye):D.und n (.tup (c.map D.int))=true:=by unfold D.und;exact zx n c
theorem Gen.app (h:Gen A n k) (hu:∀ u∈us,MO.und (A.length+us.length) u=true):Gen (A++us) n k:=by
 obtain ⟨c,s,e1,e2,r⟩:=h.ex;obtain ⟨hn,hk⟩:=h.lt;refine ⟨⟨c,s,by rw[zVV hn];exact e1,by rw[zVV hk];exact e2,r⟩,h.ne,λj u e=>?_⟩;rw[zVe];by_cases hj:j<A.length
 .rw[zVV hj]at e;exact zHi (by omega) (h.wf j u e)
 .rw[zWY (by omega)]at e;exact hu u (List.mem_of_getElem? e)
theorem zAI (h:Gen M n k) (ha:fa σ M=some (.dat (.ref n),M)) (hb:fb σ M=some (.dat (.int m),M)) (h0:0<m) (h1:m<1073741824)
  (q:∀ i M',0<=i->i<m->Nx M M' n k->P (.dat (.int i)) M'):Ok (zP zU (zD (toD fa) (zD (toD fb) zG)) σ M) P:=by
 rw[zBi,zAm,zAf];refine ⟨_,_,ha,?_⟩;rw[zI,zAm,zAf];refine ⟨_,_,hb,?_⟩;rw[zI,zCW];refine Ok.mono (zRP h h0 h1) ?_;rintro d M' ⟨⟨i,rfl,i0,i1⟩,nx⟩;exact q i M' i0 i1 nx
def zCA (i:Nat):Nat->List D
 |0=>[]
 |n+1=> .int i::zCA (i+1) n
theorem zIu (n:Nat):∀ i,((List.range' i n).map λ(k:Nat)=>D.int k)=zCA i n:=by
 induction n with
 |zero=>intro i;rfl
 |succ n ih=>intro i;rw[List.range'_succ,zVh,ih];rfl
theorem zEf (n:Nat):((List.range n).map λ(k:Nat)=>D.int k)=zCA 0 n:=by rw[List.range_eq_range',zIu]
theorem zBe:∀ (n i:Nat),(zCA i n).length=n
 |0,_=>rfl
 |n+1,i=>by show (zCA (i+1) n).length+1=_;rw[zBe n]
theorem zIv (n:Nat) (I:Nat->Sd->Mem->Prop)
  (hs:∀ i σ M,i<n->I i σ M -> ∃ σ1,g (.int i) σ=some σ1/\OkS (b σ1 M) λo σ2 M2=>match o with|.nx=>I (i+1) σ2 M2|.cnt=>I (i+1) σ2 M2|.brk=>P .nx σ2 M2|.ret d=>P (.ret d) σ2 M2)
  (he:∀ σ M,I n σ M->P .nx σ M) (σ:Sd) (M:Mem) (h0:I 0 σ M):OkS (zCV g b all none (zCA 0 n) σ M) P:=by
 refine zAr (I:=λr σ M=>∃ i,i<=n/\r=zCA i (n-i)/\I i σ M) ?_ ?_ _ _ _ ⟨0,zWA _,by simp,h0⟩
 .rintro x r σ M ⟨i,hi,e,hI⟩;have hlt:i<n:=by
   rcases Nat.lt_or_ge i n with z|z
   .exact z
   .rw[show n-i=0 by omega]at e;cases e
  rw[show n-i=(n-(i+1))+1 by omega]at e;obtain ⟨rfl,rfl⟩:=zWS e;obtain ⟨σ1,e1,q⟩:=hs i σ M hlt hI;refine ⟨zAU,σ1,e1,OkS.mono q ?_⟩;intro o σ2 M2 z;cases o with
  |nx=>exact ⟨i+1,hlt,rfl,z⟩
  |cnt=>exact ⟨i+1,hlt,rfl,z⟩
  |brk=>exact z
  |ret d=>exact z
 .rintro σ M ⟨i,hi,e,hI⟩;have:i=n:=by
   rcases Nat.lt_or_ge i n with z|z
   .rw[show n-i=(n-(i+1))+1 by omega]at e;cases e
   .omega
  subst this;exact ⟨zAU,he σ M hI⟩
theorem zLS (n:Nat) (I:Nat->List D->Mem->Prop)
  (hs:∀ i acc M,i<n->I i acc M -> ∃ σ1,g (.int i) σ=some σ1/\Ok (te σ1 M) (zFT λd M2=>I (i+1) (acc++[d]) M2)) (h0:I 0 [] M) :
  Ok (zAk g ze te σ all none (zCA 0 n) M) λys M1=>I n ys M1:=by
 refine Ok.mono (zDm (I:=λr acc M=>∃ i,i<=n/\r=zCA i (n-i)/\I i acc M) (Q:=λacc M=>I n acc M) ?_ ?_ _ [] _ ⟨0,zWA _,by simp,h0⟩) λys M1 q=>by simpa using q
 .rintro x r acc M ⟨i,hi,e,hI⟩;have hlt:i<n:=by
   rcases Nat.lt_or_ge i n with z|z
   .exact z
   .rw[show n-i=0 by omega]at e;cases e
  rw[show n-i=(n-(i+1))+1 by omega]at e;obtain ⟨rfl,rfl⟩:=zWS e;obtain ⟨σ1,e1,q⟩:=hs i acc M hlt hI;refine ⟨zAU,σ1,e1,zJF.mpr ?_⟩;rw[zVd rfl];refine Ok.mono q ?_;intro x M2 z;cases x with
  |dat d=>exact ⟨i+1,hlt,rfl,z⟩
  |fl xs=>exact ⟨i+1,hlt,rfl,z⟩
 .rintro acc M ⟨i,hi,e,hI⟩;have:i=n:=by
   rcases Nat.lt_or_ge i n with z|z
   .rw[show n-i=(n-(i+1))+1 by omega]at e;cases e
   .omega
  subst this;exact ⟨zAU,hI⟩
theorem zBs (e:f σ M=some (.dat (.int j),M)) (h1:0<=j) (h2:j<2 ^ 62):zy (zD (toD f) zG) σ M=some (zCA 0 j.toNat,none,M):=by
 have e':(zD (toD f) zG) σ M=some ([.int j],M):=by unfold zD toD zG;rw[e]
 rw[zGl e' h1 h2,zEf]
def mD (zA:Ya):D:=.tup (zA.map λr=> .tup (r.map D.int))
structure IsM (zA:Ya) (l:Nat):Prop where
 r0:0<zA.length
 l0:0<l
 row:∀ r∈zA,r.length=l /\ ∀ g∈r,0<=g/\g<zA.length
theorem zDA (zA:Ya):D.und n (mD zA)=true:=by
 unfold mD D.und;refine zFs λx hx=>?_;obtain ⟨r,_,rfl⟩:=zVf.mp hx;exact zAs r
theorem zY {α:Type} {x:Option (α × Mem)} {a:α} {M:Mem} (h:Ok x λb M'=>b=a/\M'=M):x=some (a,M):=by
 obtain ⟨b,M',e,rfl,rfl⟩:=h;exact e
theorem zE {α:Type} {x:Option (α × Mem)} {a:α} {M:Mem} {P:α->Mem->Prop} (h:x=some (a,M)) (p:P a M):Ok x P:=⟨a,M,h,p⟩
theorem zGj {c:FT} {a:FS} {σ:Sd} {M:Mem} {P:Out->Sd->Mem->Prop} (hc:c σ M=some (false,M)) (h:P .nx σ M):OkS (sIf c a zBu σ M) P:=by
 rw[zBW];refine zE hc ?_;rw[zVg (by decide),zAx];exact h
theorem zo {f:FE} {σ:Sd} {M:Mem} {d:D} (h:f σ M=some (.dat d,M)):zD (toD f) zG σ M=some ([d],M):=by
 unfold zD toD zG;rw[h]
theorem zAO {f:FE} {g:FA} {σ:Sd} {M:Mem} {d:D} {ds:List D} (h:f σ M=some (.dat d,M)) (hg:g σ M=some (ds,M)):zD (toD f) g σ M=some (d::ds,M):=by
 unfold zD toD;rw[h];dsimp only;rw[hg]
theorem zAJ {m:FF} {a:FA} {σ:Sd} {M M':Mem} {ds:List D} {d:D} (h:a σ M=some (ds,M)) (hm:m ds M=some (d,M')):zP m a σ M=some (.dat d,M'):=by
 unfold zP;rw[h];dsimp only;rw[hm]
theorem zN {k:K2} {f g:FE} {σ:Sd} {M:Mem} {x y:EV} {r:Option (EV × Mem)} (hf:f σ M=some (x,M)) (hg:g σ M=some (y,M)) (hk:k x y M=r):fOp k f g σ M=r:=by
 unfold fOp;rw[hf];dsimp only;rw[hg];exact hk
theorem zA3 {x:EV} {xs:List D} {i:Int} {d:D} {M:Mem} (h:zAQ M x=some xs) (hd:atI xs i=some d):kIx x (.dat (.int i)) M=some (.dat d,M):=zY (zKU h hd ⟨rfl,rfl⟩)
theorem zGT {f:FE} {x:EV} {xs:List D} {σ:Sd} {M:Mem} (hf:f σ M=some (x,M)) (h:zAQ M x=some xs):fB zBM (zM f za) σ M=some (.dat (.int xs.length),M):=by
 unfold fB zM za;rw[hf];exact zY ((zRm h).mpr ⟨rfl,rfl⟩)
def zOA:FS:=(zV (zh 3 (zC 1))
  (zV (zCM (zv (zC 2)) (gN 4) (zh 3 (fOp kIx (fOp kIx (zC 0) (zC 3)) (zC 4))))
  (zAY (zC 3))))
def zET:FF:=zDX (zBH 5 zOA)
def zq (zA:Ya) (h g:Int):Int:=(zA.getD h.toNat []).getD g.toNat 0
def zCs (zA:Ya) (room:Int) (word:Ye):Int:=word.foldl (zq zA) room
theorem zI5 {zA:Ya} {h:Int} (h0:0<=h) (h1:h<zA.length):atI (zA.map λr=>D.tup (r.map D.int)) h=some (.tup ((zA.getD h.toNat []).map D.int)):=by
 refine zI3 h0 ?_;rw[zVl,zVT,zVS (by omega)];rfl
theorem zC7 {r:Ye} {g:Int} (h0:0<=g) (h1:g<r.length):atI (r.map D.int) g=some (.int (r.getD g.toNat 0)):=by
 refine zI3 h0 ?_;rw[zVl,zVT,zVS (by omega)];rfl
theorem IsM.get {zA:Ya} {l:Nat} (m:IsM zA l) {h:Int} (h0:0<=h) (h1:h<zA.length):(zA.getD h.toNat []).length=l /\ ∀ g∈zA.getD h.toNat [],0<=g/\g<zA.length:=by
 refine m.row _ ?_;rw[zVT,zVS (by omega)];exact zVw _
theorem IsM.step {zA:Ya} {l:Nat} (m:IsM zA l) {h g:Int} (h0:0<=h) (h1:h<zA.length) (g0:0<=g) (g1:g<l):0<=zq zA h g/\zq zA h g<zA.length:=by
 obtain ⟨q1,q2⟩:=m.get h0 h1;refine q2 _ ?_;unfold zq;rw[zVT (l:=zA.getD h.toNat []),zVS (by omega)];exact zVw _
theorem IsM.ix {zA:Ya} {l:Nat} (m:IsM zA l) {h g:Int} (h0:0<=h) (h1:h<zA.length) (g0:0<=g) (g1:g<l) {f1 f2 f3:FE} {σ:Sd} {M:Mem} (e1:f1 σ M=some (.dat (mD zA),M)) (e2:f2 σ M=some (.dat (.int h),M)) (e3:f3 σ M=some (.dat (.int g),M)) :
  fOp kIx (fOp kIx f1 f2) f3 σ M=some (.dat (.int (zq zA h g)),M):=by
 obtain ⟨q1,_⟩:=m.get h0 h1;exact zN (zN e1 e2 (zA3 zg (zI5 h0 h1))) e3 (zA3 zg (zC7 g0 (by omega)))
theorem zSf {zA:Ya} {l:Nat} (m:IsM zA l) {room:Int} {word:Ye} {M:Mem} (h0:0<=room) (h1:room<zA.length) (hw:∀ g∈word,0<=g/\g<l):zET [mD zA,.int room,.tup (word.map D.int)] M=some (.int (zCs zA room word),M):=by
 refine zY ?_;unfold zET;refine zDG (by unfold D.unds D.unds D.unds D.unds;rw[zDA];simp[zAs,D.und,zx]) ?_;rw[zAK];unfold zOA;rw[zJ,zW];refine zt.mpr ⟨_,rfl,?_⟩;rw[zI,zQ,zJ,zA6];refine ⟨_,_,_,zCU rfl zg,?_⟩;refine zAr (I:=λr σ M'=>M'=[] /\ ∃ (h:Int) (y:Option D) (c:Ye),σ=[some (mD zA),some (.int room),some (.tup (word.map D.int)),some (.int h),y]/\r=c.map D.int/\(∀ g∈c,0<=g/\g<(l:Int))/\0<=h/\h<zA.length/\zCs zA h c=zCs zA room word) ?_ ?_ _ _ _ ⟨rfl,room,none,word,rfl,rfl,hw,h0,h1,rfl⟩
 .rintro x r σ M' ⟨rfl,h,y,c,rfl,hc,hg,h0,h1,e⟩;obtain ⟨z,c',rfl,rfl,rfl⟩:=zCg hc;refine ⟨zAU,_,rfl,?_⟩;rw[zW];obtain ⟨g0,g1⟩:=hg z zVc;refine zE (m.ix h0 h1 g0 g1 rfl rfl rfl) ?_;rw[zI];obtain ⟨s0,s1⟩:=m.step h0 h1 g0 g1;exact ⟨rfl,_,_,c',rfl,rfl,λg hg'=>hg g (zVb _ hg'),s0,s1,e⟩
 .rintro σ M' ⟨rfl,h,y,c,rfl,hc,hg,h0,h1,e⟩;refine ⟨zAU,?_⟩;rw[zQ,zAG];refine zt.mpr ⟨_,rfl,?_⟩;rw[zI];have:c=[]:=by cases c with|nil=>rfl|cons _ _=>cases hc
  subst this;refine ⟨rfl,?_,rfl⟩;rw[<-e];rfl
theorem zAj (h:f σ M=some (.dat (.bl k),M')):tst f σ M=some (k,M'):=by unfold tst;rw[h]
theorem zBI (hf:f σ M=some (.dat d,M)) (h:P (.ret d) σ M):OkS (zAY f σ M) P:=by
 rw[zAG];exact zE hf h
theorem zAd {α:Type} (as:List α) (enc out:α->D) (hi:fi σ M=some (as.map enc,gd,M)) (hgd:zAo gd (as.map enc) M) (hz:as.length<=100000)
  (he:∀ a∈as,∃ σ1,g (enc a) (zA2 own σ)=some σ1/\te σ1 M=some (.dat (out a),M)):zi own fi g ze te σ M=some (.fl (as.map out),M):=by
 refine zY (zDs.mpr ⟨_,_,_,hi,by rw[zVX];exact zm hz,?_⟩);refine Ok.mono (zDm (I:=λr acc M'=>M'=M /\ ∃ ra rb:List α,as=rb++ra/\r=ra.map enc/\acc=rb.map out) (Q:=λacc M'=>M'=M/\acc=as.map out) ?_ ?_ _ [] _ ⟨rfl,as,[],rfl,rfl,rfl⟩) ?_
 .rintro x r acc M' ⟨rfl,ra,rb,hab,hr,rfl⟩;cases ra with
  |nil=>cases hr
  |cons a ra=>
   rw[zVh]at hr;obtain ⟨rfl,rfl⟩:=zWS hr;obtain ⟨σ1,e1,e2⟩:=he a (by rw[hab];simp);refine ⟨hgd,σ1,e1,zJF.mpr ?_⟩;rw[zVd rfl];refine zE e2 ?_;rw[zI];exact ⟨rfl,ra,rb++[a],by rw[hab];simp,rfl,by simp⟩
 .rintro acc M' ⟨rfl,ra,rb,hab,hr,rfl⟩;cases ra with
  |nil=>rw[zV8]at hab;subst hab;exact ⟨hgd,rfl,rfl⟩
  |cons a ra=>cases hr
 .rintro ys M' ⟨rfl,h⟩;rw[List.nil_append]at h;subst h;exact ⟨rfl,rfl⟩
theorem zCr (hf:f σ M=some (x,M)) (h:zAQ M x=some xs):fB zAg (zM f za) σ M=some (.dat (.tup xs),M):=by
 unfold fB zM za;rw[hf];exact zY ((zFZ h).mpr ⟨rfl,rfl⟩)
theorem zDD (hf:f σ M=some (.dat (.tup xs),M)):zv f σ M=some (xs,none,M):=zCU hf zg
theorem zKf (n:Nat):zCA 0 n=(List.range n).map λ(k:Nat)=>D.int k:=(zEf n).symm
theorem zEn (e:f σ M=some (.dat (.int j),M)) (h1:0<=j) (h2:j<2 ^ 62):zy (zD (toD f) zG) σ M=some ((List.range j.toNat).map (λ(k:Nat)=>D.int k),none,M):=by
 rw[zBs e h1 h2,zKf]
theorem zBv (hf:f σ M=some (.dat d,M)) (h:OkS (g (σ.set i (some d)) M) P):OkS (zV (zh i f) g σ M) P:=by
 rw[zJ,zW];exact zE hf h
theorem zP7 (h:f σ M=some (.dat d,M')):zD (toD f) zG σ M=some ([d],M'):=by
 unfold zD toD zG;rw[h]
theorem zGn {α β:Type} (f:α->β) (d:α):∀ xs:List α,(List.range xs.length).map (λi=>f (xs.getD i d))=xs.map f
 |[]=>rfl
 |x::xs=>by
  rw[zVv,List.range_succ_eq_map,zVh,zVm,zVh,<-zGn f d xs];rfl
open ST
def ris (xs:Ye):List Int:=zDJ (zO xs)
theorem zCR (xs:Ye) (x:Int):x∈ris xs ↔ x∈xs:=by
 unfold ris;rw[(zBd _).mem_iff,zAR]
theorem zIc (xs:Ye):(ris xs).Pairwise (· < ·):=by
 have h1:=zFg (zO xs);have h2:(ris xs).Nodup:=(zBd _).nodup_iff.mpr (zBz xs);unfold ris at h2 ⊢;exact (h1.and h2).imp λ{a b} h=>by have:=h.1;have:=h.2;omega
theorem zE6:∀ {xs ys:Ye},xs.Pairwise (· < ·)->ys.Pairwise (· < ·)->(∀ x,x∈xs ↔ x∈ys)->xs=ys
 |[],[],_,_,_=>rfl
 |[],y::ys,_,_,h=>by have:=(h y).mpr zVc;cases this
 |x::xs,[],_,_,h=>by have:=(h x).mp zVc;cases this
 |x::xs,y::ys,h1,h2,h=>by
  have hx:=List.pairwise_cons.mp h1;have hy:=List.pairwise_cons.mp h2;have e:x=y:=by
   have a:=(h x).mp zVc;have b:=(h y).mpr zVc;rcases zVa.mp a with z|z
   .exact z
   .rcases zVa.mp b with q|q
    .exact q.symm
    .have:=hx.1 y q;have:=hy.1 x z;omega
  subst e;rw[zE6 hx.2 hy.2 λz=>?_];constructor
  .intro hz;rcases zVa.mp ((h z).mp (zVb _ hz))with q|q
   .subst q;have:=hx.1 _ hz;omega
   .exact q
  .intro hz;rcases zVa.mp ((h z).mpr (zVb _ hz))with q|q
   .subst q;have:=hy.1 _ hz;omega
   .exact q
theorem zIS (h:∀ x,x∈xs ↔ x∈ys):ris xs=ris ys:=zE6 (zIc xs) (zIc ys) λx=>by rw[zCR,zCR];exact h x
theorem zPr (h:xs.Pairwise (· < ·)):ris xs=xs:=zE6 (zIc xs) h λx=>zCR xs x
theorem zME (xs:Ye):(ris xs).length<=xs.length:=by
 unfold ris;rw[(zBd _).length_eq];exact zBU xs
theorem zS5 (h:0<xs.length):0<(ris xs).length:=by
 cases xs with
 |nil=>cases h
 |cons x r=>exact zYa ((zCR (x::r) x).mpr zVc)
theorem zQt (f:Int->Int) (xs:Ye):ris ((ris xs).map f)=ris (xs.map f):=zIS λx=>by simp[zCR]
theorem zRS (h:zi own fi g tc te σ M=some (.fl (ks.map D.int),M)) (hz:ks.length<=4000):zHo own fi g tc te σ M=some (zO ks,M):=by
 unfold zHo;rw[h];dsimp only;rw[zCH];dsimp only;rw[zVd (by unfold scanBound;omega)]
theorem zOP (h:fz σ M=some (zO ks,M)) (hz:(zO ks).length<64):zF9 fz σ M=some (.fl ((ris ks).map D.int),M):=by
 unfold zF9;rw[h];dsimp only;rw[zVd hz];rfl
def zEr:FS:=(zAY (fB zAg (zM (zF9 (zHo [3] (zv (zC 1)) (gN 3) ze (fOp kIx (fOp kIx (zC 0) (zC 3)) (zC 2)))) za)))
def zAy:FF:=zDX (zBH 4 zEr)
def setR (zA:Ya) (S:Ye) (g:Int):List Int:=ris (S.map λh=>zq zA h g)
def zGY (zA:Ya) (S word:Ye):List Int:=word.foldl (setR zA) S
structure IsS (zA:Ya) (S:Ye):Prop where
 pw:S.Pairwise (· < ·)
 n0:0<S.length
 mem:∀ x∈S,0<=x/\x<(zA.length:Int)
theorem zNs:∀ {S:Ye} {a:Int} {n:Nat},S.Pairwise (· < ·)->(∀ x∈S,a<=x/\x<a+(n:Int))->S.length<=n
 |[],_,_,_,_=>zWA _
 |x::S,a,n,h,hm=>by
  have hx:=List.pairwise_cons.mp h;obtain ⟨m0,m1⟩:=hm x zVc;have hn:0<n:=by omega
  have:=zNs (S:=S) (a:=x+1) (n:=(a+n-(x+1)).toNat) hx.2 λy hy=>by
   have:=hx.1 y hy;have:=(hm y (zVb _ hy)).2;omega
  simp only[zVv];omega
theorem IsS.len (h:IsS zA S):S.length<=zA.length:=zNs h.pw (a:=0) λx hx=>by have:=h.mem x hx;omega
theorem IsM.setR {zA:Ya} {l:Nat} (m:IsM zA l) {S:Ye} (s:IsS zA S) {g:Int} (g0:0<=g) (g1:g<l):IsS zA (setR zA S g):=by
 refine ⟨zIc _,zS5 (by rw[zVX];exact s.n0),λx hx=>?_⟩;obtain ⟨y,hy,rfl⟩:=zVf.mp ((zCR _ _).mp hx);obtain ⟨y0,y1⟩:=s.mem y hy;exact m.step y0 y1 g0 g1
theorem zMA (zA:Ya):∀ (word:Ye) (S:Ye),zGY zA (ris S) word=ris (S.map λr=>zCs zA r word)
 |[],S=>by show ris S=ris (S.map λr=>r);rw[List.map_id']
 |g::w,S=>by
  show zGY zA (setR zA (ris S) g) w=_;unfold setR;rw[zQt];rw[zMA zA w];rw[zVm];rfl
theorem zJ5 (h:S.Pairwise (· < ·)) (word:Ye):zGY zA S word=ris (S.map λr=>zCs zA r word):=by
 have:=zMA zA word S;rw[zPr h]at this;exact this
def tI (xs:Ye):D:=.tup (xs.map D.int)
theorem zIV {zA:Ya} {l:Nat} (m:IsM zA l) (hR:zA.length<64) {S:Ye} (s:IsS zA S) {g:Int} (g0:0<=g) (g1:g<l) {M:Mem}:zAy [mD zA,tI S,.int g] M=some (tI (setR zA S g),M):=by
 refine zY ?_;unfold zAy;refine zDG (by unfold D.unds D.unds D.unds D.unds;rw[zDA];simp[tI,zAs,D.und,zx]) ?_;rw[zAK];unfold zEr;have hl:=s.len;have hz:(zO (S.map λh=>zq zA h g)).length<64:=by have:=zBU (S.map λh=>zq zA h g);rw[zVX]at this;omega
 refine zBI (d:=tI (setR zA S g)) ?_ ⟨by unfold tI;exact zAs _,rfl,rfl⟩;refine zCr (zOP (ks:=S.map λh=>zq zA h g) (zRS ?_ (by rw[zVX];omega)) hz) zCh;refine (zAd S D.int (λh=> .int (zq zA h g)) (zDD rfl) trivial (by omega) λh hh=>⟨_,rfl,?_⟩).trans ?_
 .obtain ⟨h0,h1⟩:=s.mem h hh;exact m.ix h0 h1 g0 g1 rfl rfl rfl
 .rw[zVm];rfl
end Law
namespace Law
open PySem PySem.Spec PyProof.Rows L2 L3 ST
theorem zPM {l:Ye} (h:x∈l):l.idxOf x<l.length:=List.idxOf_lt_length_iff.mpr h
theorem zOH:∀ {l:Ye} (_:l.Nodup) {k:Nat},k<l.length->l.idxOf (l.getD k 0)=k
 |y::l,h,0,_=>by simp
 |y::l,h,k+1,hk=>by
  have hn:=zWi.mp h;have hk':k<l.length:=by simpa using hk
  have hm:l.getD k 0∈l:=by rw[zVT,zVS hk'];exact zVw _
  have hne:y≠l.getD k 0:=λe=>hn.1 (e▸hm);show (y::l).idxOf (l.getD k 0)=k+1;rw[List.idxOf_cons,show (y==l.getD k 0)=false by simpa using hne];simp only[cond_false];rw[zOH hn.2 hk']
theorem zLO (hgd:zAo gd all M) (hg:g x σ=some σ1) (hk:tk σ1 M=some (.dat k,M)) (hv:tv σ1 M=some (.dat v,M)) (hp:zD0 M n k v=some M'):zCN g ze tk tv σ n all gd (x::r) M=zCN g ze tk tv σ n all gd r M':=by
 rw[zCN];rw[zVd hgd,hg];have et:ze σ1 M=some (true,M):=rfl;have e1:toD tk σ1 M=some (k,M):=by unfold toD;rw[hk]
 have e2:toD tv σ1 M=some (v,M):=by unfold toD;rw[hv]
 dsimp only;rw[et];dsimp only;rw[e1];dsimp only;rw[e2];dsimp only;rw[hp]
theorem zHQ (hgd:zAo gd all M):zCN g tc tk tv σ n all gd [] M=some M:=by
 rw[zCN,zVd hgd]
theorem zGf (e:f σ M=some (.dat (mD zA),M)):fB zBM (zM f za) σ M=some (.dat (.int zA.length),M):=by
 have:=zGT e zg;rw[zVX]at this;exact this
theorem zL4 (m:IsM zA l) (e:f σ M=some (.dat (mD zA),M)):fB zBM (zM (fOp kIx f (fC (.int 0))) za) σ M=some (.dat (.int l),M):=by
 have r0:=m.r0;have:=zGT (zN (g:=fC (.int 0)) e rfl (zA3 zg (zI5 (h:=0) (by omega) (by omega)))) zg;rw[zVX,(m.get (h:=0) (by omega) (by omega)).1]at this;exact this
theorem zR5 {bs:List Bool} (h:f σ M=some (.fl (bs.map D.bl),M)):fB zS6 (zM f za) σ M=some (.dat (.bl (bs.all id)),M):=by
 unfold fB zM za;rw[h];exact zY ((zUL zTE (zH4 bs)).mpr ⟨rfl,rfl⟩)
end Law
namespace Law
open PySem PySem.Spec PyProof.Rows L2 L3 ST
abbrev gL (k:Nat) (s:Int):MO:=.lst [.ref k,.int s]
theorem zTQ (hk:k<N):MO.und N (gL k s)=true:=by
 show D.unds _ _=true;unfold D.unds D.unds D.unds D.und;simp[hk]
structure Nw (M M':Mem) (n k:Nat):Prop where
 gen:Gen M' n k
 len:M.length<=M'.length
 fr:∀ j,j<M.length->j≠n->j≠k->M'[j]?=M[j]?
theorem Nw.trans {M M1 M2:Mem} {n k:Nat} (a:Nw M M1 n k) (b:Nw M1 M2 n k):Nw M M2 n k :=
 ⟨b.gen,zVp a.len b.len,λj h h1 h2=>(b.fr j (zVn h a.len) h1 h2).trans (a.fr j h h1 h2)⟩
theorem Nx.nw (x:Nx M M' n k):Nw M M' n k:=⟨x.gen,by rw[x.len];exact zVU _,λj _ h1 h2=>x.fr j h1 h2⟩
theorem Gen.lst (h:Gen A n k) (xs:List D) (hx:D.unds A.length xs=true):Nw A (A++[.lst xs]) n k:=⟨h.app λu hu=>by
 have:u=.lst xs:=by simpa using hu
 subst this;exact zB5 (by simp) hx,by simp,λj hj _ _=>zVV hj⟩
theorem Nw.setB (h:Nw M A n k) (g:Gen M n k) (hj:M.length<=j) (hu:MO.und A.length u=true):Nw M (A.set j u) n k:=by
 obtain ⟨hn,hk⟩:=g.lt;obtain ⟨c,s,e1,e2,r⟩:=h.gen.ex;refine ⟨⟨⟨c,s,by rw[zVs (by omega)];exact e1,by rw[zVs (by omega)];exact e2,r⟩,g.ne,λi v e=>?_⟩,by rw[List.length_set];exact h.len,λi hi h1 h2=>by rw[zVs (by omega)];exact h.fr i hi h1 h2⟩;rw[List.length_set];rw[zWx]at e;split at e
 .split at e
  .cases e;exact hu
  .cases e
 .exact h.gen.wf i v e
theorem Nw.wf0 (h:Nw M M' n k) (g:Gen M n k):∀ (j:Nat) u,j<M.length->M'[j]?=some u->MO.und M.length u=true:=λj u hj e=>by
 obtain ⟨hn,hk⟩:=g.lt;obtain ⟨c,s,e1,e2,r⟩:=h.gen.ex;by_cases q1:j=n
 .subst q1;rw[e1]at e;cases e;exact zTQ hk
 .by_cases q2:j=k
  .subst q2;rw[e2]at e;cases e;exact zx _ _
  .rw[h.fr j hj q1 q2]at e;exact g.wf j u e
theorem Nw.trim (h:Nw M M' n k) (g:Gen M n k):Nw M (M'.take M.length) n k:=by
 obtain ⟨hn,hk⟩:=g.lt;have tk:∀ j,j<M.length->(M'.take M.length)[j]?=M'[j]?:=λj hj=>List.getElem?_take_of_lt hj;have tl:(M'.take M.length).length=M.length:=by have:=h.len;rw[zWm];omega
 obtain ⟨c,s,e1,e2,r⟩:=h.gen.ex;refine ⟨⟨⟨c,s,(tk n hn).trans e1,(tk k hk).trans e2,r⟩,g.ne,λj u e=>?_⟩,by omega,λj hj h1 h2=>(tk j hj).trans (h.fr j hj h1 h2)⟩;have hj:j<M.length:=by have:=(zVR.mp e).1;omega
 rw[tk j hj]at e;rw[tl];exact h.wf0 g j u hj e
theorem Nw.get (h:Nw M M' n k) (e:M[j]?=some u) (h1:j≠n) (h2:j≠k):M'[j]?=some u :=
 (h.fr j (zVR.mp e).1 h1 h2).trans e
end Law
namespace Lac
open PySem PySem.Spec PyProof.Rows L2 L3 ST Law
def zDc:FS:=(zV (zh 2 (zA5 zG))
  (zV (zCM (zy (zD (toD (zC 1)) zG)) (gN 3) (zBQ (fM zDw (zC 2) (zD (toD (zP zU (zD (toD (zC 0)) (zD (toD (fOp zAP (zC 3) (fC (.int 1)))) zG)))) (zD (toD (zC 3)) zG)))))
  (zAY (zC 2))))
def zBl:FF:=zBH 4 zDc
def zDB:FS:=(zV (sIf (tst (fOp kEq (zC 1) (fC (.int 0)))) (zAY (zi [4] (zy (zD (toD (zC 2)) zG)) (gN 4) ze (zP zU (zD (toD (zC 0)) (zD (toD (zC 2)) zG))))) zBu)
  (zV (sIf (tst (fOp kEq (zC 1) (fC (.int 1)))) (zAY (zi [4] (zy (zD (toD (zC 2)) zG)) (gN 4) ze (fOp zFD (fOp zAP (zC 4) (zP zU (zD (toD (zC 0)) (zD (toD (fC (.int 3))) zG)))) (zC 2)))) zBu)
  (zV (sIf (tst (fOp kEq (zC 1) (fC (.int 2)))) (zV (zh 5 (fOp zNV (fOp zAP (zC 2) (fC (.int 1))) (fC (.int 2))))
  (zV (zh 6 (zi [4] (zy (zD (toD (zC 5)) zG)) (gN 4) ze (zP zU (zD (toD (zC 0)) (zD (toD (zC 5)) zG)))))
  (zAY (fOp zHd (zC 6) (zi [4] (zy (zD (toD (fOp zLN (zC 2) (zC 5))) zG)) (gN 4) ze (fOp zAP (zC 5) (zP zU (zD (toD (zC 0)) (zD (toD (fOp zLN (zC 2) (zC 5))) zG))))))))) zBu)
  (zV (sIf (zBO (tst (fOp kEq (zC 1) (fC (.int 3)))) (tst (fOp kEq (zC 3) (fC (.int 0))))) (zAY (zi [4] (zy (zD (toD (zC 2)) zG)) (gN 4) ze (fOp zFD (fOp zAP (zC 4) (fC (.int 1))) (zC 2)))) zBu)
  (zV (sIf (tst (fOp kEq (zC 1) (fC (.int 3)))) (zAY (zi [4] (zy (zD (toD (zC 2)) zG)) (gN 4) ze (fOp kIx (zA5 (zD (toD (zC 4)) (zD (toD (fC (.int 0))) zG))) (fB zLM (zM (fOp kEq (zC 4) (fOp zLN (zC 2) (fC (.int 1)))) za))))) zBu)
  (zV (sIf (zIg (tst (fOp kEq (zC 1) (fC (.int 4)))) (tst (fOp kEq (zC 1) (fC (.int 7))))) (zV (zh 7 (zP zU (zD (toD (zC 0)) (zD (toD (zC 2)) zG))))
  (zAY (zi [4] (zy (zD (toD (zC 2)) zG)) (gN 4) ze (fOp kIx (zA5 (zD (toD (fOp zFD (fOp zAP (zC 4) (zC 7)) (zC 2))) (zD (toD (zC 7)) zG))) (fB zLM (zM (fOp kEq (zC 1) (fC (.int 7))) za)))))) zBu)
  (zV (zh 8 (zP zBl (zD (toD (zC 0)) (zD (toD (zC 2)) zG))))
  (zV (sIf (zBO (tst (fOp kEq (zC 1) (fC (.int 6)))) (tst (fOp kEq (zC 3) (fC (.int 0))))) (zV (zh 9 (fOp kIx (zC 8) (zP zU (zD (toD (zC 0)) (zD (toD (zC 2)) zG)))))
  (zLH (zC 9) (zC 8) (zP zU (zD (toD (zC 0)) (zD (toD (zC 2)) zG))))) zBu)
  (zAY (zC 8))))))))))
def zBN:FF:=zBH 10 zDB
def zCe:FS:=(zV (zh 3 (zP zU (zD (toD (zC 0)) (zD (toD (fC (.int 8))) zG))))
  (zV (zh 4 (zi [5] (zy (zD (toD (zC 2)) zG)) (gN 5) ze (zP zBN (zD (toD (zC 0)) (zD (toD (zC 3)) (zD (toD (zC 1)) (zD (toD (zC 5)) zG)))))))
  (zAY (fB zAg (zM (zi [7] (zy (zD (toD (zC 1)) zG)) (gN 7) ze (fB zAg (zM (zi [6] (zv (zC 4)) (gN 6) ze (fOp kIx (zC 6) (zC 7))) za))) za)))))
def zAp:FF:=zJ3 (zBH 8 zCe)
def Col (many:Int) (c:Ye):Prop:=(c.length:Int)=many /\ ∀ x∈c,0<=x/\x<many
theorem zr (h:P (.ref M.length) (M++[.lst xs])):zFT P (.fl xs) M:=h
theorem zw (A:Mem) (u:MO):(A++[u])[A.length]?=some u:=by simp
theorem zUB (h:0<b):zFD (.dat (.int a)) (.dat (.int b)) M=some (.dat (.int (a % b)),M):=zY (zFK.mpr ⟨h,rfl,rfl⟩)
theorem zGJ {M:Mem} {n k:Nat} (h:Gen M n k) {own:Yj} {i:Nat} {f te:FE} {σ:Sd} {cnt lo hi:Int} (c0:0<=cnt) (c1:cnt<=90000) (hf:f σ M=some (.dat (.int cnt),M))
  (ht:∀ (r:Nat) (M':Mem),(r:Int)<cnt->Gen M' n k->Ok (te ((zA2 own σ).set i (some (.int r))) M') λx M''=>∃ v:Int,x=.dat (.int v)/\lo<=v/\v<hi/\Nx M' M'' n k) :
  Ok (zi own (zy (zD (toD f) zG)) (gN i) ze te σ M) λx M'=>(∃ c:List Int,x=.fl (c.map D.int)/\(c.length:Int)=cnt /\ ∀ y∈c,lo<=y/\y<hi)/\Nx M M' n k:=by
 refine zDs.mpr ⟨_,_,_,zBs hf c0 (by omega),by rw[zBe];exact zm (by omega),?_⟩;refine Ok.mono (zLS (n:=cnt.toNat) (I:=λj acc M2=>(∃ c:List Int,acc=c.map D.int/\c.length=j /\ ∀ y∈c,lo<=y/\y<hi)/\Nx M M2 n k) ?_ ⟨⟨[],rfl,rfl,λ_ h=>by cases h⟩,Nx.refl h⟩) ?_
 .rintro j acc M2 hj ⟨⟨c,rfl,hcl,hc⟩,nx⟩;refine ⟨_,rfl,?_⟩;refine Ok.mono (ht j M2 (by omega) nx.gen) ?_;rintro x M3 ⟨v,rfl,v0,v1,nx3⟩;rw[zI];refine ⟨⟨c++[v],by simp,by simp[hcl],λz hz=>?_⟩,nx.trans nx3⟩;rcases zVo.mp hz with q|q
  .exact hc z q
  .have:z=v:=by simpa using q
   subst this;exact ⟨v0,v1⟩
 .rintro ys M2 ⟨⟨c,rfl,hcl,hc⟩,nx⟩;exact ⟨⟨c,rfl,by omega,hc⟩,nx⟩
theorem zUm (ha:a σ M=some (.dat x,M)) (hb:b σ M=some (.dat y,M)):zA5 (zD (toD a) (zD (toD b) zG)) σ M=some (.fl [x,y],M):=by
 unfold zA5;rw[zAO ha (zo hb)];dsimp only;rw[zVd (zm (by simp))]
theorem zRk (hl:l σ M=some (.fl [x,y],M)) (ht:t σ M=some (.dat (.bl b),M)):fOp kIx l (fB zLM (zM t za)) σ M=some (.dat (if b then y else x),M):=by
 have e:fB zLM (zM t za) σ M=some (.dat (.int (if b then 1 else 0)),M):=by unfold fB zM za;rw[ht];rfl
 cases b with
 |true=>exact zN hl e rfl
 |false=>exact zN hl e rfl
theorem zNN (h:M[n]?=some (.lst xs)) (h0:0<=i) (h1:i.toNat<=xs.length) (hz:xs.length<90000):zDw (.dat (.ref n)) [.int i,d] M=some (.non,M.set n (.lst (xs.take i.toNat++[d]++xs.drop i.toNat))):=by
 unfold zDw;dsimp only;rw[h];dsimp only;rw[zVd ⟨h0,h1,zVn hz (zm (by omega))⟩]
theorem zOO (h:Gen M n k) (m0:0<many) (m1:many<=1000):Ok (zBl [.ref n,.int many] M) λd M'=>∃ j c,d=.ref j/\M'[j]?=some (.lst (c.map D.int))/\Col many c/\M.length<=j/\Nw M M' n k/\c.Perm ((List.range many.toNat).map λ(x:Nat)=>(x:Int)):=by
 obtain ⟨hn,hk⟩:=h.lt;unfold zBl;rw[zAK];unfold zDc;rw[zJ,zW];refine zLR.mpr (zCW.mpr ⟨zm (by simp),zr ?_⟩);rw[zQ,zJ,zA6];have nw1:=h.lst [] rfl;have e1:(M++[MO.lst ([]:List D)])[M.length]?=some (.lst []):=zw _ _;generalize M++[MO.lst ([]:List D)]=M1 at nw1 e1;refine ⟨_,_,_,zBs rfl (by omega) (by omega),?_⟩;refine zIv (n:=many.toNat) (I:=λi σ M'=>(∃ y,σ=[some (.ref n),some (.int many),some (.ref M.length),y]) /\ ∃ c:List Int,M'[M.length]?=some (.lst (c.map D.int))/\c.length=i/\(∀ x∈c,0<=x/\x<many)/\Nw M M' n k/\c.Perm ((List.range i).map λ(x:Nat)=>(x:Int))) ?_ ?_ _ _ ⟨⟨_,rfl⟩,[],e1,rfl,(λ_ h=>by cases h),nw1,.refl _⟩
 .rintro i σ M' hi ⟨⟨y,rfl⟩,c,ec,hcl,hc,nw,pm⟩;refine ⟨_,rfl,?_⟩;rw[zCI];refine zLP.mpr (zt.mpr ⟨_,rfl,⟨_,zBj ec⟩,zAm.mpr (zAf.mpr ?_)⟩);refine zAI nw.gen rfl (zN (x:=.dat (.int (i:Nat))) rfl rfl rfl) (by omega) (by omega) λq M2 q0 q1 nx=>?_;have ec2:=nx.nw.get ec (by omega) (by omega);rw[zI];refine zE (zo (d:=.int (i:Nat)) rfl) ?_;refine zE (zNN ec2 q0 (by rw[zVX];omega) (by rw[zVX];omega)) ?_;have hl:M.length<M2.length:=(zVR.mp ec2).1;refine ⟨⟨_,rfl⟩,c.take q.toNat++[(i:Int)]++c.drop q.toNat,?_,by simp;omega,λx hx=>?_,?_,?_⟩
  .rw[zWI hl];simp
  .simp only[zVo,zVq]at hx;rcases hx with (w|w)|w
   .exact hc x (List.mem_of_mem_take w)
   .omega
   .exact hc x (List.mem_of_mem_drop w)
  .refine (nw.trans nx.nw).setB h (zVU _) ?_;show D.unds _ _=true;rw[<-List.map_take,<-List.map_drop,zGV,zGV,zx,zx];rfl
  .rw[List.range_succ,zWG];refine List.Perm.trans ?_ (List.Perm.append_right _ pm);rw[zWU];refine List.Perm.trans (List.Perm.append_left _ List.perm_append_comm) ?_;rw[<-zWU,List.take_append_drop];exact .refl _
 .rintro σ M' ⟨⟨y,rfl⟩,c,ec,hcl,hc,nw,pm⟩;rw[zQ];exact zBI rfl ⟨M.length,c,rfl,ec,⟨by omega,hc⟩,zVU _,nw,pm⟩
theorem zQc (h:Col many c) (hj:j<c.length):0<=c.getD j 0/\c.getD j 0<many:=by
 rw[zVT,zVS hj];exact h.2 _ (zVw hj)
theorem zPh (h:Col many c) (hj:j<c.length):Col many (c.set i (c.getD j 0)):=by
 refine ⟨by rw[List.length_set];exact h.1,λx hx=>?_⟩;rcases List.mem_or_eq_of_mem_set hx with q|q
 .exact h.2 x q
 .rw[q,zVT,zVS hj];exact h.2 _ (zVw hj)
theorem zM0 {M:Mem} {n k:Nat} (h:Gen M n k) {fam many let_:Int} (m0:0<many) (m1:many<=1000) :
  Ok (zBN [.ref n,.int fam,.int many,.int let_] M) λd M'=>∃ j c,d=.ref j/\M'[j]?=some (.lst (c.map D.int))/\Col many c/\M.length<=j/\Nw M M' n k:=by
 obtain ⟨hn,hk⟩:=h.lt;unfold zBN;rw[zAK];unfold zDB;have isf:∀ (j:Int) (σ:Sd) (M:Mem),σ[1]?=some (some (.int fam))->tst (fOp kEq (zC 1) (fC (.int j))) σ M=some (decide (fam=j),M):=λj σ M e=>by
  have v4:zC 1 σ M=some (.dat (.int fam),M):=by unfold zC;rw[e]
  exact zAj (zN v4 rfl (zY (zJP.mpr ⟨rfl,rfl⟩)))
 have isl:∀ (σ:Sd) (M:Mem),σ[3]?=some (some (.int let_))->tst (fOp kEq (zC 3) (fC (.int 0))) σ M=some (decide (let_=0),M):=λσ M e=>by
  have v4:zC 3 σ M=some (.dat (.int let_),M):=by unfold zC;rw[e]
  exact zAj (zN v4 rfl (zY (zJP.mpr ⟨rfl,rfl⟩)))
 have andE:∀ {a b:FT} {σ:Sd} {M:Mem} {x y:Bool},a σ M=some (x,M)->b σ M=some (y,M)->zBO a b σ M=some (x&&y,M):=λ{a b σ M x y} ha hb=>by
  unfold zBO;rw[ha];cases x <;> first|exact hb|rfl
 have orE:∀ {a b:FT} {σ:Sd} {M:Mem} {x y:Bool},a σ M=some (x,M)->b σ M=some (y,M)->zIg a b σ M=some (x||y,M):=λ{a b σ M x y} ha hb=>by
  unfold zIg;rw[ha];cases x <;> first|exact hb|rfl
 have new:∀ (A:Mem) (c':Ye),Nw M A n k->Col many c' -> ∃ j c,D.ref A.length=D.ref j/\(A++[MO.lst (c'.map D.int)])[j]?=some (.lst (c.map D.int))/\Col many c/\M.length<=j/\Nw M (A++[MO.lst (c'.map D.int)]) n k:=λA c' nw hc'=>
  ⟨A.length,c',rfl,zw _ _,hc',nw.len,nw.trans (nw.gen.lst _ (zx _ _))⟩
 rw[zJ,zBW];refine zE (isf 0 _ _ rfl) ?_;by_cases w0:fam=0
 .rw[zVd (by simpa using w0),zAG];refine Ok.mono (zGJ h (cnt:=many) (lo:=0) (hi:=many) (by omega) (by omega) rfl λr M' hr g=>zAI g rfl rfl m0 (by omega) λi M2 i0 i1 nx=>⟨i,rfl,i0,i1,nx⟩) ?_;rintro x M1 ⟨⟨c,rfl,hcl,hc⟩,nx⟩;refine zr ?_;rw[zCv];exact new _ _ nx.nw ⟨hcl,hc⟩
 rw[zVg (by simpa using w0),zAx,zQ,zJ,zBW];refine zE (isf 1 _ _ rfl) ?_;by_cases w1:fam=1
 .rw[zVd (by simpa using w1),zAG];refine Ok.mono (zGJ h (cnt:=many) (lo:=0) (hi:=many) (by omega) (by omega) rfl λr M' hr g=>?_) ?_
  .refine zAH.mpr (zAH.mpr (zt.mpr ⟨_,rfl,zAI g rfl rfl (by decide) (by decide) λi M2 i0 i1 nx=>zEK.mpr (zt.mpr ⟨_,rfl,zFK.mpr ⟨m0,_,rfl,Int.emod_nonneg _ (by omega),Int.emod_lt_of_pos _ m0,nx⟩⟩)⟩))
  rintro x M1 ⟨⟨c,rfl,hcl,hc⟩,nx⟩;refine zr ?_;rw[zCv];exact new _ _ nx.nw ⟨hcl,hc⟩
 rw[zVg (by simpa using w1),zAx,zQ,zJ,zBW];refine zE (isf 2 _ _ rfl) ?_;by_cases w2:fam=2
 .rw[zVd (by simpa using w2)];refine zBv (d:=.int ((many+1) / 2)) (zN (x:=.dat (.int (many+1))) (zN rfl rfl rfl) rfl (zY (zOo.mpr ⟨⟨by decide,by decide⟩,rfl,rfl⟩))) ?_;obtain ⟨h0,h1⟩:0<(many+1) / 2/\(many+1) / 2<=many:=by omega
  generalize (many+1) / 2=half at h0 h1;rw[zJ,zW];refine Ok.mono (zGJ h (cnt:=half) (lo:=0) (hi:=half) (by omega) (by omega) rfl λr M' hr g=>zAI g rfl rfl h0 (by omega) λi M2 i0 i1 nx=>⟨i,rfl,i0,i1,nx⟩) ?_;rintro x M1 ⟨⟨c,rfl,hcl,hc⟩,nx⟩;refine zr ?_;rw[zQ,zAG];have nw2:=nx.nw.trans (nx.gen.lst (c.map D.int) (zx _ _));have e6:(M1++[MO.lst (c.map D.int)])[M1.length]?=some (.lst (c.map D.int)):=zw _ _;have hj:M.length<=M1.length:=nx.nw.len;generalize M1++[MO.lst (c.map D.int)]=M2 at nw2 e6;generalize M1.length=j6 at e6 hj;refine zAH.mpr (zt.mpr ⟨_,rfl,?_⟩);refine Ok.mono (zGJ nw2.gen (cnt:=many-half) (lo:=half) (hi:=many) (by omega) (by omega) (zN rfl rfl rfl) λr M' hr g=>?_) ?_
  .refine zAH.mpr (zt.mpr ⟨_,rfl,zAI g rfl (zN (x:=.dat (.int many)) (y:=.dat (.int half)) rfl rfl rfl) (by omega) (by omega) λi M3 i0 i1 nx3=>zEK.mpr ⟨_,rfl,by omega,by omega,nx3⟩⟩)
  rintro x M3 ⟨⟨c3,rfl,hcl3,hc3⟩,nx3⟩;have e6':=nx3.nw.get e6 (by omega) (by omega);refine zTR (xs:=c.map D.int) (ys:=c3.map D.int) ?_ rfl (by simp;omega) (zr ?_)
  .unfold zK6;dsimp only;rw[e6']
  rw[zCv,<-zWG];refine new _ _ (nw2.trans nx3.nw) ⟨by simp;omega,λx hx=>?_⟩;rcases zVo.mp hx with q|q
  .have:=hc x q;omega
  .have:=hc3 x q;omega
 rw[zVg (by simpa using w2),zAx,zQ,zJ,zBW];refine zE (andE (isf 3 _ _ rfl) (isl _ _ rfl)) ?_;by_cases w3:(decide (fam=3)&&decide (let_=0))=true
 .rw[zVd w3,zAG];refine Ok.mono (zGJ h (cnt:=many) (lo:=0) (hi:=many) (by omega) (by omega) rfl λr M' hr g=>?_) ?_
  .exact zE (zN (x:=.dat (.int ((r:Int)+1))) (y:=.dat (.int many)) (zN rfl rfl rfl) rfl (zUB m0)) ⟨_,rfl,Int.emod_nonneg _ (by omega),Int.emod_lt_of_pos _ m0,Nx.refl g⟩
  rintro x M1 ⟨⟨c,rfl,hcl,hc⟩,nx⟩;refine zr ?_;rw[zCv];exact new _ _ nx.nw ⟨hcl,hc⟩
 rw[zVg w3,zAx,zQ,zJ,zBW];refine zE (isf 3 _ _ rfl) ?_;by_cases w3':fam=3
 .rw[zVd (by simpa using w3'),zAG];refine Ok.mono (zGJ h (cnt:=many) (lo:=0) (hi:=many) (by omega) (by omega) rfl λr M' hr g=>?_) ?_
  .refine zE (zRk (b:=decide ((r:Int)=many-1)) (zUm (x:=.int r) (y:=.int 0) rfl rfl) (zN (x:=.dat (.int r)) (y:=.dat (.int (many-1))) rfl (zN rfl rfl rfl) (zY (zJP.mpr ⟨rfl,rfl⟩)))) ?_;by_cases q:(r:Int)=many-1
   .rw[zWW q,zVd rfl];exact ⟨0,rfl,by omega,by omega,Nx.refl g⟩
   .rw[zVx q,zVg (by decide)];exact ⟨r,rfl,by omega,by omega,Nx.refl g⟩
  rintro x M1 ⟨⟨c,rfl,hcl,hc⟩,nx⟩;refine zr ?_;rw[zCv];exact new _ _ nx.nw ⟨hcl,hc⟩
 rw[zVg (by simpa using w3'),zAx,zQ,zJ,zBW];refine zE (orE (isf 4 _ _ rfl) (isf 7 _ _ rfl)) ?_;by_cases w4:(decide (fam=4)||decide (fam=7))=true
 .rw[zVd w4,zJ,zW];refine zAI h rfl rfl m0 (by omega) λfar M1 a0 a1 nx1=>?_;rw[zI,zQ,zAG];refine Ok.mono (zGJ nx1.gen (cnt:=many) (lo:=0) (hi:=many) (by omega) (by omega) rfl λr M' hr g=>?_) ?_
  .refine zE (zRk (b:=decide (fam=7)) (zUm (x:=.int (((r:Int)+far) % many)) (y:=.int far) (zN (x:=.dat (.int ((r:Int)+far))) (y:=.dat (.int many)) (zN rfl rfl rfl) rfl (zUB m0)) rfl) (zN (x:=.dat (.int fam)) (y:=.dat (.int 7)) rfl rfl (zY (zJP.mpr ⟨rfl,rfl⟩)))) ?_;by_cases q:fam=7
   .rw[zWW q,zVd rfl];exact ⟨far,rfl,a0,a1,Nx.refl g⟩
   .rw[zVx q,zVg (by decide)];exact ⟨_,rfl,Int.emod_nonneg _ (by omega),Int.emod_lt_of_pos _ m0,Nx.refl g⟩
  rintro x M2 ⟨⟨c,rfl,hcl,hc⟩,nx⟩;refine zr ?_;rw[zCv];exact new _ _ (nx1.trans nx).nw ⟨hcl,hc⟩
 rw[zVg w4,zAx,zQ,zJ,zW];refine zBi.mpr (zE (zAO rfl (zo rfl)) ?_);refine Ok.mono (zOO h m0 m1) ?_;rintro d M1 ⟨j,c,rfl,ej,cc,hj,nw1,_⟩;have cl:=cc.1;rw[zI,zQ,zJ,zBW];refine zE (andE (isf 6 _ _ rfl) (isl _ _ rfl)) ?_;by_cases w6:(decide (fam=6)&&decide (let_=0))=true
 .rw[zVd w6,zJ,zW];refine zAH.mpr (zt.mpr ⟨_,rfl,zAI nw1.gen rfl rfl m0 (by omega) λp M2 p0 p1 nx2=>?_⟩);have ej2:=nx2.nw.get ej (by omega) (by omega);refine zKU (zAA ej2) (zC7 p0 (by omega)) ?_;rw[zI,zQ,zIe];refine zt.mpr ⟨_,rfl,?_⟩;rw[zI];refine zt.mpr ⟨_,rfl,zAI nx2.gen rfl rfl m0 (by omega) λq M3 q0 q1 nx3=>?_⟩;have ej3:=nx3.nw.get ej2 (by omega) (by omega);rw[zI];have eq':q=((q.toNat:Nat):Int):=by omega
  refine ⟨M3.set j (.lst ((c.map D.int).set q.toNat (.int (c.getD p.toNat 0)))),?_,?_⟩
  .have:=zGb (k:=q.toNat) (d:=.int (c.getD p.toNat 0)) ej3 (by rw[zVX];omega);rw[<-eq']at this;exact this
  rw[zQ];refine zBI rfl ⟨j,c.set q.toNat (c.getD p.toNat 0),rfl,?_,zPh cc (by omega),hj,?_⟩
  .rw[zWI (zVR.mp ej3).1,List.map_set]
  .refine ((nw1.trans nx2.nw).trans nx3.nw).setB h hj ?_;rw[<-List.map_set];exact zx _ _
 .rw[zVg w6,zAx,zQ];exact zBI rfl ⟨j,c,rfl,ej,cc,hj,nw1⟩
def zCy (many:Int) (cs:Ya):List (List Int):=(List.range many.toNat).map λr=>cs.map λc=>c.getD r 0
theorem zMq (h0:0<many) (hc:∀ c∈cs,Col many c) (hl:0<cs.length):IsM (zCy many cs) cs.length:=by
 have hlen:(zCy many cs).length=many.toNat:=by unfold zCy;simp
 refine ⟨by omega,hl,λr hr=>?_⟩;rw[hlen];unfold zCy at hr;obtain ⟨k,hk,rfl⟩:=zVf.mp hr;refine ⟨by simp,λg hg=>?_⟩;obtain ⟨c,hcm,rfl⟩:=zVf.mp hg;have:=hc c hcm;have h1:=this.1;have:=zQc this (j:=k) (by have:=zV2.mp hk;omega);omega
def zNx (M:Mem) (lo:Nat) (many:Int) (js:Yj) (cs:Ya):Prop:=js.length=cs.length /\ ∀ (i:Nat) j c,js[i]?=some j->cs[i]?=some c->lo<=j/\M[j]?=some (.lst (c.map D.int))/\Col many c
theorem zKv (h:Gen M n k) (hm:0<many) (hm1:many<=900) (hl:0<lm) (hl1:lm<=900) :
  Ok (zAp [.ref n,.int many,.int lm] M) λd M'=>(∃ zA l,d=mD zA/\IsM zA l/\(zA.length:Int)=many/\(l:Int)=lm)/\Nw M M' n k:=by
 obtain ⟨hn,hk⟩:=h.lt;unfold zAp;refine zQC ?_;rw[zAK];unfold zCe;rw[zJ,zW];refine zAI h rfl rfl (by decide) (by decide) λfam M1 f0 f1 nx1=>?_;rw[zI,zQ,zJ,zW];refine zDs.mpr ⟨_,_,_,zBs (j:=lm) rfl (by omega) (by omega),by rw[zBe];exact zm (by omega),?_⟩;refine Ok.mono (zLS (n:=lm.toNat) (I:=λi acc M'=>∃ (js:Yj) (cs:Ya),acc=js.map D.ref/\zNx M' M.length many js cs/\cs.length=i/\Nw M M' n k) ?_ ⟨[],[],rfl,⟨rfl,λi j c h=>by simp at h⟩,rfl,nx1.nw⟩) ?_
 .rintro i acc M' hi ⟨js,cs,rfl,hcs,hcl,nw⟩;refine ⟨_,rfl,?_⟩;refine zBi.mpr (zE (zAO (d:=.ref n) rfl (zAO (d:=.int fam) rfl (zAO (d:=.int many) rfl (zo (d:=.int (i:Nat)) rfl)))) ?_);refine Ok.mono (zM0 nw.gen hm (by omega)) ?_;rintro d M2 ⟨j,c,rfl,ec,cc,hj,nw2⟩;have hle:=nw.len;rw[zI];refine ⟨js++[j],cs++[c],by simp,⟨by simp[hcs.1],λa b c' h1 h2=>?_⟩,by simp[hcl],nw.trans nw2⟩;by_cases ha:a<js.length
  .rw[zVV ha]at h1;rw[zVV (by rw[<-hcs.1];exact ha)]at h2;obtain ⟨q1,q2,q3⟩:=hcs.2 a b c' h1 h2;exact ⟨q1,nw2.get q2 (by omega) (by omega),q3⟩
  .have ha':a=js.length:=by
    have:=(zVR.mp h1).1;simp at this;omega
   subst ha';rw[zWY (zVU _)]at h1;rw[zWY (by rw[hcs.1];exact zVU _)]at h2;simp at h1;rw[hcs.1]at h2;simp at h2;subst h1 h2;exact ⟨by omega,ec,cc⟩
 .rintro ys M2 ⟨js,cs,rfl,hcs,hcl,nw⟩;refine zr ?_;rw[zQ];have hju:D.unds M2.length (js.map D.ref)=true:=zFs λz hz=>by
   obtain ⟨b,hb,rfl⟩:=zVf.mp hz;obtain ⟨i,hi,rfl⟩:=List.mem_iff_getElem.mp hb;have hi':i<cs.length:=by rw[<-hcs.1];exact hi
   obtain ⟨_,q2,_⟩:=hcs.2 i js[i] cs[i] (zVS hi) (zVS hi');simp[D.und,(zVR.mp q2).1]
  have nwA:=nw.trans (nw.gen.lst (js.map D.ref) hju);have eA:(M2++[MO.lst (js.map D.ref)])[M2.length]?=some (.lst (js.map D.ref)):=zw _ _;have hA:zNx (M2++[MO.lst (js.map D.ref)]) M.length many js cs:=⟨hcs.1,λi j c h1 h2=>by
   obtain ⟨q1,q2,q3⟩:=hcs.2 i j c h1 h2;exact ⟨q1,by rw[zVV (zVR.mp q2).1];exact q2,q3⟩⟩
  generalize M2++[MO.lst (js.map D.ref)]=A at nwA eA hA;generalize M2.length=j at eA;have hcol:∀ c∈cs,Col many c:=λc hc=>by
   obtain ⟨i,hi,rfl⟩:=List.mem_iff_getElem.mp hc;exact (hA.2 i (js[i]'(by rw[hA.1];exact hi)) cs[i] (zVS _) (zVS _)).2.2
  have hlen:(zCy many cs).length=many.toNat:=by unfold zCy;simp
  refine zBI (d:=mD (zCy many cs)) ?_ ⟨⟨zDA _,nwA.len,nwA.wf0 h⟩,⟨zCy many cs,cs.length,rfl,zMq hm hcol (by omega),by omega,by omega⟩,nwA.trim h⟩;refine (zCr (zAd (List.range many.toNat) (λk=>D.int k) (λk=> .tup ((cs.map λc=>c.getD k 0).map D.int)) (zEn (f:=zC 1) rfl (by omega) (by omega)) trivial (by simp;omega) λr hr=>⟨_,rfl,?_⟩) zCh).trans ?_
  .have hr':=zV2.mp hr;refine (zCr (zAd (gd:=zDn (.dat (.ref j)) (js.map D.ref)) (List.range js.length) (λi=>D.ref (js.getD i 0)) (λi=> .int ((cs.getD i []).getD r 0)) ?_ ?_ (by rw[zXL,hA.1,hcl];omega) λi hi=>⟨_,rfl,?_⟩) zCh).trans ?_
   .rw[show ((List.range js.length).map λi=>D.ref (js.getD i 0))=js.map D.ref by
     apply List.ext_getElem
     .simp
     .intro i h1 h2;simp at h1;simp[h1]]
    exact zCU (x:=.dat (.ref j)) rfl (zAA eA)
   .exact .inl eA
   .have hi':=zV2.mp hi;have hc':i<cs.length:=by rw[<-hA.1];exact hi'
    have ej':js[i]?=some (js.getD i 0):=by rw[zVT,zVS hi'];rfl
    have ec':cs[i]?=some (cs.getD i []):=by rw[zVT,zVS hc'];rfl
    obtain ⟨_,q2,q3⟩:=hA.2 i _ _ ej' ec';have hz:=q3.1;exact zN (x:=.dat (.ref (js.getD i 0))) (y:=.dat (.int (r:Nat))) rfl rfl (zA3 (zAA q2) (zC7 (by omega) (by omega)))
   .congr 3;rw[zVm];refine congrArg D.tup ?_;apply List.ext_getElem
    .simp[hA.1]
    .intro i h1 h2;simp at h1 h2;have h2':i<cs.length:=h2;simp[h2']
  .unfold mD zCy;rw[zVm];rfl
def zDe:FS:=(zAY (zMF (fB zBM (zM (zC 0) za))))
def zAV:FF:=zBH 1 zDe
def zEN:FS:=(zAY (zEy [1,2] [2] (zv (zC 0)) (gN 1) ze (zv (zC 0)) (gN 2) (tst (fOp kLt (zC 1) (zC 2))) (zBL (zD (toD (zC 1)) (zD (toD (zC 2)) zG)))))
def zAX:FF:=zBH 3 zEN
theorem zJ6 {α:Type} (enc out:α->D) (keep:α->Bool):∀ (as:List α),(∀ a∈as,∃ σ1,g (enc a) σ=some σ1/\tc σ1 M=some (keep a,M)/\(keep a=true->te σ1 M=some (.dat (out a),M)))->zAk g tc te σ all none (as.map enc) M=some ((as.filter keep).map out,M)
 |[],_=>by
  rw[List.map_nil];unfold zAk;rw[zVd (show zAo none all M from trivial)];rfl
 |a::r,h=>by
  obtain ⟨σ1,e1,e2,e3⟩:=h a zVc;have ih:=zJ6 (all:=all) (σ:=σ) enc out keep r λb hb=>h b (zVb _ hb);rw[zVh];unfold zAk;rw[zVd (show zAo none all M from trivial),e1];dsimp only;rw[e2];cases hk:keep a with
  |false=>
   dsimp only;rw[ih,List.filter_cons_of_neg (by simp[hk])]
  |true=>
   dsimp only;rw[show toD te σ1 M=some (out a,M) by unfold toD;rw[e3 hk]];dsimp only;rw[ih,List.filter_cons_of_pos hk];rfl
theorem zPu {α β:Type} (as:List α) (enc:α->D) (bs:α->List β) (enc2:β->D) (keep:α->β->Bool) (out:α->β->D) (B:Nat)
  (hi:fi σ M=some (as.map enc,none,M)) (hB:∀ a∈as,(bs a).length<=B) (hz:as.length*B<=90000)
  (he:∀ a∈as,∃ σ1,fg (enc a) (zA2 own σ)=some σ1/\fi2 σ1 M=some ((bs a).map enc2,none,M) /\ ∀ b∈bs a,∃ σ2,fg2 (enc2 b) (zA2 own2 σ1)=some σ2/\tc2 σ2 M=some (keep a b,M)/\(keep a b=true->te σ2 M=some (.dat (out a b),M))) :
  zEy own own2 fi fg ze fi2 fg2 tc2 te σ M=some (.fl (as.flatMap λa=>((bs a).filter (keep a)).map (out a)),M):=by
 have key:∀ (r:List α) (acc:List D),(∀ a∈r,a∈as)->acc.length+r.length*B<=90000->zIo fg ze fi2 own2 fg2 tc2 te (zA2 own σ) (as.map enc) none (r.map enc) acc M=some (acc++r.flatMap λa=>((bs a).filter (keep a)).map (out a),M):=by
  intro r;induction r with
  |nil=>
   intro acc _ _;rw[List.map_nil];unfold zIo;rw[zVd (show zAo none (as.map enc) M from trivial)];simp
  |cons a r ih=>
   intro acc hs hl;have ha:=hs a zVc;obtain ⟨σ1,e1,e2,e3⟩:=he a ha;have hb:=hB a ha;have hlen:(((bs a).filter (keep a)).map (out a)).length<=(bs a).length:=by rw[zVX];exact zXi _ _
   rw[zVv,Nat.add_mul]at hl;rw[zVh];unfold zIo;rw[zVd (show zAo none (as.map enc) M from trivial),e1];dsimp only;rw[show ze σ1 M=some (true,M)from rfl];dsimp only;rw[e2];dsimp only;rw[zVd (zm (by rw[zVX];omega)),zJ6 enc2 (out a) (keep a) (bs a) e3];dsimp only;rw[ih _ (λb hb=>hs b (zVb _ hb)) (by rw[zVe];omega)];rw[List.flatMap_cons,zWU]
 unfold zEy;rw[hi];dsimp only;rw[key as [] (λ_ h=>h) (by simpa using hz)];simp
def zc (xs:Ye):List (List Int):=xs.flatMap λa=>(xs.filter λb=>decide (a<b)).map λb=>[a,b]
theorem zFy (hz:xs.length<=200):zAX [tI xs] M=some (.ref M.length,M++[.lst ((zc xs).map tI)]):=by
 suffices h:Ok (zAX [tI xs] M) λd M'=>d=.ref M.length/\M'=M++[.lst ((zc xs).map tI)] by
  obtain ⟨d,M',e,rfl,rfl⟩:=h;exact e
 unfold zAX;rw[zAK];unfold zEN;rw[zAG];have hq:xs.length*xs.length<=90000:=zVp (zW0 hz hz) (by decide);refine zE (zPu xs D.int (λ_=>xs) D.int (λa b=>decide (a<b)) (λa b=>tI [a,b]) xs.length (zDD rfl) (λ_ _=>zVU _) hq λa ha=>⟨_,rfl,zDD rfl,λb hb=>⟨_,rfl,?_,λ_=>?_⟩⟩) (zr ⟨rfl,?_⟩)
 .exact zAj (zN (x:=.dat (.int a)) (y:=.dat (.int b)) rfl rfl (zY (zU9.mpr ⟨rfl,rfl⟩)))
 .unfold zBL;rw[zAO (d:=.int a) rfl (zo (d:=.int b) rfl)];dsimp only;rw[zVd (zm (by simp))];rfl
 .congr 3;unfold zc;rw[List.map_flatMap];congr 1;funext a;rw[zVm];rfl
theorem zAh:p∈zc xs ↔ ∃ a b,p=[a,b]/\a∈xs/\b∈xs/\a<b:=by
 unfold zc;rw[List.mem_flatMap];constructor
 .rintro ⟨a,ha,h⟩;obtain ⟨b,hb,rfl⟩:=zVf.mp h;obtain ⟨h1,h2⟩:=zWZ.mp hb;exact ⟨a,b,rfl,ha,h1,zWK h2⟩
 .rintro ⟨a,b,rfl,ha,hb,hlt⟩;exact ⟨a,ha,zVf.mpr ⟨b,zWZ.mpr ⟨hb,zWW hlt⟩,rfl⟩⟩
theorem zFz (hz:zA.length<=1000):zAV [mD zA] M=some (tI ((List.range zA.length).map λ(k:Nat)=>(k:Int)),M):=by
 refine zY ?_;unfold zAV;rw[zAK];unfold zDe;refine zBI (d:=tI ((List.range zA.length).map λ(k:Nat)=>(k:Int))) ?_ ⟨rfl,rfl⟩;unfold zMF;rw[show fB zBM (zM (zC 0) za) ([mD zA].map some++List.replicate (1 - [mD zA].length) none) M=some (.dat (.int zA.length),M)from zGf rfl];dsimp only;rw[zVd ⟨by omega,by omega⟩];unfold upD tI;rw[zVm,show (zA.length:Int).toNat=zA.length by omega];rfl
def zI2 (g:Ye):List Key:=g.map Sum.inl
theorem zJC:∀ {a b:Ye},zI2 a=zI2 b->a=b
 |[],[],_=>rfl
 |[],_::_,h=>by cases h
 |_::_,[],h=>by cases h
 |x::a,y::b,h=>by
  have h1:=(zWS h).1;have h2:=zJC (zWS h).2;cases h1;rw[h2]
theorem zFw:∀ g:List Int,zD1 (g.map D.int)=some (zI2 g)
 |[]=>rfl
 |x::r=>by
  rw[zVh];unfold zD1;rw[zFw r];rfl
theorem zFv (g:Ye):tkD (tI g)=some (zI2 g):=zFw g
abbrev zE0 (T:List (List Int × D)):List (D × D):=T.map λq=>(tI q.1,q.2)
abbrev dT (T:List (List Int × D)):MO:=.dicT (zE0 T)
def zF:List (List Int × D)->List Int->Option D
 |[],_=>none
 |q::r,g=>if q.1=g then some q.2 else zF r g
def zB3 (T:List (List Int × D)) (g:Ye) (v:D):List (List Int × D):=match zF T g with
 |some _=>T.map λq=>if q.1=g then (q.1,v) else q
 |none=>T++[(g,v)]
theorem zJA (a g:Ye):decide (tkD (tI a)=some (zI2 g))=decide (a=g):=by
 rw[zFv];by_cases h:a=g
 .subst h;simp
 .rw[zVx h,zVx];intro e;exact h (zJC (zWO e))
theorem zOI (g:Ye):∀ T:List (List Int × D),zBo tkD (zE0 T) (zI2 g)=zF T g
 |[]=>rfl
 |q::r=>by
  have ih:=zOI g r;unfold zBo at ih ⊢;unfold zE0 at ih ⊢;rw[zVh,zXA];rw[zJA];unfold zF;by_cases h:q.1=g
  .rw[zWW h,zVd h];rfl
  .rw[zVx h,zVg h];exact ih
theorem zRs (g:Ye):∀ T:List (List Int × D),((zE0 T).any λp=>decide (tkD p.1=some (zI2 g)))=(zF T g).isSome
 |[]=>rfl
 |q::r=>by
  have ih:=zRs g r;unfold zE0 at ih ⊢;rw[zVh,List.any_cons,zJA];unfold zF;by_cases h:q.1=g
  .rw[zWW h,zVd h];rfl
  .rw[zVx h,zVg h,Bool.false_or];exact ih
theorem zUh (T:List (List Int × D)) (g:Ye) (v:D):zGz tkD (zE0 T) (zI2 g) (tI g) v=zE0 (zB3 T g v):=by
 unfold zGz zB3;rw[zRs];cases h:zF T g with
 |none=>
  rw[zVg (by simp)];unfold zE0;rw[zWG];rfl
 |some d=>
  rw[zVd (by simp)];unfold zE0;rw[zVm,zVm];apply List.map_congr_left;intro q _;show (if tkD (tI q.1)=some (zI2 g) then (tI q.1,v) else (tI q.1,q.2))=(tI (if q.1=g then (q.1,v) else q).1,(if q.1=g then (q.1,v) else q).2);have hd:=zJA q.1 g;by_cases hq:q.1=g
  .rw[zWW hq]at hd;rw[zVd (zWK hd),zVd hq]
  .rw[zVx hq]at hd;rw[zVg (of_decide_eq_false hd),zVg hq]
theorem zB6 (T:List (List Int × D)) (g h:Ye) (v:D):zF (zB3 T g v) h=if g=h then some v else zF T h:=by
 have app:∀ (T:List (List Int × D)),zF T g=none->zF (T++[(g,v)]) h=if g=h then some v else zF T h:=by
  intro T;induction T with
  |nil=>intro _;rfl
  |cons q r ih=>
   intro e;unfold zF at e;by_cases hq:q.1=g
   .rw[zVd hq]at e;cases e
   .rw[zVg hq]at e;show (if q.1=h then some q.2 else zF (r++[(g,v)]) h)=if g=h then some v else if q.1=h then some q.2 else zF r h
    rw[ih e];by_cases h1:q.1=h
    .rw[zVd h1,zVd h1,zVg (λz=>hq (h1.trans z.symm))]
    .rw[zVg h1,zVg h1]
 have mp:∀ (T:List (List Int × D)),(zF T g).isSome=true->zF (T.map λq=>if q.1=g then (q.1,v) else q) h=if g=h then some v else zF T h:=by
  intro T;by_cases hgh:g=h
  .subst hgh;induction T with
   |nil=>intro e;cases e
   |cons q r ih=>
    intro e;rw[zVh];unfold zF;by_cases hq:q.1=g
    .rw[zVd hq];simp[hq]
    .rw[zVg hq,zVg hq];unfold zF at e;rw[zVg hq]at e;rw[ih e,zVd rfl,zVd rfl]
  .intro hx;clear hx;rw[zVg hgh];induction T with
   |nil=>rfl
   |cons q r ih=>
    rw[zVh];unfold zF;by_cases hq:q.1=g
    .have:¬ q.1=h:=λz=>hgh (hq.symm.trans z);rw[zVd hq];rw[zVg this,zVg this];exact ih
    .rw[zVg hq];by_cases h1:q.1=h
     .rw[zVd h1,zVd h1]
     .rw[zVg h1,zVg h1];exact ih
 unfold zB3;cases e:zF T g with
 |none=>exact app T e
 |some d=>exact mp T (by rw[e];rfl)
theorem zEl (T:List (List Int × D)) (g:Ye) (v:D):(zB3 T g v).length<=T.length+1:=by
 unfold zB3;cases zF T g with
 |none=>simp
 |some d=>simp
section
theorem dgT (h:M[n]?=some (dT T)):zDd M (.dat (.ref n)) (tI g)=some (zF T g):=by
 unfold zDd;dsimp only;rw[h];dsimp only;rw[zFv];dsimp only;rw[zOI]
theorem zK9 (h:M[n]?=some (dT T)):zBF neg (.dat (tI g)) (.dat (.ref n)) M=some (.dat (.bl (if neg then !(zF T g).isSome else (zF T g).isSome)),M):=by
 unfold zBF;dsimp only;rw[dgT h]
theorem zHI (h:M[n]?=some (dT T)) (hd:zF T g=some d):zAc (.dat (.ref n)) (.dat (tI g)) M=some (.dat d,M):=by
 unfold zAc;dsimp only;rw[dgT h,hd]
theorem zH1 (h:M[n]?=some (dT T)) (hz:T.length<90000):zD0 M n (tI g) v=some (M.set n (dT (zB3 T g v))):=by
 unfold zD0;rw[h];dsimp only;rw[zFv];dsimp only;rw[zVd (by rw[zVX];exact zVn hz (zm (by omega))),zUh]
end
end Lac
namespace Lac
open PySem PySem.Spec PyProof.Rows L2 L3 ST Law
def zDS:FS:=(zV (zh 1 zIP)
  (zV (zCM (zv (zP zAX (zD (toD (zP zAV (zD (toD (zC 0)) zG))) zG))) (gN 2) (zCM (zy (zD (toD (fB zBM (zM (fOp kIx (zC 0) (fC (.int 0))) za))) zG)) (gN 3) (zV (zh 4 (zP zAy (zD (toD (zC 0)) (zD (toD (zC 2)) (zD (toD (zC 3)) zG)))))
  (zV (sIf (tst (fOp (zBF true) (zC 4) (zC 1))) (zBt (zA5 zG) (zC 1) (zC 4)) zBu)
  (zBQ (fM zAq (fOp zAc (zC 1) (zC 4)) (zD (toD (zC 2)) zG)))))))
  (zAY (zC 1))))
def zBn:FF:=zBH 5 zDS
def zCm (zA:Ya) (ps:List (List Int × Int)) (g:Ye):List (List Int):=(ps.filter λq=>decide (setR zA q.1 q.2=g)).map (·.1)
theorem zGZ (zA:Ya) (ps:List (List Int × Int)) (p:Ye) (x:Int) (g:Ye):zCm zA (ps++[(p,x)]) g=zCm zA ps g++(if setR zA p x=g then [p] else []):=by
 unfold zCm;rw[List.filter_append,zWG];congr 1;by_cases h:setR zA p x=g
 .rw[zVd h,List.filter_cons_of_pos (by simpa using h)];rfl
 .rw[zVg h,List.filter_cons_of_neg (by simpa using h)];rfl
structure Sr (zA:Ya) (M:Mem) (jd lo:Nat) (ps:List (List Int × Int)):Prop where
 ex:∃ T:List (List Int × D),M[jd]?=some (dT T)/\T.length<=ps.length/\(∀ g d,zF T g=some d -> ∃ j,d=.ref j/\lo<j/\M[j]?=some (.lst ((zCm zA ps g).map tI)))/\(∀ g,zF T g=none->zCm zA ps g=[]) /\ ∀ g g' j,zF T g=some (.ref j)->zF T g'=some (.ref j)->g=g'
theorem zNe {zA:Ya} {l:Nat} (m:IsM zA l) (hR:zA.length<64) {M:Mem} {jd lo:Nat} {ps:List (List Int × Int)} (hps:ps.length<50000) (hlo:jd<lo) (hlo2:lo<M.length) (sr:Sr zA M jd lo ps) {p:Ye} (hp:IsS zA p) {x:Int} (x0:0<=x) (x1:x<l) {y4:Option D} :
  OkS (zV (zh 4 (zP zAy (zD (toD (zC 0)) (zD (toD (zC 2)) (zD (toD (zC 3)) zG))))) (zV (sIf (tst (fOp (zBF true) (zC 4) (zC 1))) (zBt (zA5 zG) (zC 1) (zC 4)) zBu) (zBQ (fM zAq (fOp zAc (zC 1) (zC 4)) (zD (toD (zC 2)) zG)))) [some (mD zA),some (.ref jd),some (tI p),some (.int x),y4] M)
   λo σ' M'=>o=.nx/\(∃ y,σ'=[some (mD zA),some (.ref jd),some (tI p),some (.int x),y])/\Sr zA M' jd lo (ps++[(p,x)])/\M.length<=M'.length /\ ∀ j,j<=lo->j≠jd->M'[j]?=M[j]?:=by
 obtain ⟨T,ed,hT,h1,h2,h3⟩:=sr.ex;refine zBv (zAJ (zAO rfl (zAO rfl (zo rfl))) (zIV m hR hp x0 x1)) ?_;generalize hg:setR zA p x=goal;show OkS (zV _ _ [some (mD zA),some (.ref jd),some (tI p),some (.int x),some (tI goal)] M) _;rw[zJ,zBW];refine zE (M:=M) (a:=!(zF T goal).isSome) (zAj (zN (x:=.dat (tI goal)) (y:=.dat (.ref jd)) rfl rfl (zK9 ed))) ?_
 have last:∀ (A:Mem) (T':List (List Int × D)) (j:Nat),A[jd]?=some (dT T')->zF T' goal=some (.ref j)->lo<j->A[j]?=some (.lst ((zCm zA ps goal).map tI))->T'.length<=ps.length+1->M.length<=A.length->(∀ j,j<=lo->j≠jd->A[j]?=M[j]?) ->
   (∀ g d,zF T' g=some d -> ∃ j,d=.ref j/\lo<j/\A[j]?=some (.lst ((zCm zA ps g).map tI)))->(∀ g,zF T' g=none->zCm zA ps g=[])->(∀ g g' j,zF T' g=some (.ref j)->zF T' g'=some (.ref j)->g=g') ->
   OkS (zBQ (fM zAq (fOp zAc (zC 1) (zC 4)) (zD (toD (zC 2)) zG)) [some (mD zA),some (.ref jd),some (tI p),some (.int x),some (tI goal)] A)
    λo σ' M'=>o=.nx/\(∃ y,σ'=[some (mD zA),some (.ref jd),some (tI p),some (.int x),y])/\Sr zA M' jd lo (ps++[(p,x)])/\M.length<=M'.length /\ ∀ j,j<=lo->j≠jd->M'[j]?=M[j]?:=by
  intro A T' j ea el hj ej hz hle hfr k1 k2 k3;rw[zCI];have hfl:(zCm zA ps goal).length<=ps.length:=by unfold zCm;rw[zVX];exact zXi _ _
  have jl:j<A.length:=(zVR.mp ej).1;refine zLP.mpr (zE (zN (x:=.dat (.ref jd)) (y:=.dat (tI goal)) rfl rfl (zHI ea el)) ⟨⟨_,zBj ej⟩,zE (zo (d:=tI p) rfl) ?_⟩);rw[zGB ej (by rw[zVX];exact zVn (m:=95000) (by omega) (zm (by omega)))];refine ⟨rfl,⟨_,rfl⟩,⟨T',by rw[zVs (by omega)];exact ea,by simpa using hz,λg d hd=>?_,λg hd=>?_,k3⟩,by simpa using hle,λi hi hn=>by rw[zVs (by omega)];exact hfr i hi hn⟩
  .obtain ⟨j',rfl,hj',ej'⟩:=k1 g d hd;refine ⟨j',rfl,hj',?_⟩;rw[zGZ,hg];by_cases hgg:goal=g
   .subst hgg;rw[el]at hd;cases hd;rw[zWI jl,zVd rfl,zWG];rfl
   .rw[zVg hgg,zV8];have:j≠j':=λz=>hgg (k3 goal g j el (by rw[z];exact hd));rw[zVs this];exact ej'
  .rw[zGZ,hg,zVg (λz=>by rw[<-z,el]at hd;cases hd),zV8];exact k2 g hd
 cases hl:zF T goal with
 |some d=>
  obtain ⟨j,rfl,hj,ej⟩:=h1 goal d hl;rw[zVg (by simp),zAx,zQ];exact last M T j ed hl hj ej (by omega) (zVU _) (λ_ _ _=>rfl) h1 h2 h3
 |none=>
  rw[zVd (by simp)];have e0:=h2 goal hl;have jdl:jd<M.length:=(zVR.mp ed).1;have ed':(M++[MO.lst ([]:List D)])[jd]?=some (dT T):=by rw[zVV jdl];exact ed
  refine ⟨.nx,[some (mD zA),some (.ref jd),some (tI p),some (.int x),some (tI goal)],(M++[MO.lst ([]:List D)]).set jd (dT (zB3 T goal (.ref M.length))),?_,?_⟩
  .unfold zBt;rw[show toD (zA5 zG) [some (mD zA),some (.ref jd),some (tI p),some (.int x),some (tI goal)] M=some (.ref M.length,M++[.lst []]) by
    unfold toD zA5 zG;dsimp only;rw[zVd (zm (by simp))]]
   dsimp only;rw[show toD (zC 1) [some (mD zA),some (.ref jd),some (tI p),some (.int x),some (tI goal)] (M++[.lst []])=some (.ref jd,M++[.lst []])from rfl];dsimp only;rw[show toD (zC 4) [some (mD zA),some (.ref jd),some (tI p),some (.int x),some (tI goal)] (M++[.lst []])=some (tI goal,M++[.lst []])from rfl];dsimp only;rw[zH1 ed' (by omega)]
  rw[zQ];have hput:=λg=>zB6 T goal g (.ref M.length);refine last _ (zB3 T goal (.ref M.length)) M.length (zWI (by simp;omega)) (by rw[hput,zVd rfl]) hlo2 ?_ (by have:=zEl T goal (.ref M.length);omega) (by simp) (λi hi hn=>?_) (λg d hd=>?_) (λg hd=>?_) (λg g' j hd hd'=>?_)
  .rw[zVs (by omega),e0];simp
  .rw[zVs (Ne.symm hn),zVV (by omega)]
  .rw[hput]at hd;by_cases hgg:goal=g
   .subst hgg;rw[zVd rfl]at hd;cases hd;exact ⟨M.length,rfl,hlo2,by rw[zVs (by omega),e0];simp⟩
   .rw[zVg hgg]at hd;obtain ⟨j,rfl,hj,ej⟩:=h1 g d hd;exact ⟨j,rfl,hj,by rw[zVs (by omega),zVV (zVR.mp ej).1];exact ej⟩
  .rw[hput]at hd;by_cases hgg:goal=g
   .rw[zVd hgg]at hd;cases hd
   .rw[zVg hgg]at hd;exact h2 g hd
  .rw[hput]at hd hd';by_cases a:goal=g
   .by_cases b:goal=g'
    .rw[<-a,<-b]
    .rw[zVd a]at hd;rw[zVg b]at hd';cases hd;obtain ⟨j,e,_,ej⟩:=h1 g' _ hd';cases e;exact absurd (zVR.mp ej).1 (zV6 _)
   .rw[zVg a]at hd;by_cases b:goal=g'
    .rw[zVd b]at hd';cases hd';obtain ⟨j,e,_,ej⟩:=h1 g _ hd;cases e;exact absurd (zVR.mp ej).1 (zV6 _)
    .rw[zVg b]at hd';exact h3 g g' j hd hd'
def zK (zA:Ya):List Int:=(List.range zA.length).map λ(k:Nat)=>(k:Int)
def zCE (l:Nat) (ps:Ya):List (List Int × Int):=ps.flatMap λp=>(List.range l).map λ(x:Nat)=>(p,(x:Int))
theorem zGi (l:Nat) (ps:Ya):(zCE l ps).length=ps.length*l:=by
 unfold zCE;induction ps with
 |nil=>simp
 |cons p r ih=>rw[List.flatMap_cons,zVe,ih,zVX,zXL,zVv,Nat.add_mul];omega
theorem zCF (xs:Ye):(zc xs).length<=xs.length*xs.length:=by
 unfold zc;have:∀ (r:Ye),(r.flatMap λa=>(xs.filter λb=>decide (a<b)).map λb=>[a,b]).length<=r.length*xs.length:=by
  intro r;induction r with
  |nil=>simp
  |cons a r ih=>
   rw[List.flatMap_cons,zVe,zVX,zVv,Nat.add_mul];have:=zXi (λb=>decide (a<b)) xs;omega
 exact this xs
theorem zL7 (h:p∈zc (zK zA)):IsS zA p:=by
 obtain ⟨a,b,rfl,ha,hb,hlt⟩:=zAh.mp h;obtain ⟨i,hi,rfl⟩:=zVf.mp ha;obtain ⟨j,hj,rfl⟩:=zVf.mp hb;have:=zV2.mp hi;have:=zV2.mp hj;refine ⟨by simp;omega,by simp,λx hx=>?_⟩;simp only[zVa,zVt,zWj]at hx;omega
theorem zI1 {M M1:Mem} (ha:a σ M=some (ds,M)) (hg:g ds M=some (.ref j,M1)) (hj:M1[j]?=some (.lst xs)):zv (zP g a) σ M=some (xs,zDn (.dat (.ref j)) xs,M1):=by
 have:zP g a σ M=some (.dat (.ref j),M1):=by unfold zP;rw[ha];dsimp only;rw[hg]
 unfold zv;rw[this];dsimp only;rw[zAA hj]
theorem zQh {zA:Ya} {l:Nat} (m:IsM zA l) (hR:zA.length<64) (hl:l<=12) {M:Mem}:Ok (zBn [mD zA] M) λd M'=>d=.ref M.length/\Sr zA M' M.length (M.length+1) (zCE l (zc (zK zA)))/\M.length+1<M'.length /\ ∀ j,j<M.length->M'[j]?=M[j]?:=by
 unfold zBn;rw[zAK];unfold zDS;rw[zJ,zW];refine zE (M:=M++[.dicT []]) (a:=.dat (.ref M.length)) rfl ?_;rw[zI,zQ,zJ,zA6];have hrl:(zK zA).length=zA.length:=by unfold zK;simp
 have epr:=zFy (xs:=zK zA) (by omega) (M:=M++[.dicT []]);refine ⟨_,_,_,zI1 (zo (d:=tI (zK zA)) (zAJ (zo (d:=mD zA) rfl) (zFz (by omega)))) epr (zw _ _),?_⟩;rw[show (M++[MO.dicT []]).length=M.length+1 by simp];generalize hP:zc (zK zA)=P;have hPl:P.length<=3969:=by
  rw[<-hP];have h1:=zCF (zK zA);rw[hrl]at h1;exact zVp h1 (zW0 (show zA.length<=63 by omega) (show zA.length<=63 by omega))
 have e1:(M++[MO.dicT []]++[MO.lst (P.map tI)])[M.length+1]?=some (.lst (P.map tI)):=by
  rw[zWU,zWY (by omega)];simp
 have e0:(M++[MO.dicT []]++[MO.lst (P.map tI)])[M.length]?=some (dT []):=by
  rw[zWU,zWY (by omega)];simp
 have ef:∀ j,j<M.length->(M++[MO.dicT []]++[MO.lst (P.map tI)])[j]?=M[j]?:=λj hj=>by rw[zWU,zVV hj]
 have el:(M++[MO.dicT []]++[MO.lst (P.map tI)]).length=M.length+2:=by simp
 generalize M++[MO.dicT []]++[MO.lst (P.map tI)]=M1 at e1 e0 ef el;refine zAr (I:=λr σ M'=>(∃ y2 y3 y4,σ=[some (mD zA),some (.ref M.length),y2,y3,y4]) /\ ∃ us vs:List (List Int),P=us++vs/\r=vs.map tI/\Sr zA M' M.length (M.length+1) (zCE l us)/\M'[M.length+1]?=some (.lst (P.map tI))/\M.length+1<M'.length /\ ∀ j,j<M.length->M'[j]?=M[j]?) ?_ ?_ _ _ _ ⟨⟨_,_,_,rfl⟩,[],P,rfl,rfl,⟨[],e0,by simp,(λg d h=>by cases h),(λ_ _=>rfl),(λg g' j h=>by cases h)⟩,e1,by omega,ef⟩
 .rintro x r σ M' ⟨⟨y2,y3,y4,rfl⟩,us,vs,hab,hr,sr,ep,hlen,hfr⟩;cases vs with
  |nil=>cases hr
  |cons p vs=>
   rw[zVh]at hr;obtain ⟨rfl,rfl⟩:=zWS hr;have hpm:p∈zc (zK zA):=by rw[hP,hab];simp
   have hul:us.length<3969:=by have:=congrArg List.length hab;simp at this;omega
   refine ⟨.inl ep,_,rfl,?_⟩;rw[zA6];refine ⟨_,_,_,zBs (zL4 m rfl) (by omega) (by omega),?_⟩;rw[show (l:Int).toNat=l by omega];refine zIv (n:=l) (I:=λi σ M''=>(∃ y3 y4,σ=[some (mD zA),some (.ref M.length),some (tI p),y3,y4])/\Sr zA M'' M.length (M.length+1) (zCE l us++(List.range i).map λ(x:Nat)=>(p,(x:Int)))/\M''[M.length+1]?=some (.lst (P.map tI))/\M.length+1<M''.length /\ ∀ j,j<M.length->M''[j]?=M[j]?) ?_ ?_ _ _ ⟨⟨_,_,rfl⟩,by simpa using sr,ep,hlen,hfr⟩
   .rintro i σ M2 hi ⟨⟨y3,y4,rfl⟩,sr2,ep2,hlen2,hfr2⟩;refine ⟨_,rfl,?_⟩;have hcount:(zCE l us++(List.range i).map λ(x:Nat)=>(p,(x:Int))).length<50000:=by
     rw[zVe,zGi,zVX,zXL];have:=zW0 (show us.length<=3968 by omega) hl;omega
    refine OkS.mono (zNe m hR hcount (zWL _) hlen2 sr2 (zL7 hpm) (x:=(i:Int)) (by omega) (by omega)) ?_;rintro o σ' M3 ⟨rfl,⟨y,rfl⟩,sr3,hl3,hf3⟩;refine ⟨⟨_,_,rfl⟩,?_,by rw[hf3 _ (zVU _) (by omega)];exact ep2,by omega,λj hj=>by rw[hf3 j (by omega) (by omega)];exact hfr2 j hj⟩;rw[List.range_succ,zWG,<-zWU];exact sr3
   .rintro σ M2 ⟨⟨y3,y4,rfl⟩,sr2,ep2,hlen2,hfr2⟩;refine ⟨⟨_,_,_,rfl⟩,us++[p],vs,by rw[hab];simp,rfl,?_,ep2,hlen2,hfr2⟩;have:zCE l (us++[p])=zCE l us++(List.range l).map λ(x:Nat)=>(p,(x:Int)):=by
     unfold zCE;rw[List.flatMap_append];simp
    rw[this];exact sr2
 .rintro σ M' ⟨⟨y2,y3,y4,rfl⟩,us,vs,hab,hr,sr,ep,hlen,hfr⟩;have:vs=[]:=by cases vs with|nil=>rfl|cons _ _=>cases hr
  subst this;rw[zV8]at hab;subst hab;refine ⟨.inl ep,?_⟩;rw[zQ];exact zBI rfl ⟨rfl,sr,hlen,hfr⟩
def zC2:FS:=(zV (zh 2 (zP zBn (zD (toD (zC 0)) zG)))
  (zV (zh 3 (zC 1))
  (zV (zh 4 (zCf true [5] (zv (zC 1)) (gN 5) ze (zC 5) (fC (.int 0))))
  (zV (zAv (zKG (zC 3)) (zV (zh 6 (zA5 zG))
  (zV (zCM (zv (zC 3)) (gN 5) (zCM (zv (zAu (zC 2) (zC 5) (zA5 zG))) (gN 7) (sIf (tst (fOp (zBF true) (zC 7) (zC 4))) (zV (zBt (fOp zAP (fOp zAc (zC 4) (zC 5)) (fC (.int 1))) (zC 4) (zC 7))
  (zBQ (fM zAq (zC 6) (zD (toD (zC 7)) zG)))) zBu)))
  (zh 3 (zC 6)))) 1000)
  (zAY (zC 4))))))
def zBK:FF:=zBH 8 zC2
abbrev Fd:=List (List Int × D) × List (List Int)
def zAt (k:Int) (st:Fd) (p:Ye):Fd:=if (zF st.1 p).isSome then st else (zB3 st.1 p (.int k),st.2++[p])
structure Lv (M0 M:Mem) (jf jb:Nat) (st:Fd):Prop where
 f:M[jf]?=some (dT st.1)
 b:M[jb]?=some (.lst (st.2.map tI))
 len:M0.length<=M.length
 fr:∀ j,j<M0.length->j≠jf->j≠jb->M[j]?=M0[j]?
theorem zPH (k:Int) (st:Fd) (p:Ye):(zAt k st p).1.length<=st.1.length+1/\(zAt k st p).2.length<=st.2.length+1:=by
 unfold zAt;split
 .exact ⟨by omega,by omega⟩
 .exact ⟨zEl _ _ _,by simp⟩
theorem zRA {M0:Mem} {jf jb js jd jl:Nat} {zA:Ya} {x1 x3 y7:Option D} {goal:Ye} {k:Int} {ps:Ya} (hne:jf≠jb) (h1:jf<M0.length) (h2:jb<M0.length) :
  ∀ (M:Mem) (st:Fd),Lv M0 M jf jb st->M[js]?=some (.lst (ps.map tI))->js≠jf->js≠jb->zF st.1 goal=some (.int k)->st.1.length+ps.length<=80000->st.2.length+ps.length<=80000 ->
  OkS (zCV (gN 7) (sIf (tst (fOp (zBF true) (zC 7) (zC 4))) (zV (zBt (fOp zAP (fOp zAc (zC 4) (zC 5)) (fC (.int 1))) (zC 4) (zC 7)) (zBQ (fM zAq (zC 6) (zD (toD (zC 7)) zG)))) zBu) (ps.map tI) (zDn (.dat (.ref js)) (ps.map tI)) (ps.map tI) [some (mD zA),x1,some (.ref jd),x3,some (.ref jf),some (tI goal),some (.ref jb),y7] M)
   λo σ' M'=>o=.nx/\(∃ y,σ'=[some (mD zA),x1,some (.ref jd),x3,some (.ref jf),some (tI goal),some (.ref jb),y])/\Lv M0 M' jf jb (ps.foldl (zAt (k+1)) st)/\M'.length=M.length /\ ∀ j,j≠jf->j≠jb->M'[j]?=M[j]?:=by
 intro M st lv ejs n1 n2 hgl z1 z2;refine zAr (I:=λr σ M'=>(∃ y,σ=[some (mD zA),x1,some (.ref jd),x3,some (.ref jf),some (tI goal),some (.ref jb),y]) /\ ∃ us vs:List (List Int),ps=us++vs/\r=vs.map tI/\Lv M0 M' jf jb (us.foldl (zAt (k+1)) st)/\zF (us.foldl (zAt (k+1)) st).1 goal=some (.int k)/\(us.foldl (zAt (k+1)) st).1.length<=st.1.length+us.length/\(us.foldl (zAt (k+1)) st).2.length<=st.2.length+us.length/\M'.length=M.length /\ ∀ j,j≠jf->j≠jb->M'[j]?=M[j]?) ?_ ?_ _ _ _ ⟨⟨_,rfl⟩,[],ps,rfl,rfl,lv,hgl,by simp,by simp,rfl,λ_ _ _=>rfl⟩
 .rintro x r σ M' ⟨⟨y,rfl⟩,us,vs,hab,hr,lv',hg',l1,l2,hl,hfr⟩;cases vs with
  |nil=>cases hr
  |cons p vs=>
   rw[zVh]at hr;obtain ⟨rfl,rfl⟩:=zWS hr;have hul:us.length<ps.length:=by rw[hab];simp
   refine ⟨.inl (by rw[hfr js n1 n2];exact ejs),_,rfl,?_⟩;have hfold:(us++[p]).foldl (zAt (k+1)) st=zAt (k+1) (us.foldl (zAt (k+1)) st) p:=by rw[List.foldl_append];rfl
   generalize us.foldl (zAt (k+1)) st=st' at lv' hg' l1 l2 hfold;have al:=zPH (k+1) st' p;rw[zBW];refine zE (M:=M') (a:=!(zF st'.1 p).isSome) (zAj (zN (x:=.dat (tI p)) (y:=.dat (.ref jf)) rfl rfl (zK9 lv'.f))) ?_;cases hlk:zF st'.1 p with
   |some d=>
    have ea:zAt (k+1) st' p=st':=by unfold zAt;rw[hlk];rfl
    rw[zVg (by simp),zAx];refine ⟨⟨_,rfl⟩,us++[p],vs,by rw[hab];simp,rfl,?_⟩;rw[hfold,ea];exact ⟨lv',hg',by simp;omega,by simp;omega,hl,hfr⟩
   |none=>
    have ea:zAt (k+1) st' p=(zB3 st'.1 p (.int (k+1)),st'.2++[p]):=by unfold zAt;rw[hlk];rfl
    have hgp:p≠goal:=λz=>by rw[z,hg']at hlk;cases hlk
    rw[zVd (by simp),zJ];have ev:fOp zAP (fOp zAc (zC 4) (zC 5)) (fC (.int 1)) [some (mD zA),x1,some (.ref jd),x3,some (.ref jf),some (tI goal),some (.ref jb),some (tI p)] M'=some (.dat (.int (k+1)),M'):=zN (x:=.dat (.int k)) (zN (x:=.dat (.ref jf)) (y:=.dat (tI goal)) rfl rfl (zHI lv'.f hg')) rfl rfl;have hd:OkS (zBt (fOp zAP (fOp zAc (zC 4) (zC 5)) (fC (.int 1))) (zC 4) (zC 7) [some (mD zA),x1,some (.ref jd),x3,some (.ref jf),some (tI goal),some (.ref jb),some (tI p)] M') λo σ' M2=>o=.nx/\σ'=[some (mD zA),x1,some (.ref jd),x3,some (.ref jf),some (tI goal),some (.ref jb),some (tI p)]/\M2=M'.set jf (dT (zB3 st'.1 p (.int (k+1)))):=by
     refine ⟨.nx,_,_,?_,rfl,rfl,rfl⟩;unfold zBt;rw[show toD (fOp zAP (fOp zAc (zC 4) (zC 5)) (fC (.int 1))) [some (mD zA),x1,some (.ref jd),x3,some (.ref jf),some (tI goal),some (.ref jb),some (tI p)] M'=some (.int (k+1),M') by unfold toD;rw[ev]];dsimp only;rw[show toD (zC 4) [some (mD zA),x1,some (.ref jd),x3,some (.ref jf),some (tI goal),some (.ref jb),some (tI p)] M'=some (.ref jf,M')from rfl];dsimp only;rw[show toD (zC 7) [some (mD zA),x1,some (.ref jd),x3,some (.ref jf),some (tI goal),some (.ref jb),some (tI p)] M'=some (tI p,M')from rfl];dsimp only;rw[zH1 lv'.f (by omega)]
    refine OkS.mono hd ?_;rintro o σ' M2 ⟨rfl,rfl,rfl⟩;rw[zQ,zCI];have eb:(M'.set jf (dT (zB3 st'.1 p (.int (k+1)))))[jb]?=some (.lst (st'.2.map tI)):=by rw[zVs hne];exact lv'.b
    refine zLP.mpr (zt.mpr ⟨_,rfl,⟨_,zBj eb⟩,zE (zo (d:=tI p) rfl) ?_⟩);rw[zGB eb (by rw[zVX];exact zVn (m:=95000) (by omega) (zm (by omega)))];have jfl:jf<M'.length:=zVn h1 lv'.len;have jbl:jb<M'.length:=zVn h2 lv'.len;refine ⟨⟨_,rfl⟩,us++[p],vs,by rw[hab];simp,rfl,?_⟩;rw[hfold];refine ⟨?_,?_,by simp;omega,by simp;omega,by simp[hl],λj q1 q2=>by rw[zVs (Ne.symm q2),zVs (Ne.symm q1)];exact hfr j q1 q2⟩
    .rw[ea];refine ⟨by rw[zVs (Ne.symm hne),zWI jfl],by rw[zWI (by simpa using jbl),zWG];rfl,by simpa using lv'.len,λj q0 q1 q2=>by rw[zVs (Ne.symm q2),zVs (Ne.symm q1)];exact lv'.fr j q0 q1 q2⟩
    .rw[ea];rw[zB6,zVg hgp];exact hg'
 .rintro σ M' ⟨⟨y,rfl⟩,us,vs,hab,hr,lv',hg',l1,l2,hl,hfr⟩;have:vs=[]:=by cases vs with|nil=>rfl|cons _ _=>cases hr
  subst this;rw[zV8]at hab;subst hab;exact ⟨.inl (by rw[hfr js n1 n2];exact ejs),rfl,⟨_,rfl⟩,lv',hl,hfr⟩
theorem zUH {f g:FE} {σ:Sd} {M:Mem} {n:Nat} {T:List (List Int × D)} {k:Ye} (hf:f σ M=some (.dat (.ref n),M)) (hn:M[n]?=some (dT T)) (hg:g σ M=some (.dat (tI k),M)):zAu f g (zA5 zG) σ M=some (.dat ((zF T k).getD (.ref M.length)),M++[.lst []]):=by
 have nl:n<M.length:=(zVR.mp hn).1;unfold zAu;rw[show toD f σ M=some (.ref n,M) by unfold toD;rw[hf]];dsimp only;rw[hn];rw[show toD g σ M=some (tI k,M) by unfold toD;rw[hg]];dsimp only;rw[show toD (zA5 zG) σ M=some (.ref M.length,M++[.lst []]) by
  unfold toD zA5 zG;dsimp only;rw[zVd (zm (by simp))]]
 dsimp only;rw[dgT (g:=k) (show (M++[MO.lst ([]:List D)])[n]?=some (dT T) by rw[zVV nl];exact hn)]
def zBV (src:Y1) (k:Int) (gs:Ya) (st:Fd):Fd:=gs.foldl (λst g=>(src g).foldl (zAt (k+1)) st) st
theorem zMX {k:Int} {st:Fd} {p g:Ye} {d:D} (h:zF st.1 g=some d):zF (zAt k st p).1 g=some d:=by
 unfold zAt;split
 .exact h
 .rename_i q;rw[zB6,zVg (λz=>q (by rw[z,h];rfl))];exact h
theorem zGC {k:Int} {g:Ye} {d:D}:∀ (ps:Ya) {st:Fd},zF st.1 g=some d->zF (ps.foldl (zAt k) st).1 g=some d
 |[],_,h=>h
 |p::r,_,h=>zGC r (zMX h)
def zUl (M:Mem) (Ts:List (List Int × D)) (jf jb:Nat) (src:Y1):Prop:=∀ g,(∃ j,zF Ts g=some (.ref j)/\j≠jf/\j≠jb/\M[j]?=some (.lst ((src g).map tI)))\/(zF Ts g=none/\src g=[])
theorem zQd {M0:Mem} {jf jb jd jl:Nat} {zA:Ya} {x1 y5 y7:Option D} {k:Int} {gs:Ya} {src:Y1} {Ts:List (List Int × D)} (hne:jf≠jb) (h1:jf<M0.length) (h2:jb<M0.length) (hd:M0[jd]?=some (dT Ts)) (d1:jd≠jf) (d2:jd≠jb) (hl:M0[jl]?=some (.lst (gs.map tI))) (l1:jl≠jf) (l2:jl≠jb) (hs:zUl M0 Ts jf jb src) (B:Nat) (hB:∀ g∈gs,(src g).length<=B)
  {st:Fd} (hg:∀ g∈gs,zF st.1 g=some (.int k)) (Z:Nat) (hZB:Z+B<=80000) (hZ:∀ us vs,gs=us++vs->(zBV src k us st).1.length<=Z/\(zBV src k us st).2.length<=Z) (lv:Lv M0 M0 jf jb st) :
  OkS (zCV (gN 5) (zCM (zv (zAu (zC 2) (zC 5) (zA5 zG))) (gN 7) (sIf (tst (fOp (zBF true) (zC 7) (zC 4))) (zV (zBt (fOp zAP (fOp zAc (zC 4) (zC 5)) (fC (.int 1))) (zC 4) (zC 7)) (zBQ (fM zAq (zC 6) (zD (toD (zC 7)) zG)))) zBu)) (gs.map tI) (zDn (.dat (.ref jl)) (gs.map tI)) (gs.map tI) [some (mD zA),x1,some (.ref jd),some (.ref jl),some (.ref jf),y5,some (.ref jb),y7] M0)
   λo σ' M'=>o=.nx/\(∃ y5 y7,σ'=[some (mD zA),x1,some (.ref jd),some (.ref jl),some (.ref jf),y5,some (.ref jb),y7])/\Lv M0 M' jf jb (zBV src k gs st):=by
 refine zAr (I:=λr σ M'=>(∃ y5 y7,σ=[some (mD zA),x1,some (.ref jd),some (.ref jl),some (.ref jf),y5,some (.ref jb),y7]) /\ ∃ us vs:List (List Int),gs=us++vs/\r=vs.map tI/\Lv M0 M' jf jb (zBV src k us st)/\(∀ g∈gs,zF (zBV src k us st).1 g=some (.int k))) ?_ ?_ _ _ _ ⟨⟨_,_,rfl⟩,[],gs,rfl,rfl,lv,hg⟩
 .rintro x r σ M' ⟨⟨y5,y7,rfl⟩,us,vs,hab,hr,lv',hg'⟩;cases vs with
  |nil=>cases hr
  |cons g vs=>
   rw[zVh]at hr;obtain ⟨rfl,rfl⟩:=zWS hr;have hgm:g∈gs:=by rw[hab];simp
   have hsb:=hB g hgm;obtain ⟨b1,b2⟩:=hZ us (g::vs) hab;have keep:∀ {j:Nat} {u:MO},M0[j]?=some u->j≠jf->j≠jb->M'[j]?=some u:=λ{j u} e q1 q2=>(lv'.fr j (zVR.mp e).1 q1 q2).trans e;refine ⟨.inl (keep hl l1 l2),_,rfl,?_⟩;have hfold:zBV src k (us++[g]) st=(src g).foldl (zAt (k+1)) (zBV src k us st):=by unfold zBV;rw[List.foldl_append];rfl
   generalize zBV src k us st=st' at lv' hg' b1 b2 hfold;have e2:=zUH (f:=zC 2) (g:=zC 5) (σ:=[some (mD zA),x1,some (.ref jd),some (.ref jl),some (.ref jf),some (tI g),some (.ref jb),y7]) (M:=M') (k:=g) rfl (keep hd d1 d2) rfl;have lvA:Lv M0 (M'++[.lst []]) jf jb st':=by
    have f1:=(zVR.mp lv'.f).1;have f2:=(zVR.mp lv'.b).1;have f3:=lv'.len;exact ⟨by rw[zVV f1];exact lv'.f,by rw[zVV f2];exact lv'.b,by simp;omega,λj q0 q1 q2=>by rw[zVV (by omega)];exact lv'.fr j q0 q1 q2⟩
   obtain ⟨js,ejs,n1,n2,el⟩:∃ js,(zF Ts g).getD (.ref M'.length)=.ref js/\js≠jf/\js≠jb/\(M'++[MO.lst ([]:List D)])[js]?=some (.lst ((src g).map tI)):=by
    rcases hs g with ⟨j,e,q1,q2,q3⟩|⟨e,q⟩
    .have:=keep q3 q1 q2;exact ⟨j,by rw[e];rfl,q1,q2,by rw[zVV (zVR.mp this).1];exact this⟩
    .have:=lv'.len;exact ⟨M'.length,by rw[e];rfl,by omega,by omega,by rw[q];simp⟩
   rw[ejs]at e2;rw[zA6];refine ⟨_,_,_,(show zv (zAu (zC 2) (zC 5) (zA5 zG)) [some (mD zA),x1,some (.ref jd),some (.ref jl),some (.ref jf),some (tI g),some (.ref jb),y7] M'=some ((src g).map tI,zDn (.dat (.ref js)) ((src g).map tI),M'++[.lst []]) by unfold zv;rw[e2];dsimp only;rw[zAA el]),?_⟩;refine OkS.mono (zRA (jl:=jl) (k:=k) hne h1 h2 _ st' lvA el n1 n2 (hg' g hgm) (by omega) (by omega)) ?_;rintro o σ' M2 ⟨rfl,⟨y,rfl⟩,lv2,_,_⟩;refine ⟨⟨_,_,rfl⟩,us++[g],vs,by rw[hab];simp,rfl,?_⟩;rw[hfold];exact ⟨lv2,λg' hg''=>zGC _ (hg' g' hg'')⟩
 .rintro σ M' ⟨⟨y5,y7,rfl⟩,us,vs,hab,hr,lv',hg'⟩;have:vs=[]:=by cases vs with|nil=>rfl|cons _ _=>cases hr
  subst this;rw[zV8]at hab;subst hab;have keep:∀ {j:Nat} {u:MO},M0[j]?=some u->j≠jf->j≠jb->M'[j]?=some u:=λ{j u} e q1 q2=>(lv'.fr j (zVR.mp e).1 q1 q2).trans e;exact ⟨.inl (keep hl l1 l2),rfl,⟨_,_,rfl⟩,lv'⟩
theorem zMv (k:Int) (st:Fd) (p t:Ye):zF (zAt k st p).1 t=(if (zF st.1 t).isSome then zF st.1 t else if t=p then some (.int k) else none)/\(t∈(zAt k st p).2 ↔ t∈st.2\/(zF st.1 t=none/\t=p)):=by
 unfold zAt;by_cases h:(zF st.1 p).isSome=true
 .rw[zVd h];constructor
  .by_cases ht:(zF st.1 t).isSome=true
   .rw[zVd ht]
   .rw[zVg ht,zVg (λz=>ht (by rw[z];exact h))];cases e:zF st.1 t with
    |none=>rfl
    |some d=>rw[e]at ht;simp at ht
  .constructor
   .exact .inl
   .rintro (q|⟨q,rfl⟩)
    .exact q
    .rw[q]at h;cases h
 .rw[zVg h];have hn:zF st.1 p=none:=by
   cases e:zF st.1 p with
   |none=>rfl
   |some d=>rw[e]at h;simp at h
  constructor
  .rw[zB6];by_cases ht:p=t
   .subst ht;rw[zVd rfl,zVg h,zVd rfl]
   .rw[zVg ht];by_cases hs:(zF st.1 t).isSome=true
    .rw[zVd hs]
    .rw[zVg hs,zVg (λz=>ht z.symm)];cases e:zF st.1 t with
     |none=>rfl
     |some d=>rw[e]at hs;simp at hs
  .rw[zVo,zVq];constructor
   .rintro (q|rfl)
    .exact .inl q
    .exact .inr ⟨hn,rfl⟩
   .rintro (q|⟨_,q⟩)
    .exact .inl q
    .exact .inr q
theorem zF0 (k:Int):∀ (ps:Ya) (st:Fd) (t:Ye),zF (ps.foldl (zAt k) st).1 t=(if (zF st.1 t).isSome then zF st.1 t else if t∈ps then some (.int k) else none)/\(t∈(ps.foldl (zAt k) st).2 ↔ t∈st.2\/(zF st.1 t=none/\t∈ps))
 |[],st,t=>by
  constructor
  .by_cases h:(zF st.1 t).isSome=true
   .rw[zVd h];rfl
   .rw[zVg h,zVg (by simp)];cases e:zF st.1 t with
    |none=>exact e
    |some d=>rw[e]at h;simp at h
  .simp
 |p::r,st,t=>by
  obtain ⟨a1,a2⟩:=zMv k st p t;obtain ⟨b1,b2⟩:=zF0 k r (zAt k st p) t;rw[List.foldl_cons,b1,b2,a2,a1];by_cases h:(zF st.1 t).isSome=true
  .rw[zVd h,zVd h,zVd h];refine ⟨rfl,?_⟩;have hn:¬ zF st.1 t=none:=λz=>by rw[z]at h;cases h
   simp[hn]
  .have hn:zF st.1 t=none:=by
    cases e:zF st.1 t with
    |none=>rfl
    |some d=>rw[e]at h;simp at h
   rw[zVg h,zVg h];by_cases hp:t=p
   .rw[zVd hp];refine ⟨?_,?_⟩
    .rw[zVd (show (some (D.int k)).isSome=true from rfl),zVd (by rw[hp];exact zVc)]
    .simp[hn,hp]
   .rw[zVg hp];refine ⟨?_,?_⟩
    .rw[zVg (by simp)];by_cases hr:t∈r
     .rw[zVd hr,zVd (zVb _ hr)]
     .rw[zVg hr,zVg (by simp[hp,hr])]
    .simp[hn,hp]
theorem zHz (src:Y1) (k:Int) (gs:Ya) (st:Fd) (t:Ye):zF (zBV src k gs st).1 t=(if (zF st.1 t).isSome then zF st.1 t else if t∈gs.flatMap src then some (.int (k+1)) else none)/\(t∈(zBV src k gs st).2 ↔ t∈st.2\/(zF st.1 t=none/\t∈gs.flatMap src)):=by
 have:∀ (gs:Ya) (st:Fd),zBV src k gs st=(gs.flatMap src).foldl (zAt (k+1)) st:=by
  intro gs;induction gs with
  |nil=>intro st;rfl
  |cons g r ih=>
   intro st;show zBV src k r ((src g).foldl (zAt (k+1)) st)=_;rw[ih,List.flatMap_cons,List.foldl_append]
 rw[this gs st];exact zF0 (k+1) (gs.flatMap src) st t
def Rch (zA:Ya) (l:Nat) (G:Yq) (t:Ye) (n:Nat):Prop:=∃ w:List Int,w.length=n/\(∀ x∈w,0<=x/\x<(l:Int))/\G (zGY zA t w)
def Dst (zA:Ya) (l:Nat) (G:Yq) (t:Ye) (n:Nat):Prop:=Rch zA l G t n /\ ∀ m,m<n -> ¬ Rch zA l G t m
theorem zFi:Rch zA l G t (n+1) ↔ ∃ x:Int,(0<=x/\x<(l:Int))/\Rch zA l G (setR zA t x) n:=by
 constructor
 .rintro ⟨w,hw,hb,hl⟩;cases w with
  |nil=>cases hw
  |cons x w=>exact ⟨x,hb x zVc,w,by simpa using hw,λy hy=>hb y (zVb _ hy),hl⟩
 .rintro ⟨x,hx,w,hw,hb,hl⟩;exact ⟨x::w,by simp[hw],λy hy=>by rcases zVa.mp hy with rfl|q;exact hx;exact hb y q,hl⟩
theorem zJa:Rch zA l G t 0 ↔ G t:=by
 constructor
 .rintro ⟨w,hw,_,hl⟩;have:w=[]:=List.length_eq_zero_iff.mp hw;subst this;exact hl
 .intro h;exact ⟨[],rfl,(λ_ h=>by cases h),h⟩
theorem zAl:Dst zA l G t 0 ↔ G t:=by
 unfold Dst;rw[zJa];exact ⟨λh=>h.1,λh=>⟨h,λm hm=>by omega⟩⟩
theorem zCq:Dst zA l G t (n+1) ↔ (∀ m,m<=n -> ¬ Rch zA l G t m) /\ ∃ x:Int,(0<=x/\x<(l:Int))/\Dst zA l G (setR zA t x) n:=by
 constructor
 .rintro ⟨h1,h2⟩;obtain ⟨x,hx,hr⟩:=zFi.mp h1;exact ⟨λm hm=>h2 m (by omega),x,hx,hr,λm hm hq=>h2 (m+1) (by omega) (zFi.mpr ⟨x,hx,hq⟩)⟩
 .rintro ⟨h1,x,hx,hr,_⟩;exact ⟨zFi.mpr ⟨x,hx,hr⟩,λm hm=>h1 m (by omega)⟩
theorem zGg:∀ n,Rch zA l G t n -> ∃ m,m<=n/\Dst zA l G t m:=by
 intro n;induction n using Nat.strongRecOn with
 |ind n ih=>
  intro h;by_cases q:∃ m,m<n/\Rch zA l G t m
  .obtain ⟨m,hm,hr⟩:=q;obtain ⟨m',h1,h2⟩:=ih m hm hr;exact ⟨m',by omega,h2⟩
  .exact ⟨n,zVU _,h,λm hm hr=>q ⟨m,hm,hr⟩⟩
theorem zAM (h1:Dst zA l G t a) (h2:Dst zA l G t b):a=b:=by
 rcases Nat.lt_trichotomy a b with q|q|q
 .exact absurd h1.1 (h2.2 a q)
 .exact q
 .exact absurd h2.1 (h1.2 b q)
def zGP (zA:Ya) (l:Nat) (G:Yq) (U:Yq) (k:Nat) (fd:List (List Int × D)) (lev:Ya):Prop:=(∀ t d,zF fd t=some d ↔ U t /\ ∃ n:Nat,n<=k/\Dst zA l G t n/\d=.int (n:Int)) /\ ∀ t,t∈lev ↔ U t/\Dst zA l G t k
theorem zEu (h:zGP zA l G U k fd lev) (u:U t):zF fd t=none ↔ ∀ m,m<=k -> ¬ Rch zA l G t m:=by
 constructor
 .intro e m hm hr;obtain ⟨n,hn,hd⟩:=zGg m hr;rw[(h.1 t (.int (n:Int))).mpr ⟨u,n,by omega,hd,rfl⟩]at e;cases e
 .intro q;cases e:zF fd t with
  |none=>rfl
  |some d=>
   obtain ⟨_,n,hn,hd,_⟩:=(h.1 t d).mp e;exact absurd hd.1 (q n hn)
theorem zNg {zA:Ya} {l:Nat} {U P:Yq} {src:Y1} (hs:∀ g t,t∈src g ↔ P t /\ ∃ x:Int,(0<=x/\x<(l:Int))/\setR zA t x=g) (hP:∀ t,P t->U t) (hU:∀ t n,U t -> ¬ G t->Rch zA l G t n->P t) (hc:∀ t (x:Int),U t->0<=x/\x<(l:Int)->U (setR zA t x))
  {k:Nat} {fd:List (List Int × D)} {lev:Ya} (h:zGP zA l G U k fd lev):zGP zA l G U (k+1) (zBV src (k:Int) lev (fd,[])).1 (zBV src (k:Int) lev (fd,[])).2:=by
 have key:∀ t,(zF fd t=none/\t∈lev.flatMap src) ↔ U t/\Dst zA l G t (k+1):=by
  intro t;constructor
  .rintro ⟨e,hm⟩;obtain ⟨g,hg,ht⟩:=List.mem_flatMap.mp hm;obtain ⟨p,x,hx,hq⟩:=(hs g t).mp ht;have u:=hP t p;refine ⟨u,zCq.mpr ⟨(zEu h u).mp e,x,hx,?_⟩⟩;rw[hq];exact ((h.2 g).mp hg).2
  .rintro ⟨u,hd⟩;obtain ⟨q,x,hx,hr⟩:=zCq.mp hd;refine ⟨(zEu h u).mpr q,List.mem_flatMap.mpr ⟨setR zA t x,(h.2 _).mpr ⟨hc t x u hx,hr⟩,(hs _ t).mpr ⟨hU t _ u ?_ hd.1,x,hx,rfl⟩⟩⟩;intro h1;exact q 0 (zWA _) (zJa.mpr h1)
 constructor
 .intro t d;rw[(zHz src (k:Int) lev (fd,[]) t).1];cases e:zF fd t with
  |some d'=>
   rw[zVd (show (some d').isSome=true from rfl)];obtain ⟨u,n,hn,hd,rfl⟩:=(h.1 t d').mp e;constructor
   .intro z;cases z;exact ⟨u,n,by omega,hd,rfl⟩
   .rintro ⟨_,m,_,hm,rfl⟩;rw[zAM hm hd]
  |none=>
   rw[zVg (by simp)];by_cases hm:t∈lev.flatMap src
   .rw[zVd hm];obtain ⟨u,hd⟩:=(key t).mp ⟨e,hm⟩;constructor
    .intro z;cases z;exact ⟨u,k+1,zVU _,hd,by simp⟩
    .rintro ⟨_,m,_,hm',rfl⟩;rw[zAM hm' hd];simp
   .rw[zVg hm];constructor
    .intro z;cases z
    .rintro ⟨u,m,hk,hd,rfl⟩;exfalso;by_cases hmk:m<=k
     .exact (zEu h u).mp e m hmk hd.1
     .have:m=k+1:=by omega
      subst this;exact hm ((key t).mpr ⟨u,hd⟩).2
 .intro t;rw[(zHz src (k:Int) lev (fd,[]) t).2];rw[key t];simp
theorem zNl {zA:Ya} {l:Nat} {G:Yq} {U:Yq} (hc:∀ t (x:Int),U t->0<=x/\x<(l:Int)->U (setR zA t x)) {k:Nat} {fd:List (List Int × D)} (h:zGP zA l G U k fd []) (t:Ye) (d:D):zF fd t=some d ↔ U t /\ ∃ n:Nat,Dst zA l G t n/\d=.int (n:Int):=by
 have far:∀ n t,U t -> ¬ Dst zA l G t (k+n):=by
  intro n;induction n with
  |zero=>intro t u hd;exact absurd ((h.2 t).mpr ⟨u,hd⟩) (by simp)
  |succ n ih=>
   intro t u hd;obtain ⟨_,x,hx,hr⟩:=zCq.mp (show Dst zA l G t ((k+n)+1)from hd);exact ih _ (hc t x u hx) hr
 rw[h.1 t d];constructor
 .rintro ⟨u,n,_,a,b⟩;exact ⟨u,n,a,b⟩
 .rintro ⟨u,n,a,b⟩;refine ⟨u,n,?_,a,b⟩;by_cases q:n<=k
  .exact q
  .exfalso;have e:n=k+(n-k):=by omega
   rw[e]at a;exact far _ t u a
def Th (zA:Ya) (t:Ye):Prop:=IsS zA t/\t.length<=2
def zDN (zA:Ya) (l:Nat) (g:Ye):List (List Int):=zCm zA (zCE l (zc (zK zA))) g
theorem zQi (g t:Ye):t∈zDN zA l g ↔ t∈zc (zK zA) /\ ∃ x:Int,(0<=x/\x<(l:Int))/\setR zA t x=g:=by
 unfold zDN zCm zCE;simp only[zVf,zWZ,List.mem_flatMap,zV2,zWb];constructor
 .rintro ⟨q,⟨⟨p,hp,k,hk,rfl⟩,hq⟩,rfl⟩;exact ⟨hp,(k:Int),⟨by omega,by omega⟩,hq⟩
 .rintro ⟨hp,x,⟨x0,x1⟩,hq⟩;refine ⟨(t,x),⟨⟨t,hp,x.toNat,by omega,?_⟩,hq⟩,rfl⟩;rw[show ((x.toNat:Nat):Int)=x by omega]
theorem zAB:x∈zK zA ↔ 0<=x/\x<(zA.length:Int):=by
 unfold zK;simp only[zVf,zV2];constructor
 .rintro ⟨k,hk,rfl⟩;omega
 .rintro ⟨h0,h1⟩;exact ⟨x.toNat,by omega,by omega⟩
theorem zDv (t:Ye) (h:t∈zc (zK zA)):Th zA t:=by
 refine ⟨zL7 h,?_⟩;obtain ⟨a,b,rfl,_⟩:=zAh.mp h;exact zVU _
theorem zLl (t:Ye) (h:Th zA t) (h1:t.length≠1):t∈zc (zK zA):=by
 obtain ⟨⟨pw,n0,hm⟩,h2⟩:=h;match t,pw,n0,hm,h1,h2 with
 |[a,b],pw,_,hm,_,_=>
  exact zAh.mpr ⟨a,b,rfl,zAB.mpr (hm a (by simp)),zAB.mpr (hm b (by simp)),by simpa using pw⟩
 |[a],_,_,_,h1,_=>exact absurd rfl h1
 |[],_,n0,_,_,_=>cases n0
 |_::_::_::_,_,_,_,_,h2=>simp at h2
theorem zC8 (m:IsM zA l) (t:Ye) (x:Int) (h:Th zA t) (hx:0<=x/\x<(l:Int)):Th zA (setR zA t x):=by
 refine ⟨m.setR h.1 hx.1 hx.2,?_⟩;have:=zME (t.map λh=>zq zA h x);rw[zVX]at this;exact zVp this h.2
def zDW (zA:Ya) (G:Yq):Prop:=(∀ t,Th zA t->t.length=1->G t) \/ ∀ t,t.length=1 -> ¬ G t
theorem zHj (m:IsM zA l):∀ (w t:Ye),Th zA t->t.length=1->(∀ x∈w,0<=x/\x<(l:Int))->(zGY zA t w).length=1
 |[],_,_,h,_=>h
 |x::w,t,u,h,hw=>by
  have hx:=hw x zVc;have u':=zC8 m t x u hx;refine zHj m w (setR zA t x) u' ?_ λy hy=>hw y (zVb _ hy);have h1:=zME (t.map λh=>zq zA h x);rw[zVX,h]at h1;have h2:=u'.1.n0;have h3:(setR zA t x).length<=1:=h1;omega
theorem zFB (m:IsM zA l) (o:zDW zA G) (t:Ye) (n:Nat) (u:Th zA t) (g:¬ G t) (r:Rch zA l G t n):t∈zc (zK zA):=by
 refine zLl t u λh1=>?_;rcases o with o|o
 .exact g (o t u h1)
 .obtain ⟨w,_,hw,hg⟩:=r;exact o _ (zHj m w t u h1 hw) hg
theorem zJs (m:IsM zA l) (o:zDW zA G) (h:zGP zA l G (Th zA) k fd lev):zGP zA l G (Th zA) (k+1) (zBV (zDN zA l) (k:Int) lev (fd,[])).1 (zBV (zDN zA l) (k:Int) lev (fd,[])).2 :=
 zNg (P:=λt=>t∈zc (zK zA)) zQi zDv (zFB m o) (zC8 m) h
theorem zMn (hts:∀ t,t∈ts ↔ Th zA t/\G t) (h:∀ t d,zF fd t=some d ↔ t∈ts/\d=.int 0):zGP zA l G (Th zA) 0 fd ts:=by
 have key:∀ t,t∈ts ↔ Th zA t/\Dst zA l G t 0:=λt=>by rw[zAl,hts]
 refine ⟨λt d=>?_,key⟩;rw[h t d,key t];constructor
 .rintro ⟨⟨a,b⟩,rfl⟩;exact ⟨a,0,zVU _,b,by simp⟩
 .rintro ⟨a,n,hn,b,rfl⟩;have:n=0:=by omega
  subst this;exact ⟨⟨a,b⟩,by simp⟩
abbrev One (t:Ye):Prop:=t.length=1
theorem zOv (t:Ye):t∈(zK zA).map (λr=>[r]) ↔ Th zA t/\One t:=by
 rw[zVf];constructor
 .rintro ⟨r,hr,rfl⟩;have:=zAB.mp hr;refine ⟨⟨⟨by simp,by simp,λx hx=>?_⟩,by simp⟩,rfl⟩;rw[zVq]at hx;subst hx;exact this
 .rintro ⟨⟨s,_⟩,h1⟩;obtain ⟨r,rfl⟩:=List.length_eq_one_iff.mp h1;exact ⟨r,zAB.mpr (s.mem r (by simp)),rfl⟩
theorem zLt:zDW zA One:=.inl λ_ _ h=>h
theorem whole (m:IsM zA l) (h:zGP zA l G (Th zA) k fd []) (t:Ye) (d:D):zF fd t=some d ↔ Th zA t /\ ∃ n:Nat,Dst zA l G t n/\d=.int (n:Int):=zNl (zC8 m) h t d
theorem zE5 {α:Type} [DecidableEq α]:∀ (xs ys:List α),xs.Nodup->(∀ x∈xs,x∈ys)->xs.length<=ys.length
 |[],_,_,_=>zWA _
 |x::r,ys,h,hm=>by
  obtain ⟨h1,h2⟩:=zWi.mp h;have hx:x∈ys:=hm x zVc;have:=zE5 r (ys.erase x) h2 λy hy=>(List.mem_erase_of_ne (λz=>h1 (by rw[<-z];exact hy))).mpr (hm y (zVb _ hy));rw[List.length_erase_of_mem hx]at this;have:=zYa hx;simp only[zVv];omega
theorem zDi:∀ {T:List (List Int × D)} {g:Ye},(zF T g).isSome=true ↔ g∈T.map (·.1)
 |[],g=>by simp[zF]
 |q::r,g=>by
  unfold zF;by_cases h:q.1=g
  .simp[h]
  .rw[zVg h,zDi (T:=r)];simp only[zVh,zVa];constructor
   .exact .inr
   .rintro (z|z)
    .exact absurd z.symm h
    .exact z
structure Sz (n:Nat) (st:Fd):Prop where
 ks:(st.1.map (·.1)).Nodup
 nd:st.2.Nodup
 sub:∀ t∈st.2,t∈st.1.map (·.1)
 len:st.1.length=n+st.2.length
theorem zRO {n:Nat} {st:Fd} (k:Int) (p:Ye) (h:Sz n st):Sz n (zAt k st p):=by
 unfold zAt;by_cases q:(zF st.1 p).isSome=true
 .rw[zVd q];exact h
 .rw[zVg q];have hn:zF st.1 p=none:=by
   cases e:zF st.1 p with
   |none=>rfl
   |some d=>rw[e]at q;simp at q
  have hk:p∉st.1.map (·.1):=λz=>q (zDi.mpr z);have e:zB3 st.1 p (.int k)=st.1++[(p,.int k)]:=by unfold zB3;rw[hn]
  rw[e];refine ⟨?_,?_,?_,?_⟩
  .rw[zWG,zWc];refine ⟨h.ks,by simp,λa ha b hb=>?_⟩;simp at hb;subst hb;intro z;subst z;exact hk ha
  .rw[zWc];refine ⟨h.nd,by simp,λa ha b hb=>?_⟩;simp at hb;subst hb;intro z;subst z;exact hk (h.sub _ ha)
  .intro t ht;rw[zWG,zVo];rcases zVo.mp (show t∈st.2++[p]from ht)with z|z
   .exact .inl (h.sub t z)
   .right;simpa using z
  .rw[zVe,zVe,h.len];simp;omega
theorem zFe (src:Y1) (k:Int):∀ (gs:Ya) {st:Fd},Sz n st->Sz n (zBV src k gs st)
 |[],st,h=>h
 |g::r,st,h=>by
  refine zFe src k r ?_;have:∀ (ps:Ya) {st:Fd},Sz n st->Sz n (ps.foldl (zAt (k+1)) st):=by
   intro ps;induction ps with
   |nil=>intro st h;exact h
   |cons p ps ih=>intro st h;exact ih (zRO (k+1) p h)
  exact this _ h
theorem zMS (k:Int) (st:Fd) (p:Ye):st.1.length<=(zAt k st p).1.length:=by
 unfold zAt;split
 .exact zVU _
 .unfold zB3;cases zF st.1 p <;> simp
theorem zHV (src:Y1) (k:Int):∀ (gs:Ya) (st:Fd),st.1.length<=(zBV src k gs st).1.length
 |[],st=>zVU _
 |g::r,st=>by
  have h1:∀ (ps:Ya) (st:Fd),st.1.length<=(ps.foldl (zAt (k+1)) st).1.length:=by
   intro ps;induction ps with
   |nil=>intro st;exact zVU _
   |cons p ps ih=>intro st;exact zVp (zMS (k+1) st p) (ih _)
  exact zVp (h1 (src g) st) (zHV src k r _)
theorem zE8 (h:zGP zA l G (Th zA) k fd lev) (hk:(fd.map (·.1)).Nodup):fd.length<=zA.length+zA.length*zA.length:=by
 have hr:(zK zA).length=zA.length:=by unfold zK;simp
 have h1:=zE5 (fd.map (·.1)) ((zK zA).map (λr=>[r])++zc (zK zA)) hk λt ht=>by
  have hs:=zDi.mpr ht;cases e:zF fd t with
  |none=>rw[e]at hs;cases hs
  |some d=>
   obtain ⟨u,_⟩:=(h.1 t d).mp e;rw[zVo];by_cases h1:t.length=1
   .obtain ⟨r,rfl⟩:=List.length_eq_one_iff.mp h1;exact .inl (zVf.mpr ⟨r,zAB.mpr (u.1.mem r (by simp)),rfl⟩)
   .exact .inr (zLl t u h1)
 have h2:=zCF (zK zA);rw[zVX,zVe,zVX,hr]at h1;rw[hr]at h2;omega
theorem zPJ (h:f σ M=some (.dat (.ref j),M)) (hj:M[j]?=some (.lst xs)):zKG f σ M=some (!xs.isEmpty,M):=by
 unfold zKG;rw[h];dsimp only;rw[zAA hj]
theorem zQ2 (zA:Ya) (l:Nat) (g:Ye):(zDN zA l g).length<=zA.length*zA.length*l:=by
 unfold zDN zCm;rw[zVX];refine zVp (zXi _ _) ?_;rw[zGi];have:=zCF (zK zA);have hr:(zK zA).length=zA.length:=by unfold zK;simp
 rw[hr]at this;exact Nat.mul_le_mul_right l this
theorem zOs (m:IsM zA l) (oa:zDW zA G) (hR:zA.length<=26) (hl:l<=12) (h1:jf<M0.length) (hd:M0[jd]?=some (dT Ts)) (d1:jd≠jf) (hs:∀ g,(∃ j,zF Ts g=some (.ref j)/\j≠jf/\M0[j]?=some (.lst ((zDN zA l g).map tI)))\/(zF Ts g=none/\zDN zA l g=[])) (hf:M0[jf]?=some (dT fd)) (hv:M0[jl]?=some (.lst (lev.map tI))) (l1:jl≠jf) (inv:zGP zA l G (Th zA) 0 fd lev) (nk:(fd.map (·.1)).Nodup) (nl:lev.length<=fd.length) :
  OkS (zAv (zKG (zC 3)) (zV (zh 6 (zA5 zG)) (zV (zCM (zv (zC 3)) (gN 5) (zCM (zv (zAu (zC 2) (zC 5) (zA5 zG))) (gN 7) (sIf (tst (fOp (zBF true) (zC 7) (zC 4))) (zV (zBt (fOp zAP (fOp zAc (zC 4) (zC 5)) (fC (.int 1))) (zC 4) (zC 7)) (zBQ (fM zAq (zC 6) (zD (toD (zC 7)) zG)))) zBu))) (zh 3 (zC 6)))) 1000 [some (mD zA),x1,some (.ref jd),some (.ref jl),some (.ref jf),y5,y6,y7] M0)
   λo σ' M'=>o=.nx/\(∃ y3 y5 y6 y7,σ'=[some (mD zA),x1,some (.ref jd),y3,some (.ref jf),y5,y6,y7])/\(∃ fd',M'[jf]?=some (dT fd')/\fd'.length<=702 /\ ∀ t d,zF fd' t=some d ↔ Th zA t /\ ∃ n:Nat,Dst zA l G t n/\d=.int (n:Int))/\M0.length<=M'.length /\ ∀ j,j<M0.length->j≠jf->M'[j]?=M0[j]?:=by
 have hN:zA.length+zA.length*zA.length<=702:=by
  have:=zW0 hR hR;omega
 have hB:zA.length*zA.length*l<=8112:=zW0 (zW0 hR hR) hl;refine zB8 (I:=λz σ M=>∃ (jl:Nat) (y5 y6 y7:Option D) (k:Nat) (fd:List (List Int × D)) (lev:Ya),σ=[some (mD zA),x1,some (.ref jd),some (.ref jl),some (.ref jf),y5,y6,y7]/\M[jf]?=some (dT fd)/\M[jl]?=some (.lst (lev.map tI))/\jl≠jf/\zGP zA l G (Th zA) k fd lev/\(fd.map (·.1)).Nodup/\lev.length<=fd.length/\M0.length<=M.length/\(∀ j,j<M0.length->j≠jf->M[j]?=M0[j]?)/\z=(702-fd.length)+(if lev.isEmpty then 0 else 1)) ?_ 1000 ((702-fd.length)+(if lev.isEmpty then 0 else 1)) _ _ (by split <;> omega) ⟨jl,y5,y6,y7,0,fd,lev,rfl,hf,hv,l1,inv,nk,nl,zVU _,λ_ _ _=>rfl,rfl⟩;rintro z σ M ⟨jl,y5,y6,y7,k,fd,lev,rfl,hf,hv,l1,inv,nk,nl,hlen,fr,rfl⟩;have hfl:=zVp (zE8 inv nk) hN;refine zE (M:=M) (a:=!(lev.map tI).isEmpty) (zPJ rfl hv) ?_;cases lev with
 |nil=>
  exact ⟨rfl,⟨_,_,_,_,rfl⟩,⟨fd,hf,hfl,whole m inv⟩,hlen,fr⟩
 |cons g0 lev0=>
  show OkS (zV _ _ [some (mD zA),x1,some (.ref jd),some (.ref jl),some (.ref jf),y5,y6,y7] M) _;generalize hlv:g0::lev0=lev at *;have hne0:lev.isEmpty=false:=by rw[<-hlv];rfl
  rw[zJ,zW];refine zE (M:=M) (a:=.fl []) (by unfold zA5 zG;dsimp only;rw[zVd (zm (by simp))]) ?_;rw[zFd,zQ,zJ,zA6];have fl:=(zVR.mp hf).1;have vl:=(zVR.mp hv).1;have up:∀ {j:Nat},j<M.length->(M++[MO.lst ([]:List D)])[j]?=M[j]?:=λh=>zVV h;have dl:=(zVR.mp hd).1;refine ⟨_,_,_,(show zv (zC 3) [some (mD zA),x1,some (.ref jd),some (.ref jl),some (.ref jf),y5,some (.ref M.length),y7] (M++[.lst []])=some (lev.map tI,zDn (.dat (.ref jl)) (lev.map tI),M++[.lst []]) by
   unfold zv;rw[show zC 3 [some (mD zA),x1,some (.ref jd),some (.ref jl),some (.ref jf),y5,some (.ref M.length),y7] (M++[.lst []])=some (.dat (.ref jl),M++[.lst []])from rfl];dsimp only;rw[zAA ((up vl).trans hv)]),?_⟩
  have sz0:Sz fd.length (fd,([]:List (List Int))):=⟨nk,by simp,(λt h=>by cases h),by simp⟩;have szw:Sz fd.length (zBV (zDN zA l) (k:Int) lev (fd,[])):=zFe _ _ lev sz0;have hflw:=zVp (zE8 (zJs m oa inv) szw.ks) hN;refine OkS.mono (zQd (k:=(k:Int)) (src:=zDN zA l) (st:=(fd,[])) (Ts:=Ts) (by omega) (by simp;omega) (by simp) ((up (by omega)).trans ((fr _ dl d1).trans hd)) d1 (by omega) ((up vl).trans hv) l1 (by omega) ?_ 8112 (λg _=>zVp (zQ2 zA l g) hB) ?_ 702 (by omega) (λus vs e=>?_) ⟨(up fl).trans hf,by simp,zVU _,λ_ _ _ _=>rfl⟩) ?_
  .intro g;rcases hs g with ⟨j,e,q1,q2⟩|q
   .have jl':=(zVR.mp q2).1;exact .inl ⟨j,e,q1,by omega,(up (by omega)).trans ((fr _ jl' q1).trans q2)⟩
   .exact .inr q
  .intro g hg;obtain ⟨u,hd'⟩:=(inv.2 g).mp hg;exact (inv.1 g _).mpr ⟨u,k,zVU _,hd',rfl⟩
  .have h3:=zHV (zDN zA l) (k:Int) vs (zBV (zDN zA l) (k:Int) us (fd,[]));have h4:zBV (zDN zA l) (k:Int) vs (zBV (zDN zA l) (k:Int) us (fd,[]))=zBV (zDN zA l) (k:Int) lev (fd,[]):=by rw[e];unfold zBV;rw[List.foldl_append]
   rw[h4]at h3;have h5:=(zFe (zDN zA l) (k:Int) us sz0).len;omega
  .rintro o σ' M' ⟨rfl,⟨y5,y7,rfl⟩,lv⟩;rw[zQ,zW];refine zE (M:=M') (a:=.dat (.ref M.length)) rfl ?_;rw[zI];have sz:Sz fd.length (zBV (zDN zA l) (k:Int) lev (fd,[])):=zFe _ _ lev ⟨nk,by simp,(λt h=>by cases h),by simp⟩;have inv':=zJs m oa inv;generalize zBV (zDN zA l) (k:Int) lev (fd,[])=st at lv sz inv';have hfl':=zVp (zE8 inv' sz.ks) hN;have hsl:=sz.len;refine ⟨(702-st.1.length)+(if st.2.isEmpty then 0 else 1),?_,M.length,y5,_,y7,k+1,st.1,st.2,rfl,lv.f,lv.b,by omega,inv',sz.ks,by omega,?_,?_,rfl⟩
   .rw[hne0];cases e:st.2 with
    |nil=>simp;omega
    |cons a r=>rw[e]at hsl;simp at hsl ⊢;omega
   .have:=lv.len;simp at this;omega
   .intro j hj hjf;rw[lv.fr j (by simp;omega) hjf (by omega),up (by omega)];exact fr j hj hjf
theorem zNS {M:Mem} {ts:Ya} (hf:f σ M=some (.dat (.ref jl),M)) (hj:M[jl]?=some (.lst (ts.map tI))) (nd:ts.Nodup) (hz:ts.length<=80000) (hg:∀ a,gN i a (zA2 own σ)=some ((zA2 own σ).set i (some a))) (hs:∀ (a:D) M',zC i ((zA2 own σ).set i (some a)) M'=some (.dat a,M')) :
  zCf true own (zv f) (gN i) ze (zC i) (fC (.int 0)) σ M=some (.dat (.ref M.length),M++[dT (ts.map λt=>(t,.int 0))]):=by
 have hjl:=(zVR.mp hj).1;unfold zCf zv;rw[hf];dsimp only;rw[zAA hj];dsimp only;have loop:∀ (r q:Ya),q++r=ts->zCN (gN i) ze (zC i) (fC (.int 0)) (zA2 own σ) M.length (ts.map tI) (zDn (.dat (.ref jl)) (ts.map tI)) (r.map tI) (M++[dT (q.map λt=>(t,.int 0))])=some (M++[dT (ts.map λt=>(t,.int 0))]):=by
  intro r;induction r with
  |nil=>intro q e;rw[zV8]at e;subst e;exact zHQ (.inl (by rw[zVV hjl];exact hj))
  |cons x r ih=>
   intro q e;have hx:x∉q:=λz=>by
    rw[<-e,zWc]at nd;exact nd.2.2 x z x zVc rfl
   have hl:q.length<90000:=by have:=congrArg List.length e;simp at this;omega
   have hk:zF (q.map λt=>(t,D.int 0)) x=none:=by
    cases e2:zF (q.map λt=>(t,D.int 0)) x with
    |none=>rfl
    |some d=>
     have:=zDi.mp (show (zF (q.map λt=>(t,D.int 0)) x).isSome=true by rw[e2];rfl);rw[zVm]at this;obtain ⟨y,hy,rfl⟩:=zVf.mp this;exact absurd hy hx
   have hgd:zAo (zDn (.dat (.ref jl)) (ts.map tI)) (ts.map tI) (M++[dT (q.map λt=>(t,.int 0))]):=.inl (by rw[zVV hjl];exact hj);rw[zVh,zLO (σ1:=(zA2 own σ).set i (some (tI x))) (k:=tI x) (v:=.int 0) (M':=M++[dT ((q++[x]).map λt=>(t,.int 0))]) hgd (hg _) (hs _ _) rfl]
   .exact ih (q++[x]) (by rw[<-e];simp)
   .rw[zH1 (T:=q.map λt=>(t,.int 0)) (by simp) (by rw[zVX];exact hl)];unfold zB3;rw[hk];simp
 have:=loop ts [] rfl;rw[show zEA true=dT []from rfl];rw[show (([]:List (List Int)).map λt=>(t,D.int 0))=[]from rfl]at this;rw[this]
theorem zHD {zA:Ya} (m:IsM zA l) (oa:zDW zA G) (hR:zA.length<=26) (hl:l<=12) {M:Mem} {ts:Ya} (hj:M[jg]?=some (.lst (ts.map tI))) (nd:ts.Nodup) (hts:∀ t,t∈ts ↔ Th zA t/\G t) (hz:ts.length<=80000):Ok (zBK [mD zA,.ref jg] M) λd M'=>∃ jf,d=.ref jf/\M.length<=jf/\(∃ fd,M'[jf]?=some (dT fd)/\fd.length<=702 /\ ∀ t d,zF fd t=some d ↔ Th zA t /\ ∃ n:Nat,Dst zA l G t n/\d=.int (n:Int))/\M.length<=M'.length /\ ∀ j,j<M.length->M'[j]?=M[j]?:=by
 have hjl:=(zVR.mp hj).1;unfold zBK;rw[zAK];unfold zC2;rw[zJ,zW];refine zBi.mpr (zE (zo rfl) (Ok.mono (zQh m (by omega) hl) ?_));rintro d M1 ⟨rfl,sr,h1,fr⟩;rw[zI,zQ];refine zBv (d:=.ref jg) rfl ?_;have hj1:=(fr _ hjl).trans hj;rw[zJ,zW];refine zE (zNS (jl:=jg) (ts:=ts) rfl hj1 nd hz (λ_=>rfl) (λ_ _=>rfl)) ?_;rw[zI,zQ];obtain ⟨T,ed,hT,a1,a2,a3⟩:=sr.ex;have up:∀ {j:Nat} {u:MO},M1[j]?=some u->(M1++[dT (ts.map λt=>(t,D.int 0))])[j]?=some u:=λ{j u} h=>by rw[zVV (zVR.mp h).1];exact h
 have ed':=(zVR.mp ed).1;rw[zJ];refine OkS.mono (zOs (jf:=M1.length) (jd:=M.length) (jl:=jg) (Ts:=T) (lev:=ts) (fd:=ts.map λt=>(t,D.int 0)) m oa hR hl (by simp) (up ed) (by omega) ?_ (by simp) (up hj1) (by omega) (zMn hts ?_) ?_ (by simp)) ?_
 .intro g;cases e:zF T g with
  |none=>exact .inr ⟨rfl,a2 g e⟩
  |some d=>
   obtain ⟨j,rfl,q1,q2⟩:=a1 g d e;have:=(zVR.mp q2).1;exact .inl ⟨j,rfl,by omega,up q2⟩
 .intro t d;have gen:∀ (ts:Ya),zF (ts.map λt=>(t,D.int 0)) t=some d ↔ t∈ts/\d=.int 0:=by
   intro ts;induction ts with
   |nil=>simp[zF]
   |cons x r ih=>
    rw[zVh,zF];by_cases q:x=t
    .subst q;simp[eq_comm]
    .rw[zVg q,ih,zVa];constructor
     .rintro ⟨z1,z2⟩;exact ⟨.inr z1,z2⟩
     .rintro ⟨z1|z1,z2⟩
      .exact absurd z1.symm q
      .exact ⟨z1,z2⟩
  exact gen _
 .rw[zVm];rw[show ((λ(x:List Int × D)=>x.1)∘λ(t:Ye)=>(t,D.int 0))=id from rfl,List.map_id];exact nd
 .rintro o σ' M' ⟨rfl,⟨y3,y5,y6,y7,rfl⟩,⟨fd,e1,e2,e3⟩,hlen,fr'⟩;rw[zQ];rw[zVe]at hlen fr';refine zBI (d:=.ref M1.length) rfl ⟨M1.length,rfl,by omega,⟨fd,e1,e2,e3⟩,by omega,λj hj=>?_⟩;rw[fr' j (by omega) (by omega),zVV (by omega)];exact fr j hj
def zE9:FS:=(zAY (zP zBK (zD (toD (zC 0)) (zD (toD (zi [1] (zy (zD (toD (fB zBM (zM (zC 0) za))) zG)) (gN 1) ze (zBL (zD (toD (zC 1)) zG)))) zG))))
def zBX:FF:=zBH 2 zE9
theorem zGA (m:IsM zA l) (hR:zA.length<=26) (hl:l<=12):Ok (zBX [mD zA] M) λd M'=>∃ jf,d=.ref jf/\M.length<=jf/\(∃ fd,M'[jf]?=some (dT fd)/\fd.length<=702 /\ ∀ t d,zF fd t=some d ↔ Th zA t /\ ∃ n:Nat,Dst zA l One t n/\d=.int (n:Int))/\M.length<=M'.length /\ ∀ j,j<M.length->M'[j]?=M[j]?:=by
 unfold zBX;rw[zAK];unfold zE9;have er:zy (zD (toD (fB zBM (zM (zC 0) za))) zG) [some (mD zA),none] M=some ((List.range zA.length).map (λ(k:Nat)=>D.int k),none,M):=by
  rw[zBs (j:=(zA.length:Int)) (zGf rfl) (by omega) (by omega),zEf];rw[show (zA.length:Int).toNat=zA.length by omega]
 have ec:zi [1] (zy (zD (toD (fB zBM (zM (zC 0) za))) zG)) (gN 1) ze (zBL (zD (toD (zC 1)) zG)) [some (mD zA),none] M=some (.fl ((List.range zA.length).map λ(k:Nat)=>tI [(k:Int)]),M) :=
  zAd (List.range zA.length) (λ(k:Nat)=>D.int k) (λ(k:Nat)=>tI [(k:Int)]) er trivial (by rw[zXL];omega) λk _=>⟨_,rfl,rfl⟩
 have el:((List.range zA.length).map λ(k:Nat)=>tI [(k:Int)])=((zK zA).map λr=>[r]).map tI:=by
  unfold zK;rw[zVm,zVm];rfl
 rw[el]at ec;rw[zAG];refine zBi.mpr (zAm.mpr (zAf.mpr (zt.mpr ⟨_,rfl,?_⟩)));rw[zI];refine zAm.mpr (zAf.mpr (zE ec ?_));rw[zFd,zCW];refine Ok.mono (zHD m zLt hR hl (jg:=M.length) (ts:=(zK zA).map λr=>[r]) (by simp) ?_ zOv ?_) ?_
 .unfold zK;rw[zVm];exact List.pairwise_map.mpr (List.Pairwise.imp (λ{a b} h z=>h (by simp at z;omega)) List.nodup_range)
 .unfold zK;simp;omega
 rintro d M' ⟨jf,rfl,h1,h2,h3,h4⟩;rw[zI];rw[zVe]at h1 h3 h4;refine ⟨jf,rfl,by omega,h2,by omega,λj hj=>?_⟩;rw[h4 j (by omega),zVV hj]
set_option genInjectivity true in
inductive Climb (zA:Ya) (l:Nat) (G:Yq):List Int->List Int->Prop
 |nil {t:Ye}:G t->Climb zA l G t []
 |cons {t:Ye} {x:Int} {w:Ye} {n:Nat}:Dst zA l G t (n+1)->0<=x->x<(l:Int)->Dst zA l G (setR zA t x) n->(∀ y,0<=y->y<x -> ¬ Dst zA l G (setR zA t y) n)->Climb zA l G (setR zA t x) w->Climb zA l G t (x::w)
theorem zES:∀ {w v t:Ye},Climb zA l G t w->Climb zA l G t v->w=v
 |[],[],_,_,_=>rfl
 |[],_::_,_,.nil h,.cons d _ _ _ _ _=>by have:=zAM (zAl.mpr h) d;omega
 |_::_,[],_,.cons d _ _ _ _ _,.nil h=>by have:=zAM (zAl.mpr h) d;omega
 |x::w,y::v,t,.cons (n:=a) d1 x0 x1 e1 f1 c1,.cons (n:=b) d2 y0 y1 e2 f2 c2=>by
  have hab:a=b:=by have:=zAM d1 d2;omega
  subst hab;have hxy:x=y:=by
   rcases Int.lt_trichotomy x y with q|q|q
   .exact absurd e1 (f2 x x0 q)
   .exact q
   .exact absurd e2 (f1 y y0 q)
  subst hxy;rw[zES c1 c2]
theorem zHM:∀ {w t:Ye} {n:Nat},Climb zA l G t w->Dst zA l G t n->w.length=n
 |[],_,_,.nil h,d=>by have:=zAM (zAl.mpr h) d;simpa using this
 |x::w,_,n,.cons (n:=a) d1 _ _ e1 _ c1,d=>by
  have h1:=zHM c1 e1;have h2:=zAM d1 d;rw[zVv];omega
theorem zEh:∀ {w t:Ye},Climb zA l G t w->(∀ x∈w,0<=x/\x<(l:Int))/\G (zGY zA t w)
 |[],_,.nil h=>⟨λ_ h=>(by cases h),h⟩
 |x::w,_,.cons _ x0 x1 _ _ c1=>by
  obtain ⟨h1,h2⟩:=zEh c1;refine ⟨λy hy=>?_,h2⟩;rcases zVa.mp hy with rfl|q
  .exact ⟨x0,x1⟩
  .exact h1 y q
theorem zIi {P:Int->Prop}:∀ (k:Nat),P (k:Int) -> ∃ x:Nat,x<=k/\P (x:Int) /\ ∀ y:Int,0<=y->y<(x:Int) -> ¬ P y:=by
 intro k;induction k using Nat.strongRecOn with
 |ind k ih=>
  intro h;by_cases q:∃ j:Nat,j<k/\P (j:Int)
  .obtain ⟨j,hj,hp⟩:=q;obtain ⟨x,h1,h2,h3⟩:=ih j hj hp;exact ⟨x,by omega,h2,h3⟩
  .refine ⟨k,zVU _,h,λy y0 y1 hp=>q ⟨y.toNat,by omega,?_⟩⟩;rw[show ((y.toNat:Nat):Int)=y by omega];exact hp
theorem zCw:∀ (n:Nat) {t:Ye},Dst zA l G t n -> ∃ w,Climb zA l G t w
 |0,t,d=>⟨[],.nil (zAl.mp d)⟩
 |n+1,t,d=>by
  obtain ⟨_,x,hx,hd⟩:=zCq.mp d;obtain ⟨y,h1,h2,h3⟩:=zIi (P:=λx=>Dst zA l G (setR zA t x) n) x.toNat (by rw[show ((x.toNat:Nat):Int)=x by omega];exact hd);obtain ⟨w,hw⟩:=zCw n h2;exact ⟨(y:Int)::w,.cons d (by omega) (by omega) h2 h3 hw⟩
end Lac
namespace Lac
open PySem PySem.Spec PyProof.Rows L2 L3 ST Law
theorem zSy (ha:a σ M=some (false,M)) (hb:b σ M=some (k,M)):zIg a b σ M=some (k,M):=by unfold zIg;rw[ha];exact hb
theorem aC' {f:FE} {g:FA} {σ:Sd} {M M1 M2:Mem} {d:D} {ds:List D} (h:toD f σ M=some (d,M1)) (hg:g σ M1=some (ds,M2)):zD (toD f) g σ M=some (d::ds,M2):=by
 unfold zD;rw[h];dsimp only;rw[hg]
theorem zFF (h:f σ M=some (.dat d,M)):toD f σ M=some (d,M):=by unfold toD;rw[h]
theorem zN0 {M M1:Mem} (h:f σ M=some (.fl xs,M1)):toD f σ M=some (.ref M1.length,M1++[.lst xs]):=by unfold toD;rw[h]
theorem zTv {g:FA} {σ:Sd} {M M1:Mem} {ds:List D} (h:g σ M=some (ds,M1)) (hz:ds.length<=100000):zA5 g σ M=some (.fl ds,M1):=by
 unfold zA5;rw[h];dsimp only;rw[zVd (zm hz)]
theorem zIL {g:FA} {σ:Sd} {M M1:Mem} {ds:List D} (h:g σ M=some (ds,M1)) (hz:ds.length<=100000):zBL g σ M=some (.dat (.tup ds),M1):=by
 unfold zBL;rw[h];dsimp only;rw[zVd (zm hz)]
theorem zLx (hf:f σ M=some (.dat (.int i),M)) (hg:g σ M=some (.dat (.int j),M)):fB zFJ (zM f (zM g za)) σ M=some (.dat (.int (if j<i then j else i)),M):=by
 unfold fB zM za;rw[hf];dsimp only;rw[hg];rfl
theorem zRL {f:FE} {σ:Sd} {M M1:Mem} {xs:List D} (h:f σ M=some (.fl xs,M1)):zv f σ M=some (xs,none,M1):=by
 unfold zv;rw[h];rfl
theorem zFA (h1:M[n]?=some (.lst xs)) (h2:M[m]?=some (.lst ys)) (hz:xs.length+ys.length<=90000):zBf (.dat (.ref n)) [.ref m] M=some (.non,M.set n (.lst (xs++ys))):=by
 unfold zBf;dsimp only;rw[h1,h2];dsimp only;rw[zVd (zm (by omega))]
theorem zQY (hf:f σ M=some (.dat (.int i),M)) (hg:g σ M=some (.dat (.int j),M)):fB zJh (zM f (zM g za)) σ M=some (.dat (.int (if j>i then j else i)),M):=by
 unfold fB zM za;rw[hf];dsimp only;rw[hg];rfl
theorem zQg {m:FF} {a:FA} {σ:Sd} {M M1 M':Mem} {ds:List D} {d:D} (h:a σ M=some (ds,M1)) (hm:m ds M1=some (d,M')):zP m a σ M=some (.dat d,M'):=by
 unfold zP;rw[h];dsimp only;rw[hm]
theorem zEO {α:Type} [DecidableEq α]:∀ (a b:List α),a.Nodup->(∀ x∈a,x∈b)->a.length<=b.length
 |[],_,_,_=>zWA _
 |x::r,b,h,s=>by
  rw[zWi]at h;have hx:=s x zVc;have:=zEO r (b.erase x) h.2 λy hy=>(List.mem_erase_of_ne (λe=>h.1 (by rw[<-e];exact hy))).mpr (s y (zVb _ hy));rw[List.length_erase_of_mem hx]at this;have:0<b.length:=zYa hx;simp only[zVv];omega
end Lac
namespace Lac
open PySem PySem.Spec PyProof.Rows L2 L3 ST Law
def zB9:FS:=(zV (zh 3 (zi [4] (zy (zD (toD (fB zBM (zM (fOp kIx (zC 0) (fC (.int 0))) za))) zG)) (gN 4) ze (zP zAy (zD (toD (zC 0)) (zD (toD (zC 1)) (zD (toD (zC 4)) zG))))))
  (zAY (fB (zBP false) (zM (zi [4,5] (zKB (zC 3)) (zD2 4 5) (zBO (tst (fOp (zBF false) (zC 5) (zC 2))) (tst (fOp kEq (fOp zAc (zC 2) (zC 5)) (fOp zLN (fOp zAc (zC 2) (zC 1)) (fC (.int 1)))))) (zC 4)) za))))
def zAD:FF:=zBH 6 zB9
def zEE:FS:=(zV (zh 2 (zi [3] (zv (zP zAX (zD (toD (zP zAV (zD (toD (zC 0)) zG))) zG))) (gN 3) (tst (fOp kGt (zAu (zC 1) (zC 3) (fC (.int 0))) (fC (.int 0)))) (zC 3)))
  (zAY (zCf true [3] (zv (zC 2)) (gN 3) ze (zC 3) (zBL (zD (toD (fOp zAc (zC 1) (zC 3))) (zD (toD (zP zAD (zD (toD (zC 0)) (zD (toD (zC 3)) (zD (toD (zC 1)) zG))))) zG))))))
def zBZ:FF:=zBH 4 zEE
def zIX:FS:=(zAY (zP zBZ (zD (toD (zC 0)) (zD (toD (zP zBX (zD (toD (zC 0)) zG))) zG))))
def zDz:FF:=zBH 1 zIX
def zEz:FS:=(zV (zh 3 (zA5 zG))
  (zV (zh 4 (zC 2))
  (zV (zAv (tst (fOp (zBF false) (zC 4) (zC 1))) (zV (zh 5 (fOp kIx (fOp zAc (zC 1) (zC 4)) (fC (.int 1))))
  (zV (zBQ (fM zAq (zC 3) (zD (toD (zC 5)) zG)))
  (zh 4 (zP zAy (zD (toD (zC 0)) (zD (toD (zC 4)) (zD (toD (zC 5)) zG))))))) 1000)
  (zAY (fB zAg (zM (zC 3) za))))))
def zCk:FF:=zBH 6 zEz
def zED:FS:=(zV (zh 3 (zBL (zD (toD (fB zFJ (zM (zC 1) (zM (zC 2) za)))) (zD (toD (fB zJh (zM (zC 1) (zM (zC 2) za)))) zG))))
  (zV (zh 4 (zP zDz (zD (toD (zC 0)) zG)))
  (zAY (vIf (tst (fOp (zBF false) (zC 3) (zC 4))) (zP zCk (zD (toD (zC 0)) (zD (toD (zC 4)) (zD (toD (zC 3)) zG)))) (fC .non)))))
def zBa:FF:=zDX (zBH 5 zED)
theorem zHu {α:Type} (hgd:zAo gd all M) (enc out:α->D) (keep:α->Bool):∀ (as:List α),(∀ a∈as,∃ σ1,g (enc a) σ=some σ1/\tc σ1 M=some (keep a,M)/\(keep a=true->te σ1 M=some (.dat (out a),M)))->zAk g tc te σ all gd (as.map enc) M=some ((as.filter keep).map out,M)
 |[],_=>by
  rw[List.map_nil];unfold zAk;rw[zVd hgd];rfl
 |a::r,h=>by
  obtain ⟨σ1,e1,e2,e3⟩:=h a zVc;have ih:=zHu (σ:=σ) hgd enc out keep r λb hb=>h b (zVb _ hb);rw[zVh];unfold zAk;rw[zVd hgd,e1];dsimp only;rw[e2];cases hk:keep a with
  |false=>
   dsimp only;rw[ih,List.filter_cons_of_neg (by simp[hk])]
  |true=>
   dsimp only;rw[show toD te σ1 M=some (out a,M) by unfold toD;rw[e3 hk]];dsimp only;rw[ih,List.filter_cons_of_pos hk];rfl
theorem zCc {α:Type} {own:Yj} {fi:FI} {g:FG} {tc:FT} {te:FE} {σ:Sd} {M M1:Mem} {gd:Option (Mem->Prop)} (as:List α) (enc out:α->D) (keep:α->Bool) (hi:fi σ M=some (as.map enc,gd,M1)) (hgd:zAo gd (as.map enc) M1) (hz:as.length<=100000)
  (he:∀ a∈as,∃ σ1,g (enc a) (zA2 own σ)=some σ1/\tc σ1 M1=some (keep a,M1)/\(keep a=true->te σ1 M1=some (.dat (out a),M1))):zi own fi g tc te σ M=some (.fl ((as.filter keep).map out),M1) :=
 zY (zDs.mpr ⟨_,_,_,hi,by rw[zVX];exact zm hz,zE (zHu hgd enc out keep as he) ⟨rfl,rfl⟩⟩)
theorem zQ0 {f:FE} {σ:Sd} {M M1:Mem} {xs:Ye} (hf:f σ M=some (.fl (xs.map D.int),M1)) (hx:xs≠[]):∃ b,fB (zBP false) (zM f za) σ M=some (.dat (.int b),M1)/\b∈xs /\ ∀ y∈xs,b<=y:=by
 cases xs with
 |nil=>exact absurd rfl hx
 |cons x r=>
  obtain ⟨h1,h2⟩:=zCJ false r x;refine ⟨zBR false x r,?_,h1,λy hy=>by simpa using h2 y hy⟩;unfold fB zM za;rw[hf];unfold zBP;dsimp only;rw[zCH]
def zOQ (zA:Ya) (l:Nat) (G:Yq) (fd:List (List Int × D)):Prop:=∀ t d,zF fd t=some d ↔ Th zA t /\ ∃ n:Nat,Dst zA l G t n/\d=.int (n:Int)
structure Fst (zA:Ya) (l:Nat) (G:Yq) (p:Ye) (n:Nat) (x:Int):Prop where
 x0:0<=x
 x1:x<(l:Int)
 d:Dst zA l G (setR zA p x) n
 f:∀ y,0<=y->y<x -> ¬ Dst zA l G (setR zA p y) n
def isN (n:Nat):Option D->Bool
 |some (.int v)=>decide (v=(n:Int))
 |_=>false
theorem zI4 (sp:zOQ zA l G fd) (u:Th zA t):isN n (zF fd t)=true ↔ Dst zA l G t n:=by
 constructor
 .intro h;cases e:zF fd t with
  |none=>rw[e]at h;cases h
  |some d=>
   obtain ⟨_,k,hk,rfl⟩:=(sp t d).mp e;rw[e]at h;have:(k:Int)=(n:Int):=zWK h;rw[show n=k by omega];exact hk
 .intro h;rw[(sp t _).mpr ⟨u,n,h,rfl⟩];exact zWW rfl
theorem eqE:kEq (.dat (.int a)) (.dat (.int b)) M=some (.dat (.bl (decide (a=b))),M):=zY (zJP.mpr ⟨rfl,rfl⟩)
theorem zUt:zLN (.dat (.int a)) (.dat (.int b)) M=some (.dat (.int (a-b)),M):=rfl
theorem gtE:kGt (.dat (.int a)) (.dat (.int b)) M=some (.dat (.bl (decide (b<a))),M):=rfl
theorem zMK (ha:a σ M=some (true,M)) (hb:b σ M=some (k,M)):zBO a b σ M=some (k,M):=by unfold zBO;rw[ha];exact hb
theorem zLv (ha:a σ M=some (false,M)):zBO a b σ M=some (false,M):=by unfold zBO;rw[ha]
theorem zNu {zA:Ya} {l:Nat} {G:Yq} (m:IsM zA l) (hR:zA.length<=26) (hl:l<=12) {M:Mem} {jf:Nat} {fd:List (List Int × D)} (hf:M[jf]?=some (dT fd)) (sp:zOQ zA l G fd) {p:Ye} (u:Th zA p) {n:Nat} (hd:Dst zA l G p (n+1)) :
  Ok (zAD [mD zA,tI p,.ref jf] M) λd M'=>∃ x:Int,d=.int x/\Fst zA l G p n x /\ ∃ us,M'=M++us:=by
 unfold zAD;rw[zAK];unfold zB9;have hfl:=(zVR.mp hf).1;have er:=zEn (σ:=[some (mD zA),some (tI p),some (.ref jf),none,none,none]) (M:=M) (zL4 m (f:=zC 0) rfl) (by omega) (by omega);rw[show (l:Int).toNat=l by omega]at er;have ec:=zAd (own:=[4]) (g:=gN 4) (te:=zP zAy (zD (toD (zC 0)) (zD (toD (zC 1)) (zD (toD (zC 4)) zG)))) (List.range l) (λ(k:Nat)=>D.int k) (λ(k:Nat)=>tI (setR zA p (k:Int))) er trivial (by rw[zXL];omega) λk hk=>⟨_,rfl,zAJ (zAO (d:=mD zA) rfl (zAO (d:=tI p) rfl (zo (d:=.int (k:Int)) rfl))) (zIV m (by omega) u.1 (by omega) (by have:=zV2.mp hk;omega))⟩;rw[zJ,zW];refine zE ec (zr ?_);rw[zQ];generalize hA:M++[MO.lst ((List.range l).map λ(k:Nat)=>tI (setR zA p (k:Int)))]=A;have a1:A[M.length]?=some (.lst ((List.range l).map λ(k:Nat)=>tI (setR zA p (k:Int)))):=by rw[<-hA];simp
 have a2:A[jf]?=some (dT fd):=by rw[<-hA,zVV hfl];exact hf
 have hen:zKB (zC 3) [some (mD zA),some (tI p),some (.ref jf),some (.ref M.length),none,none] A=some ((List.range l).map (λ(k:Nat)=>D.tup [.int (k:Nat),tI (setR zA p (k:Int))]),zDn (.dat (.ref M.length)) ((List.range l).map λ(k:Nat)=>tI (setR zA p (k:Int))),A):=by
  unfold zKB;rw[show zC 3 [some (mD zA),some (tI p),some (.ref jf),some (.ref M.length),none,none] A=some (.dat (.ref M.length),A)from rfl];dsimp only;rw[zAA a1];dsimp only;congr 2;unfold zJc;rw[zVX,zXL];apply List.ext_getElem?;intro i;by_cases hi:i<l
  .rw[zVl,zVl,List.zip_eq_zipWith,List.getElem?_zipWith,zVl,List.getElem?_range hi];rfl
  .rw[List.getElem?_eq_none (by simp;omega),List.getElem?_eq_none (by simp;omega)]
 have lp:zF fd p=some (.int ((n+1:Nat):Int)):=(sp p _).mpr ⟨u,n+1,hd,rfl⟩;have ef:=zCc (own:=[4,5]) (g:=zD2 4 5) (tc:=zBO (tst (fOp (zBF false) (zC 5) (zC 2))) (tst (fOp kEq (fOp zAc (zC 2) (zC 5)) (fOp zLN (fOp zAc (zC 2) (zC 1)) (fC (.int 1)))))) (te:=zC 4) (List.range l) _ (λ(k:Nat)=>D.int (k:Int)) (λ(k:Nat)=>isN n (zF fd (setR zA p (k:Int)))) hen (.inl a1) (by rw[zXL];omega) (λk hk=>by
  have u':=zC8 m p (k:Int) u ⟨by omega,by have:=zV2.mp hk;omega⟩;refine ⟨[some (mD zA),some (tI p),some (.ref jf),some (.ref M.length),some (.int (k:Int)),some (tI (setR zA p (k:Int)))],rfl,?_,λ_=>rfl⟩;have e1:fOp (zBF false) (zC 5) (zC 2) [some (mD zA),some (tI p),some (.ref jf),some (.ref M.length),some (.int (k:Int)),some (tI (setR zA p (k:Int)))] A=_:=zN (x:=.dat (tI (setR zA p (k:Int)))) (y:=.dat (.ref jf)) rfl rfl (zK9 a2);rw[zVg (by decide)]at e1;cases e:zF fd (setR zA p (k:Int)) with
  |none=>
   rw[e]at e1;exact zLv (zAj e1)
  |some d=>
   obtain ⟨_,v,_,rfl⟩:=(sp _ d).mp e;rw[e]at e1;refine zMK (zAj e1) (zAj ?_);refine zN (x:=.dat (.int (v:Int))) (y:=.dat (.int (((n+1:Nat):Int)-1))) (zN (x:=.dat (.ref jf)) (y:=.dat (tI (setR zA p (k:Int)))) rfl rfl (zHI a2 e)) (zN (x:=.dat (.int ((n+1:Nat):Int))) (y:=.dat (.int 1)) (zN (x:=.dat (.ref jf)) (y:=.dat (tI p)) rfl rfl (zHI a2 lp)) rfl zUt) ?_;rw[eqE];unfold isN;congr 5;exact propext ⟨λh=>by omega,λh=>by omega⟩)
 rw[show ((List.range l).filter λ(k:Nat)=>isN n (zF fd (setR zA p (k:Int)))).map (λ(k:Nat)=>D.int (k:Int))=(((List.range l).filter λ(k:Nat)=>isN n (zF fd (setR zA p (k:Int)))).map λ(k:Nat)=>(k:Int)).map D.int by rw[zVm];rfl]at ef;obtain ⟨b,eb,hb1,hb2⟩:=zQ0 ef (by
  obtain ⟨_,x,hx,hr⟩:=zCq.mp hd;have:((x.toNat:Nat):Int)∈((List.range l).filter λ(k:Nat)=>isN n (zF fd (setR zA p (k:Int)))).map λ(k:Nat)=>(k:Int):=zVf.mpr ⟨x.toNat,zWZ.mpr ⟨zV2.mpr (by omega),by rw[show ((x.toNat:Nat):Int)=x by omega];exact (zI4 sp (zC8 m p x u hx)).mpr hr⟩,rfl⟩;exact List.ne_nil_of_mem this)
 obtain ⟨k,hk,rfl⟩:=zVf.mp hb1;obtain ⟨k1,k2⟩:=zWZ.mp hk;have k3:=zV2.mp k1;refine zBI eb ⟨(k:Int),rfl,⟨by omega,by omega,(zI4 sp (zC8 m p _ u ⟨by omega,by omega⟩)).mp k2,λy y0 y1 hy=>?_⟩,_,hA.symm⟩;have:=hb2 y (zVf.mpr ⟨y.toNat,zWZ.mpr ⟨zV2.mpr (by omega),by rw[show ((y.toNat:Nat):Int)=y by omega];exact (zI4 sp (zC8 m p y u ⟨y0,by omega⟩)).mpr hy⟩,by omega⟩);omega
theorem zKs (a:Fst zA l G p n x) (b:Fst zA l G p n y):x=y:=by
 rcases Int.lt_trichotomy x y with q|q|q
 .exact absurd a.d (b.f x a.x0 q)
 .exact q
 .exact absurd b.d (a.f y b.x0 q)
open Classical in
def zBp (zA:Ya) (l:Nat) (G:Yq) (t:Ye):Nat:=if h:∃ n,Dst zA l G t n then Classical.choose h else 0
open Classical in
def zJM (zA:Ya) (l:Nat) (G:Yq) (t:Ye):Int:=if h:∃ x,Fst zA l G t (zBp zA l G t-1) x then Classical.choose h else 0
theorem zCY (h:Dst zA l G t n):zBp zA l G t=n:=by
 unfold zBp;have hx:∃ n,Dst zA l G t n:=⟨n,h⟩;rw[dif_pos hx];exact zAM (Classical.choose_spec hx) h
theorem zJv (h:0<zBp zA l G t):Dst zA l G t (zBp zA l G t):=by
 by_cases hx:∃ n,Dst zA l G t n
 .obtain ⟨n,hn⟩:=hx;rw[zCY hn];exact hn
 .unfold zBp at h;rw[dif_neg hx]at h;omega
theorem zL6 (hd:Dst zA l G t (n+1)) (h:Fst zA l G t n x):zJM zA l G t=x:=by
 unfold zJM;rw[zCY hd];have hx:∃ x,Fst zA l G t (n+1-1) x:=⟨x,h⟩;rw[dif_pos hx];exact zKs (Classical.choose_spec hx) h
def zLs (zA:Ya) (l:Nat) (G:Yq) (t:Ye):Bool:=decide (0<zBp zA l G t)
def zGQ (zA:Ya) (l:Nat) (G:Yq) (t:Ye):D:=.tup [.int (zBp zA l G t:Nat),.int (zJM zA l G t)]
def zb (zA:Ya) (l:Nat) (G:Yq):List (List Int):=(zc (zK zA)).filter (zLs zA l G)
def zBm (zA:Ya) (l:Nat) (G:Yq):List (List Int × D):=(zb zA l G).map λp=>(p,zGQ zA l G p)
theorem zJW {f:List Int->D} {t:Ye}:∀ {ps:Ya},zF (ps.map λp=>(p,f p)) t=if t∈ps then some (f t) else none
 |[]=>rfl
 |p::r=>by
  rw[zVh,zF];by_cases h:p=t
  .subst h;rw[zVd rfl,zVd zVc]
  .rw[zVg h,zJW (ps:=r)];by_cases hr:t∈r
   .rw[zVd hr,zVd (zVb _ hr)]
   .rw[zVg hr,zVg (by simp[hr,Ne.symm h])]
theorem zQM (h:g∉T.map (·.1)):zB3 T g v=T++[(g,v)]:=by
 unfold zB3;cases e:zF T g with
 |none=>rfl
 |some d=>exact absurd (zDi.mp (show (zF T g).isSome=true by rw[e];rfl)) h
theorem zIF (h:xs.Nodup):(zc xs).Nodup:=by
 have gen:∀ r:List Int,r.Nodup->(r.flatMap λa=>(xs.filter λb=>decide (a<b)).map λb=>[a,b]).Nodup:=by
  intro r;induction r with
  |nil=>intro _;simp
  |cons a r ih=>
   intro hr;obtain ⟨h1,h2⟩:=zWi.mp hr;rw[List.flatMap_cons,zWc];refine ⟨?_,ih h2,λu hu v hv=>?_⟩
   .refine List.pairwise_map.mpr (List.Pairwise.imp (λ{x y} q z=>q (by simpa using z)) (List.Pairwise.filter _ h))
   .obtain ⟨b,_,rfl⟩:=zVf.mp hu;obtain ⟨c,hc,hv⟩:=List.mem_flatMap.mp hv;obtain ⟨d,_,rfl⟩:=zVf.mp hv;intro z;have:a=c:=by simpa using (zWS z).1
    exact h1 (by rw[this];exact hc)
 exact gen xs h
theorem zJg (zA:Ya):(zK zA).Nodup:=by
 unfold zK;exact List.pairwise_map.mpr (List.Pairwise.imp (λ{a b} h z=>h (by omega)) List.nodup_range)
theorem zAz:t∈zb zA l G ↔ t∈zc (zK zA) /\ ∃ n,Dst zA l G t (n+1):=by
 unfold zb zLs;rw[zWZ];constructor
 .rintro ⟨a,b⟩;have:=zJv (zWK b);exact ⟨a,zBp zA l G t-1,by rw[show zBp zA l G t-1+1=zBp zA l G t by have:=zWK b;omega];exact this⟩
 .rintro ⟨a,n,h⟩;exact ⟨a,zWW (by rw[zCY h];omega)⟩
theorem zSH (hf:f σ M=some (.dat (.ref n),M)) (hn:M[n]?=some (dT T)) (hg:g σ M=some (.dat (tI k),M)):zAu f g (fC c) σ M=some (.dat ((zF T k).getD c),M):=by
 unfold zAu;rw[show toD f σ M=some (.ref n,M) by unfold toD;rw[hf]];dsimp only;rw[hn];rw[show toD g σ M=some (tI k,M) by unfold toD;rw[hg]];dsimp only;rw[show toD (fC c) σ M=some (c,M)from rfl];dsimp only;rw[dgT hn]
theorem zNM {own:Yj} {i:Nat} {tv:FE} {σ:Sd} {M:Mem} {jl jk:Nat} {K:MO} {ts:Ya} {val:List Int->D} (hj:M[jl]?=some (.lst (ts.map tI))) (hk:M[jk]?=some K) (nd:ts.Nodup) (hz:ts.length<=80000)
  (hg:∀ a,gN i a (zA2 own σ)=some ((zA2 own σ).set i (some a))) (hs:∀ (a:D) M',zC i ((zA2 own σ).set i (some a)) M'=some (.dat a,M'))
  (hv:∀ t∈ts,∀ M':Mem,M'[jk]?=some K -> ∃ us,tv ((zA2 own σ).set i (some (tI t))) M'=some (.dat (val t),M'++us)) {n:Nat} (hn:n=M.length) :
  ∃ us,zCN (gN i) ze (zC i) tv (zA2 own σ) n (ts.map tI) (zDn (.dat (.ref jl)) (ts.map tI)) (ts.map tI) (M++[dT []])=some (M++dT (ts.map λt=>(t,val t))::us):=by
 subst hn;have hjl:=(zVR.mp hj).1;have hkl:=(zVR.mp hk).1;have loop:∀ (r q:Ya) (ws:Mem),q++r=ts -> ∃ us,zCN (gN i) ze (zC i) tv (zA2 own σ) M.length (ts.map tI) (zDn (.dat (.ref jl)) (ts.map tI)) (r.map tI) (M++dT (q.map λt=>(t,val t))::ws)=some (M++dT (ts.map λt=>(t,val t))::us):=by
  intro r;induction r with
  |nil=>
   intro q ws e;rw[zV8]at e;subst e;exact ⟨ws,zHQ (.inl (by rw[zVV hjl];exact hj))⟩
  |cons x r ih=>
   intro q ws e;have hx:x∉q:=λz=>by
    rw[<-e,zWc]at nd;exact nd.2.2 x z x zVc rfl
   have hl:q.length<90000:=by have:=congrArg List.length e;simp at this;omega
   obtain ⟨us,hu⟩:=hv x (by rw[<-e];simp) (M++dT (q.map λt=>(t,val t))::ws) (by rw[zVV hkl];exact hk);obtain ⟨vs,hvs⟩:=ih (q++[x]) (ws++us) (by rw[<-e];simp);refine ⟨vs,?_⟩;rw[<-hvs,zVh];have hgd:zAo (zDn (.dat (.ref jl)) (ts.map tI)) (ts.map tI) (M++dT (q.map λt=>(t,val t))::ws):=.inl (by rw[zVV hjl];exact hj);rw[zCN,zVd hgd,hg];dsimp only;rw[show ze ((zA2 own σ).set i (some (tI x))) (M++dT (q.map λt=>(t,val t))::ws)=some (true,M++dT (q.map λt=>(t,val t))::ws)from rfl];dsimp only;rw[show toD (zC i) ((zA2 own σ).set i (some (tI x))) (M++dT (q.map λt=>(t,val t))::ws)=some (tI x,M++dT (q.map λt=>(t,val t))::ws) by unfold toD;rw[hs]];dsimp only;rw[show toD tv ((zA2 own σ).set i (some (tI x))) (M++dT (q.map λt=>(t,val t))::ws)=some (val x,M++dT (q.map λt=>(t,val t))::ws++us) by unfold toD;rw[hu]];dsimp only;rw[zH1 (T:=q.map λt=>(t,val t)) (by simp) (by rw[zVX];exact hl),zQM (by rw[zVm];simpa using hx)];congr 1;rw[zWU,List.set_append_right _ _ (zVU _)];simp
 exact loop ts [] [] rfl
theorem zJK {zA:Ya} {l:Nat} {G:Yq} (m:IsM zA l) (hR:zA.length<=26) (hl:l<=12) {M:Mem} {jf:Nat} {fd:List (List Int × D)} (hf:M[jf]?=some (dT fd)) (sp:zOQ zA l G fd) :
  Ok (zBZ [mD zA,.ref jf] M) λd M'=>∃ jr us,d=.ref jr/\M'=M++us/\M.length<=jr/\M'[jr]?=some (dT (zBm zA l G)):=by
 unfold zBZ;rw[zAK];unfold zEE;have hfl:=(zVR.mp hf).1;have hrl:(zK zA).length=zA.length:=by unfold zK;simp
 have epr:=zFy (xs:=zK zA) (by omega) (M:=M);have ei:zv (zP zAX (zD (toD (zP zAV (zD (toD (zC 0)) zG))) zG)) [some (mD zA),some (.ref jf),none,none] M=_:=zI1 (zo (d:=tI (zK zA)) (zAJ (zo (d:=mD zA) rfl) (zFz (by omega)))) epr (zw _ _);have hPl:(zc (zK zA)).length<=676:=by
  have h1:=zCF (zK zA);rw[hrl]at h1;exact zVp h1 (zW0 hR hR)
 generalize hA:M++[MO.lst ((zc (zK zA)).map tI)]=A at ei;have a1:A[M.length]?=some (.lst ((zc (zK zA)).map tI)):=by rw[<-hA];simp
 have a2:A[jf]?=some (dT fd):=by rw[<-hA,zVV hfl];exact hf
 have ef:=zCc (own:=[3]) (g:=gN 3) (tc:=tst (fOp kGt (zAu (zC 1) (zC 3) (fC (.int 0))) (fC (.int 0)))) (te:=zC 3) (zc (zK zA)) tI tI (zLs zA l G) ei (.inl a1) (by omega) (λp hp=>by
  refine ⟨[some (mD zA),some (.ref jf),none,some (tI p)],rfl,zAj ?_,λ_=>rfl⟩;have e1:zAu (zC 1) (zC 3) (fC (.int 0)) [some (mD zA),some (.ref jf),none,some (tI p)] A=_:=zSH (k:=p) rfl a2 rfl;unfold zLs;cases e:zF fd p with
  |none=>
   rw[e]at e1;rw[zN (x:=.dat (.int 0)) (y:=.dat (.int 0)) e1 rfl gtE];have:¬ 0<zBp zA l G p:=λh=>by
    rw[(sp p _).mpr ⟨zDv p hp,_,zJv h,rfl⟩]at e;cases e
   rw[zVx this];rfl
  |some d=>
   obtain ⟨_,v,hv,rfl⟩:=(sp _ d).mp e;rw[e]at e1;rw[zN (x:=.dat (.int (v:Int))) (y:=.dat (.int 0)) e1 rfl gtE,zCY hv];congr 5;exact propext ⟨λh=>by omega,λh=>by omega⟩)
 rw[zJ,zW];refine zE ef (zr ?_);rw[zQ];show OkS (zAY _ [some (mD zA),some (.ref jf),some (.ref A.length),none] (A++[.lst ((zb zA l G).map tI)])) _;have nd:(zb zA l G).Nodup:=List.Pairwise.filter _ (zIF (zJg zA));have hrl2:(zb zA l G).length<=676:=zVp (zXi _ _) hPl;generalize hB:A++[MO.lst ((zb zA l G).map tI)]=B;have b1:B[A.length]?=some (.lst ((zb zA l G).map tI)):=by rw[<-hB];simp
 have b2:B[jf]?=some (dT fd):=by rw[<-hB,zVV (zVR.mp a2).1];exact a2
 obtain ⟨us,hu⟩:=zNM (own:=[3]) (i:=3) (σ:=[some (mD zA),some (.ref jf),some (.ref A.length),none]) (tv:=zBL (zD (toD (fOp zAc (zC 1) (zC 3))) (zD (toD (zP zAD (zD (toD (zC 0)) (zD (toD (zC 3)) (zD (toD (zC 1)) zG))))) zG))) (val:=zGQ zA l G) b1 b2 nd (by omega) (λ_=>rfl) (λ_ _=>rfl) (λt ht M' hM=>by
  obtain ⟨ht1,n,hn⟩:=zAz.mp ht;obtain ⟨d,M2,e,x,rfl,fx,us,rfl⟩:=zNu m hR hl hM sp (zDv t ht1) hn;refine ⟨us,?_⟩;show zBL _ [some (mD zA),some (.ref jf),some (.ref A.length),some (tI t)] M'=_;have e1:fOp zAc (zC 1) (zC 3) [some (mD zA),some (.ref jf),some (.ref A.length),some (tI t)] M'=some (.dat (.int ((n+1:Nat):Int)),M'):=zN (x:=.dat (.ref jf)) (y:=.dat (tI t)) rfl rfl (zHI hM ((sp t _).mpr ⟨zDv t ht1,n+1,hn,rfl⟩));have e2:zP zAD (zD (toD (zC 0)) (zD (toD (zC 3)) (zD (toD (zC 1)) zG))) [some (mD zA),some (.ref jf),some (.ref A.length),some (tI t)] M'=some (.dat (.int x),M'++us):=zAJ (zAO (d:=mD zA) rfl (zAO (d:=tI t) rfl (zo (d:=.ref jf) rfl))) e;rw[zIL (aC' (zFF e1) (zP7 e2)) (by simp)];unfold zGQ;rw[zCY hn,zL6 hn fx]) rfl
 have ed:zCf true [3] (zv (zC 2)) (gN 3) ze (zC 3) (zBL (zD (toD (fOp zAc (zC 1) (zC 3))) (zD (toD (zP zAD (zD (toD (zC 0)) (zD (toD (zC 3)) (zD (toD (zC 1)) zG))))) zG))) [some (mD zA),some (.ref jf),some (.ref A.length),none] B=some (.dat (.ref B.length),B++dT (zBm zA l G)::us):=by
  unfold zCf zv;rw[show zC 2 [some (mD zA),some (.ref jf),some (.ref A.length),none] B=some (.dat (.ref A.length),B)from rfl];dsimp only;rw[zAA b1];dsimp only;rw[show zEA true=dT []from rfl,hu];rfl
 rw[zAG];refine zE ed ⟨B.length,[MO.lst ((zc (zK zA)).map tI)]++([MO.lst ((zb zA l G).map tI)]++dT (zBm zA l G)::us),rfl,by rw[<-hB,<-hA];simp only[zWU],?_,by simp⟩;rw[<-hB,<-hA];simp only[zVe];omega
theorem zJJ (m:IsM zA l) (hR:zA.length<=26) (hl:l<=12) :
  Ok (zDz [mD zA] M) λd M'=>∃ jr,d=.ref jr/\M.length<=jr/\M'[jr]?=some (dT (zBm zA l One))/\M.length<=M'.length /\ ∀ j,j<M.length->M'[j]?=M[j]?:=by
 unfold zDz;rw[zAK];unfold zIX;obtain ⟨d,M1,e,jf,rfl,h1,⟨fd,h2,_,sp⟩,h3,h4⟩:=zGA m hR hl (M:=M);obtain ⟨d2,M2,e2,jr,us,rfl,rfl,q1,q2⟩:=zJK m hR hl h2 sp;rw[zAG];have ec:zP zBZ (zD (toD (zC 0)) (zD (toD (zP zBX (zD (toD (zC 0)) zG))) zG)) [some (mD zA)] M=some (.dat (.ref jr),M1++us):=by
  exact zQg (aC' (zFF (d:=mD zA) rfl) (zP7 (zAJ (zo (d:=mD zA) rfl) e))) e2
 refine zE ec ⟨jr,rfl,by omega,q2,by rw[zVe];omega,λj hj=>?_⟩;rw[zVV (by omega)];exact h4 j hj
theorem zHN (m:IsM zA l) (o:zDW zA G):∀ (n:Nat) (t:Ye),Th zA t->Dst zA l G t n -> ∃ ts:List (List Int),ts.length=n/\ts.Nodup /\ ∀ s∈ts,s∈zc (zK zA) /\ ∃ k,k<=n/\Dst zA l G s k
 |0,_,_,_=>⟨[],rfl,List.nodup_nil,λ_ h=>by cases h⟩
 |n+1,t,u,d=>by
  obtain ⟨q,x,hx,hd⟩:=zCq.mp d;obtain ⟨ts,h1,h2,h3⟩:=zHN m o n (setR zA t x) (zC8 m t x u hx) hd;refine ⟨t::ts,by simp[h1],zWi.mpr ⟨λz=>?_,h2⟩,λs hs=>?_⟩
  .obtain ⟨_,k,hk,hk2⟩:=h3 t z;have:=zAM hk2 d;omega
  .rcases zVa.mp hs with rfl|z
   .exact ⟨zFB m o s (n+1) u (λg=>by have:=zAM (zAl.mpr g) d;omega) d.1,n+1,zVU _,d⟩
   .obtain ⟨a,k,hk,b⟩:=h3 s z;exact ⟨a,k,by omega,b⟩
theorem zSX (m:IsM zA l) (o:zDW zA G) (u:Th zA t) (d:Dst zA l G t n):n<=(zc (zK zA)).length:=by
 obtain ⟨ts,h1,h2,h3⟩:=zHN m o n t u d;rw[<-h1];exact zE5 ts _ h2 λs hs=>(h3 s hs).1
theorem zB7 (hR:zA.length<=26):(zc (zK zA)).length<=676:=by
 have h1:=zCF (zK zA);have hrl:(zK zA).length=zA.length:=by unfold zK;simp
 rw[hrl]at h1;exact zVp h1 (zW0 hR hR)
theorem zHU (c:Climb zA l G t w):Dst zA l G t w.length:=by
 cases c with
 |nil g=>exact zAl.mpr g
 |cons d x0 x1 e f c=>rw[zVv,zHM c e];exact d
theorem zDr:zF (zBm zA l G) t=if t∈zb zA l G then some (zGQ zA l G t) else none:=zJW
theorem zKm (m:IsM zA l) (o:zDW zA G) (hR:zA.length<=26) (hr:M[jr]?=some (dT (zBm zA l G))) (u:Th zA p) (c:Climb zA l G p w) :
  Ok (zCk [mD zA,.ref jr,tI p] M) λd M'=>d=tI w /\ ∃ us,M'=M++us:=by
 have hrl:=(zVR.mp hr).1;have hw:w.length<=676:=zVp (zSX m o u (zHU c)) (zB7 hR);unfold zCk;rw[zAK];unfold zEz;rw[zJ,zW];refine zE (M:=M) (a:=.fl []) (zTv rfl (by simp)) (zr ?_);rw[zQ];refine zBv (d:=tI p) rfl ?_;rw[zJ];refine zB8 (I:=λz σ M'=>∃ (w1 w2 here:Ye) (y:Option D),w=w1++w2/\Climb zA l G here w2/\Th zA here/\z=w2.length/\σ=[some (mD zA),some (.ref jr),some (tI p),some (.ref M.length),some (tI here),y]/\M'=M++[.lst (w1.map D.int)]) ?_ 1000 w.length _ _ (by omega) ⟨[],w,p,none,rfl,c,u,rfl,rfl,rfl⟩;rintro z σ M' ⟨w1,w2,here,y,hw12,c2,u2,rfl,rfl,rfl⟩;have hM:(M++[MO.lst (w1.map D.int)])[jr]?=some (dT (zBm zA l G)):=by rw[zVV hrl];exact hr
 have hL:(M++[MO.lst (w1.map D.int)])[M.length]?=some (.lst (w1.map D.int)):=by simp
 have et:tst (fOp (zBF false) (zC 4) (zC 1)) [some (mD zA),some (.ref jr),some (tI p),some (.ref M.length),some (tI here),y] (M++[MO.lst (w1.map D.int)])=some ((zF (zBm zA l G) here).isSome,M++[MO.lst (w1.map D.int)]):=by
  have:=zN (k:=zBF false) (f:=zC 4) (g:=zC 1) (σ:=[some (mD zA),some (.ref jr),some (tI p),some (.ref M.length),some (tI here),y]) (x:=.dat (tI here)) (y:=.dat (.ref jr)) rfl rfl (zK9 hM);rw[zVg (by decide)]at this;exact zAj this
 refine zE et ?_;cases c2 with
 |nil g=>
  have hlk:zF (zBm zA l G) here=none:=by rw[zDr,zVg (λh=>by obtain ⟨_,n,hn⟩:=zAz.mp h;have:=zAM (zAl.mpr g) hn;omega)]
  rw[hlk];rw[zV8]at hw12;subst hw12;exact zBI (d:=tI w) (zCr (f:=zC 3) rfl (zAA hL)) ⟨rfl,_,rfl⟩
 | @cons _ x w3 n d x0 x1 e f c3=>
  have hp:=zFB m o here (n+1) u2 (λg=>by have:=zAM (zAl.mpr g) d;omega) d.1;have hin:here∈zb zA l G:=zAz.mpr ⟨hp,n,d⟩;have fx:Fst zA l G here n x:=⟨x0,x1,e,f⟩;have hv:zGQ zA l G here=.tup [.int ((n+1:Nat):Int),.int x]:=by unfold zGQ;rw[zCY d,zL6 d fx]
  have hlk:zF (zBm zA l G) here=some (.tup [.int ((n+1:Nat):Int),.int x]):=by rw[zDr,zVd hin,hv]
  rw[hlk];have hlen:=congrArg List.length hw12;rw[zVe,zVv]at hlen;refine zBv (d:=.int x) (zN (x:=.dat (.tup [.int ((n+1:Nat):Int),.int x])) (y:=.dat (.int 1)) (zN (x:=.dat (.ref jr)) (y:=.dat (tI here)) rfl rfl (zHI hM hlk)) rfl (zA3 zg rfl)) ?_;rw[zJ,zCI];refine zLP.mpr (zE (a:=.dat (.ref M.length)) (M:=M++[MO.lst (w1.map D.int)]) rfl ⟨⟨_,zBj hL⟩,zE (zo (d:=.int x) rfl) ((zGB hL (by rw[zVX];exact zVn (show w1.length<1000 by omega) (zm (by omega)))).mpr ?_)⟩);rw[zQ];have hset:(M++[MO.lst (w1.map D.int)]).set M.length (.lst (w1.map D.int++[.int x]))=M++[MO.lst ((w1++[x]).map D.int)]:=by
   rw[List.set_append_right _ _ (zVU _)];simp
  rw[hset,zW];refine zE (zAJ (zAO (d:=mD zA) rfl (zAO (d:=tI here) rfl (zo (d:=.int x) rfl))) (zIV m (by omega) u2.1 x0 x1)) ?_;exact ⟨w3.length,by simp,w1++[x],w3,setR zA here x,some (.int x),by rw[hw12];simp,c3,zC8 m here x u2 ⟨x0,x1⟩,rfl,rfl,rfl⟩
open Classical in
def zN6 (zA:Ya) (l:Nat) (G:Yq) (t:Ye):D:=if h:∃ w,Climb zA l G t w then tI (Classical.choose h) else .non
theorem zHY (c:Climb zA l G t w):zN6 zA l G t=tI w:=by
 unfold zN6;have hx:∃ w,Climb zA l G t w:=⟨w,c⟩;rw[dif_pos hx,zES (Classical.choose_spec hx) c]
theorem zM1 (h:¬ ∃ w,Climb zA l G t w):zN6 zA l G t=.non:=by
 unfold zN6;rw[dif_neg h]
def zAS (a b:Int):List Int:=[if b<a then b else a,if b>a then b else a]
theorem zHO (a0:0<=a) (a1:a<zA.length) (b0:0<=b) (b1:b<zA.length) (ne:a≠b):zAS a b∈zc (zK zA):=by
 unfold zAS;refine zAh.mpr ⟨_,_,rfl,zAB.mpr ?_,zAB.mpr ?_,?_⟩
 .split <;> omega
 .split <;> omega
 .split <;> split <;> omega
theorem zKF {zA:Ya} {l:Nat} (m:IsM zA l) (hR:zA.length<=26) (hl:l<=12) {a b:Int} (a0:0<=a) (a1:a<zA.length) (b0:0<=b) (b1:b<zA.length) (ne:a≠b) {M:Mem} :
  zBa [mD zA,.int a,.int b] M=some (zN6 zA l One (zAS a b),M):=by
 have hp:=zHO a0 a1 b0 b1 ne;refine zY ?_;unfold zBa;refine zDG ?_ ?_
 .unfold D.unds D.unds D.unds D.unds;rw[zDA];rfl
 rw[zAK];unfold zED;refine zBv (d:=tI (zAS a b)) (zIL (aC' (zFF (zLx (i:=a) (j:=b) rfl rfl)) (zo (zQY (i:=a) (j:=b) rfl rfl))) (by simp[zAS])) ?_;obtain ⟨d,M1,e,jr,rfl,_,h2,_,_⟩:=zJJ m hR hl (M:=[]);rw[zJ,zW];refine zE (zAJ (zo (d:=mD zA) rfl) e) ?_;rw[zI,zQ];have et:tst (fOp (zBF false) (zC 3) (zC 4)) [some (mD zA),some (.int a),some (.int b),some (tI (zAS a b)),some (.ref jr)] M1=some ((zF (zBm zA l One) (zAS a b)).isSome,M1):=by
  have:=zN (k:=zBF false) (f:=zC 3) (g:=zC 4) (σ:=[some (mD zA),some (.int a),some (.int b),some (tI (zAS a b)),some (.ref jr)]) (x:=.dat (tI (zAS a b))) (y:=.dat (.ref jr)) rfl rfl (zK9 h2);rw[zVg (by decide)]at this;exact zAj this
 rw[zAG,zPF];refine zE et ?_;by_cases hin:zAS a b∈zb zA l One
 .rw[show zF (zBm zA l One) (zAS a b)=some (zGQ zA l One (zAS a b)) by rw[zDr,zVd hin]];obtain ⟨_,n,hn⟩:=zAz.mp hin;obtain ⟨w,c⟩:=zCw _ hn;obtain ⟨d,M2,e2,rfl,us,rfl⟩:=zKm m zLt hR h2 (zDv _ hp) c;refine zE (zAJ (zAO (d:=mD zA) rfl (zAO (d:=.ref jr) rfl (zo (d:=tI (zAS a b)) rfl))) e2) ?_;exact ⟨zAs _,(zHY c).symm,rfl⟩
 .rw[show zF (zBm zA l One) (zAS a b)=none by rw[zDr,zVg hin]];refine zE rfl ⟨rfl,?_,rfl⟩;refine (zM1 ?_).symm;rintro ⟨w,c⟩;have hd:=zHU c;cases w with
  |nil=>have:=zAl.mp hd;exact absurd this (by unfold zAS;simp)
  |cons x w=>exact hin (zAz.mpr ⟨hp,w.length,hd⟩)
theorem zLi:(ris [a,b]).length=1 ↔ a=b:=by
 constructor
 .intro h;obtain ⟨r,e⟩:=List.length_eq_one_iff.mp h;have ha:a∈ris [a,b]:=(zCR _ _).mpr (by simp);have hb:b∈ris [a,b]:=(zCR _ _).mpr (by simp);rw[e,zVq]at ha hb;rw[ha,hb]
 .rintro rfl;rw[show ris [a,a]=ris [a]from zIS (by simp),zPr (by simp)];rfl
theorem zN1 (h:a≠b):(zAS a b).Pairwise (· < ·):=by
 unfold zAS;simp only[List.pairwise_cons,zVq,forall_eq,zVt,false_implies,implies_true,List.Pairwise.nil,and_true];split <;> split <;> omega
theorem zOZ (h:a≠b) (w:Ye):zGY zA (zAS a b) w=ris [zCs zA a w,zCs zA b w]:=by
 rw[zJ5 (zN1 h)];apply zIS;intro x;unfold zAS;by_cases q:b<a
 .rw[zVd q,zVg (by omega)];simp[or_comm]
 .rw[zVg q,zVd (by omega)];simp
theorem zP8 (h:a≠b) (w:Ye):One (zGY zA (zAS a b) w) ↔ zCs zA a w=zCs zA b w:=by
 unfold One;rw[zOZ h];exact zLi
theorem zNk (h1:fv σ M=some (.dat v,M)) (h2:fo σ M=some (.dat (.ref n),M)) (h3:fi σ M=some (.dat k,M)) (h4:zD0 M n k v=some M4) (q:P .nx σ M4):OkS (zBt fv fo fi σ M) P:=by
 refine ⟨.nx,σ,M4,?_,q⟩;unfold zBt toD;rw[h1];dsimp only;rw[h2];dsimp only;rw[h3];dsimp only;rw[h4]
theorem zOt {c r:Int} (c0:1<=c) (r0:0<r) (cr:c+r<=28) {rest:FS} {τ:Sd} {P:Out->Sd->Mem->Prop} {ns:Ye} (h:ns.length<=63)
  (q:∀ zA l M,IsM zA l->c<=(zA.length:Int)->(zA.length:Int)<c+r->zA.length<=27->l<=6->Gen M 2 1->M[0]?=some (.fro (ns.map D.int))->OkS (rest (some (.ref 0)::some (.ref 2)::some (.int (zA.length:Int))::some (mD zA)::τ) M) P) :
  OkS (zV (zh 1 (zP zBD (zD (toD (zC 0)) zG))) (zV (zh 2 (fOp zAP (fC (.int c)) (zP zU (zD (toD (zC 1)) (zD (toD (fC (.int r))) zG))))) (zV (zh 3 (zP zAp (zD (toD (zC 1)) (zD (toD (zC 2)) (zD (toD (fOp zAP (fC (.int 1)) (zP zU (zD (toD (zC 1)) (zD (toD (fC (.int 6))) zG))))) zG))))) rest)) (some (.ref 0)::none::none::none::τ) [.fro (ns.map D.int)]) P:=by
 rw[zJ,zW];refine zBi.mpr (zE (zo rfl) ?_);refine Ok.mono (zP1 h) ?_;rintro d M1 ⟨rfl,g1,e0,_⟩;rw[zI,zQ,zJ,zW];refine zAH.mpr (zE rfl (zAI g1 rfl rfl r0 (by omega) λi M2 i0 i1 nx2=>zE (a:=.dat (.int (c+i))) rfl ?_));rw[zI,zQ,zJ,zW];refine zBi.mpr (zAm.mpr (zAf.mpr (zE (a:=.dat (.ref 2)) rfl ?_)));rw[zI];refine zAm.mpr (zAf.mpr (zE (a:=.dat (.int (c+i))) rfl ?_));rw[zI];refine zAm.mpr (zAf.mpr (zAH.mpr (zE rfl (zAI nx2.gen rfl rfl (by decide) (by decide) λj M3 j0 j1 nx3=>zE (a:=.dat (.int (1+j))) rfl ?_))));rw[zI,zCW];refine Ok.mono (zKv nx3.gen (by omega) (by omega) (by omega) (by omega)) ?_;rintro d M4 ⟨⟨zA,l,rfl,m,hR,hL⟩,nx4⟩;rw[zI,zQ];have l3:0<M3.length:=by rw[nx3.len,nx2.len];exact (zVR.mp e0).1
 have e4:M4[0]?=some (.fro (ns.map D.int)):=(nx4.fr 0 l3 (by decide) (by decide)).trans ((nx3.fr 0 (by decide) (by decide)).trans ((nx2.fr 0 (by decide) (by decide)).trans e0));have:=q zA l M4 m (by omega) (by omega) (by omega) (by omega) nx4.gen e4;rw[hR]at this;exact this
def zDg:FS:=(zV (zh 1 (zA5 zG))
  (zV (zCM (zy (zD (toD (fB zBM (zM (zC 0) za))) zG)) (gN 2) (zBQ (fM zBf (zC 1) (zD (toD (zi [3] (zv (fSl (zC 0) (zEi (fOp zAP (zC 2) (fC (.int 1)))) zFM)) (gN 3) ze (zBL (zD (toD (fOp kIx (zC 0) (zC 2))) (zD (toD (zC 3)) zG))))) zG))))
  (zAY (zC 1))))
def zBk:FF:=zBH 4 zDg
theorem zJS {xs:Ye} (h:xs.Pairwise (· < ·)) (hi:i<xs.length):xs.filter (λb=>decide (xs[i]<b))=xs.drop (i+1):=by
 have hg:=List.pairwise_iff_getElem.mp h;have h1:(xs.take (i+1)).filter (λb=>decide (xs[i]<b))=[]:=by
  rw[List.filter_eq_nil_iff];intro b hb;obtain ⟨j,hj,rfl⟩:=zXR hb;rw[zWm]at hj;rw[List.getElem_take,zWb];rcases Nat.lt_or_ge j i with q|q
  .have:=hg j i (by omega) hi q;omega
  .have:j=i:=by omega
   subst this;omega
 have h2:(xs.drop (i+1)).filter (λb=>decide (xs[i]<b))=xs.drop (i+1):=by
  rw[List.filter_eq_self];intro b hb;obtain ⟨j,hj,rfl⟩:=zXR hb;rw[zXr]at hj;rw[List.getElem_drop,zWb];exact hg i (i+1+j) hi (by omega) (by omega)
 have key:∀ f:Int->Bool,(xs.take (i+1)).filter f=[]->(xs.drop (i+1)).filter f=xs.drop (i+1)->xs.filter f=xs.drop (i+1):=λf a b=>by
  have:=List.filter_append (p:=f) (xs.take (i+1)) (xs.drop (i+1));rw[List.take_append_drop,a,b]at this;simpa using this
 exact key _ h1 h2
def zEo (xs:Ye) (k:Nat):List (List Int):=(List.range k).flatMap λi=>(xs.drop (i+1)).map λb=>[xs.getD i 0,b]
theorem zNT {xs:Ye} (h:xs.Pairwise (· < ·)):zEo xs xs.length=zc xs:=by
 have e:zc xs=(List.range xs.length).flatMap λi=>(xs.filter λb=>decide (xs.getD i 0<b)).map λb=>[xs.getD i 0,b]:=by
  unfold zc;have:xs=(List.range xs.length).map λi=>xs.getD i 0:=by
   have:=zGn (λx:Int=>x) 0 xs;simpa using this.symm
  conv=>lhs;arg 2;rw[this]
  rw[List.flatMap_map]
 rw[e];unfold zEo;have:∀ i∈List.range xs.length,(xs.drop (i+1)).map (λb=>[xs.getD i 0,b])=(xs.filter λb=>decide (xs.getD i 0<b)).map λb=>[xs.getD i 0,b]:=λi hi=>by
  have hi':=zV2.mp hi;rw[<-zJS h hi'];congr 2;funext b;rw[zVT,zVS hi'];rfl
 rw[List.flatMap_def,List.flatMap_def,List.map_congr_left this]
theorem zQH (xs:Ye):∀ k,(zEo xs k).length<=k*xs.length:=by
 intro k;induction k with
 |zero=>simp[zEo]
 |succ k ih=>
  unfold zEo at ih ⊢;rw[List.range_succ,List.flatMap_append,zVe];simp only[List.flatMap_cons,List.flatMap_nil,zV8,zVX,zXr];rw[Nat.add_mul];omega
theorem zN3 {xs:List D} (hk:k<=xs.length):L3.zFS xs (some (k:Int)) none=xs.drop k:=by
 have ha:HT.sIx xs.length 0 (some (k:Int))=k:=by rw[HT.zQ5];omega
 unfold L3.zFS;rw[ha,show HT.sIx xs.length xs.length none=xs.length from rfl];exact List.take_of_length_le (by simp)
theorem zFa (n:Nat) (ps:Ya):D.unds n (ps.map tI)=true:=by
 induction ps with
 |nil=>rfl
 |cons p r ih=>rw[zVh];unfold D.unds;rw[ih,show D.und n (tI p)=true from zAs p];rfl
theorem zIY (hj:M[j]?=some (.lst (xs.map D.int))) (hx:xs.Pairwise (· < ·)) (hz:xs.length<=100) :
  Ok (zBk [.ref j] M) λd M'=>d=.ref M.length /\ ∃ us:Mem,M'=M ++ .lst ((zc xs).map tI)::us /\ ∀ u∈us,MO.und 0 u=true:=by
 have hjl:=(zVR.mp hj).1;unfold zBk;rw[zAK];unfold zDg;rw[zJ,zW];refine zE (M:=M) (a:=.fl []) (zTv rfl (by simp)) (zr ?_);rw[zQ];have up:∀ us:Mem,(M++us)[j]?=some (.lst (xs.map D.int)):=λus=>by rw[zVV hjl];exact hj
 rw[zJ,zA6];have el:=zGT (f:=zC 0) (σ:=[some (.ref j),some (.ref M.length),none,none]) (M:=M++[.lst []]) (x:=.dat (.ref j)) rfl (zAA (up _));rw[zVX]at el;refine ⟨_,_,_,zBs el (by omega) (by omega),?_⟩;rw[show ((xs.length:Int)).toNat=xs.length by omega];refine zIv (n:=xs.length) (I:=λk σ M'=>(∃ y2 y3,σ=[some (.ref j),some (.ref M.length),y2,y3]) /\ ∃ us:Mem,M'=M ++ .lst ((zEo xs k).map tI)::us /\ ∀ u∈us,MO.und 0 u=true) ?_ ?_ _ _ ⟨⟨_,_,rfl⟩,[],by simp[zEo],(λ_ h=>by cases h)⟩
 .rintro k σ M' hk ⟨⟨y2,y3,rfl⟩,us,rfl,hu⟩;refine ⟨_,rfl,?_⟩;generalize hA:M++MO.lst ((zEo xs k).map tI)::us=A;have a0:A[j]?=some (.lst (xs.map D.int)):=by rw[<-hA];exact up _
  have a1:A[M.length]?=some (.lst ((zEo xs k).map tI)):=by rw[<-hA];simp
  have al:M.length<A.length:=(zVR.mp a1).1;rw[zCI];have esl:fSl (zC 0) (zEi (fOp zAP (zC 2) (fC (.int 1)))) zFM [some (.ref j),some (.ref M.length),some (.int (k:Int)),y3] A=some (.fl ((xs.drop (k+1)).map D.int),A):=by
   refine zY (zRq.mpr (zE (a:=.dat (.ref j)) (M:=A) rfl (zKT.mpr (zE (a:=.dat (.int ((k+1:Nat):Int))) (M:=A) rfl (zKD.mpr (zKN.mpr ?_))))));rw[zN7 (zBj a0) rfl,zN3 (by rw[zVX];omega),List.map_drop];exact ⟨rfl,rfl⟩
  have ec:=zAd (own:=[3]) (g:=gN 3) (te:=zBL (zD (toD (fOp kIx (zC 0) (zC 2))) (zD (toD (zC 3)) zG))) (σ:=[some (.ref j),some (.ref M.length),some (.int (k:Int)),y3]) (M:=A) (xs.drop (k+1)) D.int (λb=>tI [xs.getD k 0,b]) (zRL esl) trivial (by rw[zXr];omega) λb _=>⟨_,rfl,zIL (zAO (zN (x:=.dat (.ref j)) (y:=.dat (.int (k:Int))) rfl rfl (zA3 (zAA a0) (zIk (by rw[zVl,zVS hk,zVT,zVS hk];rfl)))) (zo (d:=.int b) rfl)) (by simp)⟩;have htl:=zQH xs k;have hmul:k*xs.length<=100*100:=zW0 (by omega) hz;refine zLP.mpr (zE (a:=.dat (.ref M.length)) (M:=A) rfl ⟨⟨_,zBj a1⟩,zAm.mpr (zAf.mpr (zE ec (zr ?_)))⟩);rw[zCW];refine zE (zFA (n:=M.length) (m:=A.length) (xs:=(zEo xs k).map tI) (ys:=(xs.drop (k+1)).map λb=>tI [xs.getD k 0,b]) (by rw[zVV al];exact a1) (zw _ _) (by rw[zVX,zVX,zXr];omega)) ?_;refine ⟨⟨_,_,rfl⟩,us++[.lst ((xs.drop (k+1)).map λb=>tI [xs.getD k 0,b])],?_,λu hu'=>?_⟩
  .rw[<-hA,zWU,List.set_append_right _ _ (zVU _)];have:(zEo xs (k+1)).map tI=(zEo xs k).map tI++(xs.drop (k+1)).map λb=>tI [xs.getD k 0,b]:=by
    unfold zEo;rw[List.range_succ,List.flatMap_append,zWG];simp[zVm,Function.comp_def]
   rw[this];simp
  .rcases zVo.mp hu' with q|q
   .exact hu u q
   .rw[zVq]at q;subst q;rw[show (xs.drop (k+1)).map (λb=>tI [xs.getD k 0,b])=((xs.drop (k+1)).map λb=>[xs.getD k 0,b]).map tI by rw[zVm];rfl];exact zFa 0 _
 .rintro σ M' ⟨⟨y2,y3,rfl⟩,us,rfl,hu⟩;rw[zQ];exact zBI (d:=.ref M.length) rfl ⟨rfl,us,by rw[zNT hx],hu⟩
end Lac
namespace Lad
open PySem PySem.Spec PyProof.Rows L2 L3 ST Law
theorem zQU (j:Nat):upD j=((List.range j).map λ(k:Nat)=>(k:Int)).map D.int:=by
 unfold upD;rw[zVm];rfl
theorem zr (h:P (.ref M.length) (M++[.lst xs])):zFT P (.fl xs) M:=h
theorem zw (A:Mem) (u:MO):(A++[u])[A.length]?=some u:=by simp
def zCi (xs:Ye):List Int:=xs.map λx=>((zO xs).idxOf x:Int)
theorem zGD (xs:Ye):(zCi xs).length=xs.length:=by unfold zCi;simp
theorem aC' {f:FE} {g:FA} {σ:Sd} {M M1 M2:Mem} {d:D} {ds:List D} (h:toD f σ M=some (d,M1)) (hg:g σ M1=some (ds,M2)):zD (toD f) g σ M=some (d::ds,M2):=by
 unfold zD;rw[h];dsimp only;rw[hg]
theorem zFF (h:f σ M=some (.dat d,M)):toD f σ M=some (d,M):=by unfold toD;rw[h]
theorem zN0 {M M1:Mem} (h:f σ M=some (.fl xs,M1)):toD f σ M=some (.ref M1.length,M1++[.lst xs]):=by unfold toD;rw[h]
theorem zIL {g:FA} {σ:Sd} {M M1:Mem} {ds:List D} (h:g σ M=some (ds,M1)) (hz:ds.length<=100000):zBL g σ M=some (.dat (.tup ds),M1):=by
 unfold zBL;rw[h];dsimp only;rw[zVd (zm hz)]
theorem zQI (hf:f σ M=some (.dat (tI xs),M)) (hg:g σ M=some (.dat (.int i),M)) (hi:i∈xs):zEs f g σ M=some (.dat (.int (xs.idxOf i)),M):=by
 unfold zEs;have e1:toD f σ M=some (.tup (xs.map D.int),M):=by unfold toD;rw[hf];rfl
 have e2:toD g σ M=some (.int i,M):=by unfold toD;rw[hg]
 rw[e1];dsimp only;rw[zCH];dsimp only;rw[e2];dsimp only;rw[zVd hi]
theorem zFA (h1:M[n]?=some (.lst xs)) (h2:M[m]?=some (.lst ys)) (hz:xs.length+ys.length<=90000):zBf (.dat (.ref n)) [.ref m] M=some (.non,M.set n (.lst (xs++ys))):=by
 unfold zBf;dsimp only;rw[h1,h2];dsimp only;rw[zVd (zm (by omega))]
end Lad
namespace Lad
open PySem PySem.Spec PyProof.Rows L2 L3 ST Law
open Lac
end Lad
namespace Lad
open PySem PySem.Spec PyProof.Rows L2 L3 ST Law Lac
end Lad
namespace Lac
open PySem PySem.Spec PyProof.Rows L2 L3 ST Law
end Lac
namespace Lac
open PySem PySem.Spec PyProof.Rows L2 L3 ST Law
def zI8:FS:=(zV (zh 1 (zP zBX (zD (toD (zC 0)) zG)))
  (zAY (fB zAg (zM (zi [2] (zv (zP zAX (zD (toD (zP zAV (zD (toD (zC 0)) zG))) zG))) (gN 2) (tst (fOp (zBF true) (zC 2) (zC 1))) (zC 2)) za))))
def zC1:FF:=zDX (zBH 3 zI8)
open Classical in
def zC6 (zA:Ya) (l:Nat):List (List Int):=(zc (zK zA)).filter λp=>decide (p∉zb zA l One)
theorem zQR (n:Nat) (ps:Ya):D.und n (.tup (ps.map tI))=true:=by unfold D.und;exact zFa n ps
theorem zPN (m:IsM zA l) (hR:zA.length<=26) (hl:l<=12):zC1 [mD zA] M=some (.tup ((zC6 zA l).map tI),M):=by
 refine zY ?_;unfold zC1;refine zDG ?_ ?_
 .unfold D.unds D.unds;rw[zDA];rfl
 rw[zAK];unfold zI8;obtain ⟨d,M1,e,jf,rfl,_,⟨fd,h2,_,sp⟩,_,_⟩:=zGA m hR hl (M:=[]);rw[zJ,zW];refine zE (zAJ (zo (d:=mD zA) rfl) e) ?_;rw[zI,zQ];have hrl:(zK zA).length=zA.length:=by unfold zK;simp
 have epr:=zFy (xs:=zK zA) (by omega) (M:=M1);have ei:zv (zP zAX (zD (toD (zP zAV (zD (toD (zC 0)) zG))) zG)) [some (mD zA),some (.ref jf),none] M1=_:=zI1 (zo (d:=tI (zK zA)) (zAJ (zo (d:=mD zA) rfl) (zFz (by omega)))) epr (zw _ _);have hjl:=(zVR.mp h2).1;have hPl:=zB7 hR;have ef:=zCc (own:=[2]) (g:=gN 2) (tc:=tst (fOp (zBF true) (zC 2) (zC 1))) (te:=zC 2) (zc (zK zA)) tI tI (λp=>open Classical in decide (p∉zb zA l One)) ei (.inl (zw _ _)) (by omega) (λp hp=>by
  refine ⟨[some (mD zA),some (.ref jf),some (tI p)],rfl,?_,λ_=>rfl⟩;have e1:fOp (zBF true) (zC 2) (zC 1) [some (mD zA),some (.ref jf),some (tI p)] (M1++[MO.lst ((zc (zK zA)).map tI)])=_:=zN (x:=.dat (tI p)) (y:=.dat (.ref jf)) rfl rfl (zK9 (T:=fd) (by rw[zVV hjl];exact h2));rw[zVd rfl]at e1;have hb:(zF fd p).isSome=true ↔ p∈zb zA l One:=by
   rw[zAz];constructor
   .intro h;cases eL:zF fd p with
    |none=>rw[eL]at h;cases h
    |some d=>
     obtain ⟨_,n,hn,_⟩:=(sp p d).mp eL;cases n with
     |zero=>
      obtain ⟨a,b,rfl,_⟩:=zAh.mp hp;exact absurd (zAl.mp hn) (by simp[One])
     |succ n=>exact ⟨hp,n,hn⟩
   .rintro ⟨_,n,hn⟩;rw[(sp p _).mpr ⟨zDv p hp,n+1,hn,rfl⟩];rfl
  rw[zAj e1];by_cases hin:p∈zb zA l One
  .rw[hb.mpr hin,zVx (by simpa using hin)];rfl
  .have:(zF fd p).isSome=false:=by
    cases h:(zF fd p).isSome with
    |false=>rfl
    |true=>exact absurd (hb.mp h) hin
   rw[this,zWW hin];rfl)
 rw[zAG];refine zKc.mpr (zCK.mpr (zE ef (zCt.mpr ((zFZ zCh).mpr ?_))));rw[zI];exact ⟨zQR 0 _,rfl,rfl⟩
end Lac
namespace Lad
open PySem PySem.Spec PyProof.Rows L2 L3 ST Law Lac
end Lad
namespace Lad
open PySem PySem.Spec PyProof.Rows L2 L3 ST Law Lac
def zCb:FS:=(zV (zh 1 zKi)
  (zV (zCM (zv (zC 0)) (gN 2) (sIf (tst (fOp (zBF true) (zC 2) (zC 1))) (zBt (fB zHe (zM (zC 1) za)) (zC 1) (zC 2)) zBu))
  (zAY (fB zAg (zM (zi [2] (zv (zC 0)) (gN 2) ze (fOp zAc (zC 1) (zC 2))) za)))))
def zBA:FF:=zBH 3 zCb
def zA1:Nat->List Int->List (D × D)
 |_,[]=>[]
 |i,k::r=>(.int k,.int (i:Int))::zA1 (i+1) r
theorem zF4:∀ (i:Nat) (ks:Ye),(zA1 i ks).length=ks.length
 |_,[]=>rfl
 |i,k::r=>by unfold zA1;rw[zVv,zF4,zVv]
theorem zHW:∀ (i:Nat) (ks:Ye) (k:Int),zA1 i (ks++[k])=zA1 i ks++[(.int k,.int ((i+ks.length:Nat):Int))]
 |i,[],k=>rfl
 |i,a::r,k=>by
  rw[List.cons_append];unfold zA1;rw[zHW,List.cons_append,zVv,show i+1+r.length=i+(r.length+1) by omega]
theorem zIB:∀ (i:Nat) (ks:Ye) (k:Int),zBo zBw (zA1 i ks) (Sum.inl k)=if k∈ks then some (.int ((i+ks.idxOf k:Nat):Int)) else none
 |i,[],k=>rfl
 |i,a::r,k=>by
  have ih:=zIB (i+1) r k;unfold zBo at ih ⊢;rw[show zA1 i (a::r)=(D.int a,D.int (i:Int))::zA1 (i+1) r from rfl,zXA];by_cases h:a=k
  .subst h;rw[show decide (zBw (D.int a)=some (Sum.inl a))=true from zWW rfl];simp
  .rw[show decide (zBw (D.int a)=some (Sum.inl k))=false from zVx (λz=>h (Sum.inl.inj (zWO z)))];by_cases hk:k∈r
   .rw[zVd (zVb _ hk)];rw[zVd hk]at ih;rw[List.idxOf_cons,show (a==k)=false from beq_false_of_ne h];simp only[cond_false];rw[show i+(List.idxOf k r+1)=i+1+List.idxOf k r by omega];exact ih
   .rw[zVg (by simp[hk,Ne.symm h])];rw[zVg hk]at ih;exact ih
theorem zUF (ks:Ye) (k:Int) (h:k∉ks):zGz zBw (zA1 0 ks) (Sum.inl k) (.int k) (.int (ks.length:Int))=zA1 0 (ks++[k]):=by
 have hl:=zIB 0 ks k;rw[zVg h]at hl;unfold zBo at hl;have ha:((zA1 0 ks).any λp=>decide (zBw p.1=some (Sum.inl k)))=false:=by
  rw[List.any_eq_false];intro p hp;have:=(Option.map_eq_none_iff.mp hl);rw[List.find?_eq_none]at this;exact this p hp
 unfold zGz;rw[ha,zVg (by simp),zHW];simp
theorem zIw (hj:M[j]?=some (.lst (xs.map D.int))) (hz:xs.length<=1000) :
  Ok (zBA [.ref j] M) λd M'=>d=tI (zCi xs)/\M.length<=M'.length /\ ∀ i,i<M.length->M'[i]?=M[i]?:=by
 have hjl:=(zVR.mp hj).1;unfold zBA;rw[zAK];unfold zCb;show OkS (zV _ _ [some (.ref j),none,none] M) _;rw[zJ,zW];refine zE (M:=M++[.dict []]) (a:=.dat (.ref M.length)) rfl ?_;rw[zI,zQ];simp only[List.set_cons_succ,List.set_cons_zero];have up:∀ u:MO,(M++[u])[j]?=some (.lst (xs.map D.int)):=λu=>by rw[zVV hjl];exact hj
 rw[zJ,zA6];refine ⟨_,_,_,(show zv (zC 0) [some (.ref j),some (.ref M.length),none] (M++[.dict []])=some (xs.map D.int,zDn (.dat (.ref j)) (xs.map D.int),M++[.dict []]) by
  unfold zv;rw[show zC 0 [some (.ref j),some (.ref M.length),none] (M++[.dict []])=some (.dat (.ref j),M++[.dict []])from rfl];dsimp only;rw[zAA (up _)]),?_⟩
 have insl:∀ us:List Int,(zO us).length<=us.length:=λus=>zBU us;refine zAr (I:=λr σ M'=>∃ (us vs:Ye) (y:Option D),σ=[some (.ref j),some (.ref M.length),y]/\xs=us++vs/\r=vs.map D.int/\M'=M++[.dict (zA1 0 (zO us))]) ?_ ?_ _ _ _ ⟨[],xs,none,rfl,rfl,rfl,rfl⟩
 .rintro x r σ M' ⟨us,vs,y,rfl,hab,hr,rfl⟩;cases vs with
  |nil=>cases hr
  |cons k vs=>
   rw[zVh]at hr;obtain ⟨rfl,rfl⟩:=zWS hr;refine ⟨.inl (up _),_,rfl,?_⟩;have hul:us.length<1000:=by have:=congrArg List.length hab;simp at this;omega
   have e0:(M++[MO.dict (zA1 0 (zO us))])[M.length]?=some (.dict (zA1 0 (zO us))):=zw _ _;show OkS (sIf _ _ _ [some (.ref j),some (.ref M.length),some (.int k)] _) _;rw[zBW];have eg:zDd (M++[MO.dict (zA1 0 (zO us))]) (.dat (.ref M.length)) (.int k)=some (if k∈zO us then some (.int ((0+(zO us).idxOf k:Nat):Int)) else none):=by
    unfold zDd;dsimp only;rw[e0];show some (zBo zBw (zA1 0 (zO us)) (Sum.inl k))=_;rw[zIB]
   refine zE (M:=M++[MO.dict (zA1 0 (zO us))]) (a:=!decide (k∈zO us)) (zAj (zN (x:=.dat (.int k)) (y:=.dat (.ref M.length)) rfl rfl (by unfold zBF;dsimp only;rw[eg];by_cases h:k∈zO us <;> simp[h]))) ?_;by_cases h:k∈zO us
   .rw[zWW h,zVg (by simp),zAx];refine ⟨us++[k],vs,_,rfl,by rw[hab];simp,rfl,?_⟩;rw[zDl];unfold ins;rw[zVd h]
   .rw[zVx h,zVd (by simp)];have hil:=insl us;refine ⟨.nx,[some (.ref j),some (.ref M.length),some (.int k)],M++[.dict (zA1 0 (zO us++[k]))],?_,us++[k],vs,_,rfl,by rw[hab];simp,rfl,by rw[zDl];unfold ins;rw[zVg h]⟩;unfold zBt;rw[zFF (show fB zHe (zM (zC 1) za) [some (.ref j),some (.ref M.length),some (.int k)] (M++[MO.dict (zA1 0 (zO us))])=some (.dat (.int ((zO us).length:Int)),M++[MO.dict (zA1 0 (zO us))]) by
     unfold fB zM za;rw[show zC 1 [some (.ref j),some (.ref M.length),some (.int k)] (M++[MO.dict (zA1 0 (zO us))])=some (.dat (.ref M.length),M++[MO.dict (zA1 0 (zO us))])from rfl];unfold zHe;dsimp only;rw[e0];dsimp only;rw[zF4])]
    dsimp only;rw[show toD (zC 1) [some (.ref j),some (.ref M.length),some (.int k)] (M++[MO.dict (zA1 0 (zO us))])=some (.ref M.length,M++[MO.dict (zA1 0 (zO us))])from rfl];dsimp only;rw[show toD (zC 2) [some (.ref j),some (.ref M.length),some (.int k)] (M++[MO.dict (zA1 0 (zO us))])=some (.int k,M++[MO.dict (zA1 0 (zO us))])from rfl];dsimp only;unfold zD0;rw[e0];rw[show zBw (.int k)=some (Sum.inl k)from rfl];dsimp only;rw[zVd (by rw[zF4];exact zVn (m:=95000) (by omega) (zm (by omega))),zUF _ _ h];simp
 .rintro σ M' ⟨us,vs,y,rfl,hab,hr,rfl⟩;have:vs=[]:=by cases vs with|nil=>rfl|cons _ _=>cases hr
  subst this;rw[zV8]at hab;subst hab;refine ⟨.inl (up _),?_⟩;rw[zQ];have e0:(M++[MO.dict (zA1 0 (zO xs))])[M.length]?=some (.dict (zA1 0 (zO xs))):=zw _ _;have ec:=zAd (own:=[2]) (g:=gN 2) (te:=fOp zAc (zC 1) (zC 2)) (fi:=zv (zC 0)) (σ:=[some (.ref j),some (.ref M.length),y]) (M:=M++[MO.dict (zA1 0 (zO xs))]) xs D.int (λk=>D.int (((zO xs).idxOf k:Nat):Int)) (gd:=zDn (.dat (.ref j)) (xs.map D.int)) (by
   unfold zv;rw[show zC 0 [some (.ref j),some (.ref M.length),y] (M++[MO.dict (zA1 0 (zO xs))])=some (.dat (.ref j),M++[MO.dict (zA1 0 (zO xs))])from rfl];dsimp only;rw[zAA (up _)]) (.inl (up _)) (by omega) λk hk=>⟨_,rfl,zN (x:=.dat (.ref M.length)) (y:=.dat (.int k)) rfl rfl (by
    unfold zAc;unfold zDd;dsimp only;rw[e0];show (match some (zBo zBw (zA1 0 (zO xs)) (Sum.inl k)) with|some (some d)=>_|_=>_)=_;rw[zIB,zVd ((zAR xs k).mpr hk),Nat.zero_add])⟩
  refine zBI (d:=tI (zCi xs)) ?_ ⟨rfl,by simp,λi hi=>zVV hi⟩;unfold fB zM za;rw[ec];unfold zCi tI;rw[zVm];rfl
end Lad
namespace Lad
open PySem PySem.Spec PyProof.Rows L2 L3 ST Law Lac
end Lad
namespace Lad
open PySem PySem.Spec PyProof.Rows L2 L3 ST Law Lac
end Lad
namespace Lad
open PySem PySem.Spec PyProof.Rows L2 L3 ST Law Lac
theorem zQW (h:a<b) (w:Ye):zGY zA [a,b] w=ris [zCs zA a w,zCs zA b w]:=zJ5 (by simpa using h) w
theorem zL8 (h:a<b) (w:Ye):One (zGY zA [a,b] w) ↔ zCs zA a w=zCs zA b w:=by
 rw[zQW h];exact zLi
theorem zNn (hi:i<xs.length) (hj:j<xs.length):(zCi xs).getD i 0=(zCi xs).getD j 0 ↔ xs.getD i 0=xs.getD j 0:=by
 unfold zCi;have g:∀ {k:Nat} (hk:k<xs.length),(xs.map λx=>((zO xs).idxOf x:Int)).getD k 0=((zO xs).idxOf (xs.getD k 0):Int):=λ{k} hk=>by
  rw[zVT,zVT,zVl,zVS hk];rfl
 have mm:∀ {k:Nat} (hk:k<xs.length),xs.getD k 0∈zO xs:=λ{k} hk=>by
  rw[zAR,zVT,zVS hk];exact zVw hk
 rw[g hi,g hj];constructor
 .intro e;have e:(zO xs).idxOf (xs.getD i 0)=(zO xs).idxOf (xs.getD j 0):=by omega
  have h1:=List.getElem_idxOf (List.idxOf_lt_length_of_mem (mm hi));have h2:=List.getElem_idxOf (List.idxOf_lt_length_of_mem (mm hj));rw[<-h1,<-h2];simp only[e]
 .intro e;rw[e]
end Lad
namespace Lad
open PySem PySem.Spec PyProof.Rows L2 L3 ST Law Lac
abbrev pg (P:Ye) (a:Int):Int:=P.getD a.toNat 0
structure Prt (P:Ye) (K:Nat):Prop where
 k0:0<K
 lt:∀ a:Nat,a<P.length->0<=P.getD a 0/\P.getD a 0<(K:Int)
 on:∀ j:Nat,j<K -> ∃ a:Nat,a<P.length/\P.getD a 0=(j:Int)
theorem zL3 (hk:k<xs.length):(zCi xs).getD k 0=((zO xs).idxOf (xs.getD k 0):Int):=by
 unfold zCi;rw[zVT,zVT,zVl,zVS hk];rfl
theorem zC4 {xs:Ye} (hk:k<xs.length):xs.getD k 0∈xs:=by
 rw[zVT,zVS hk];exact zVw hk
theorem zRB {xs:Ye} (h:0<xs.length):Prt (zCi xs) (zO xs).length:=by
 have h0:=(zAR xs _).mpr (zC4 h);refine ⟨zYa h0,λa ha=>?_,λj hj=>?_⟩
 .rw[zGD]at ha;rw[zL3 ha];have:=zPM ((zAR xs _).mpr (zC4 ha));omega
 .have hm:(zO xs).getD j 0∈xs:=(zAR xs _).mp (zC4 hj);obtain ⟨a,ha,e⟩:=zXR hm;refine ⟨a,by rw[zGD];exact ha,?_⟩;rw[zL3 ha,zVT,zVS ha];show ((zO xs).idxOf xs[a]:Int)=_;rw[e,zOH (zBz xs) hj]
def crw (P r:Ye):List Int:=r.map (pg P)
def zAe (zA:Ya) (P:Ye) (K:Nat):List (List Int):=(List.range K).map λ(j:Nat)=>crw P (zA.getD (P.idxOf (j:Int)) [])
theorem zC0 (zA:Ya) (P:Ye) (K:Nat):(zAe zA P K).length=K:=by unfold zAe;simp
theorem zQ8 {zA:Ya} {P:Ye} {K j:Nat} (h:j<K):(zAe zA P K).getD j []=crw P (zA.getD (P.idxOf (j:Int)) []):=by
 unfold zAe;rw[zVT,zVl,List.getElem?_range h];rfl
theorem zLI {P:Ye} {K:Nat} (p:Prt P K) {j:Nat} (h:j<K):P.idxOf (j:Int)<P.length/\P.getD (P.idxOf (j:Int)) 0=(j:Int):=by
 obtain ⟨a,ha,e⟩:=p.on j h;have hm:(j:Int)∈P:=by rw[<-e];exact zC4 ha
 have hlt:=zPM hm;refine ⟨hlt,?_⟩;rw[zVT,zVS hlt];exact List.getElem_idxOf hlt
section
variable {zA:Ya} {l:Nat} {P:Ye} {K:Nat}
theorem zHS (p:Prt P K) (hP:P.length=zA.length) (ha:0<=a/\a<(zA.length:Int)):0<=pg P a/\pg P a<(K:Int):=p.lt a.toNat (by omega)
theorem zLY (m:IsM zA l) (p:Prt P K) (hP:P.length=zA.length):IsM (zAe zA P K) l:=by
 refine ⟨by rw[zC0];exact p.k0,m.l0,λr hr=>?_⟩;obtain ⟨j,hj,rfl⟩:=zVf.mp hr;obtain ⟨h1,_⟩:=zLI p (zV2.mp hj);have hg:=m.get (h:=(P.idxOf (j:Int):Int)) (by omega) (by omega);rw[zX8]at hg;refine ⟨by unfold crw;rw[zVX];exact hg.1,λg hgm=>?_⟩;obtain ⟨x,hx,rfl⟩:=zVf.mp hgm;rw[zC0];exact zHS p hP (hg.2 x hx)
def Kp (zA:Ya) (l:Nat) (P:Ye):Prop:=∀ a b x:Int,0<=a/\a<(zA.length:Int)->0<=b/\b<(zA.length:Int)->0<=x/\x<(l:Int)->pg P a=pg P b->pg P (zq zA a x)=pg P (zq zA b x)
theorem zNy (m:IsM zA l) (p:Prt P K) (hP:P.length=zA.length) (kp:Kp zA l P) (ha:0<=a/\a<(zA.length:Int)) (hx:0<=x/\x<(l:Int)):zq (zAe zA P K) (pg P a) x=pg P (zq zA a x):=by
 have hl:=zHS p hP ha;obtain ⟨j,hj⟩:∃ j:Nat,pg P a=(j:Int):=⟨(pg P a).toNat,by omega⟩;have hjK:j<K:=by omega
 obtain ⟨h1,h2⟩:=zLI p hjK;have hr:0<=(P.idxOf (j:Int):Int)/\(P.idxOf (j:Int):Int)<(zA.length:Int):=by omega
 have e:=kp _ _ x hr ha hx (by rw[hj];unfold pg;rw[zX8];exact h2);rw[<-e,hj];unfold zq;rw[zX8,zX8,zQ8 hjK];have hg:=(m.get hr.1 hr.2).1;rw[zX8]at hg;unfold crw;rw[zVT,zVl,zVS (show x.toNat<(zA.getD (P.idxOf (j:Int)) []).length by omega)];rw[zVT (l:=zA.getD (P.idxOf (j:Int)) []),zVS (show x.toNat<(zA.getD (P.idxOf (j:Int)) []).length by omega)];rfl
theorem zEX (m:IsM zA l) (p:Prt P K) (hP:P.length=zA.length) (kp:Kp zA l P):∀ (w:Ye) {a:Int},0<=a/\a<(zA.length:Int)->(∀ x∈w,0<=x/\x<(l:Int))->zCs (zAe zA P K) (pg P a) w=pg P (zCs zA a w)
 |[],_,_,_=>rfl
 |x::w,a,ha,hw=>by
  have hx:=hw x zVc;show zCs (zAe zA P K) (zq (zAe zA P K) (pg P a) x) w=pg P (zCs zA (zq zA a x) w);rw[zNy m p hP kp ha hx];exact zEX m p hP kp w (m.step ha.1 ha.2 hx.1 hx.2) λy hy=>hw y (zVb _ hy)
end
def zB0:FS:=(zAY (zi [3] (zv (zC 0)) (gN 3) ze (fB zAg (zM (zi [2] (zv (zC 3)) (gN 2) ze (fOp kIx (zC 1) (zC 2))) za))))
def zAi:FF:=zBH 4 zB0
def zEc:FS:=(zV (zh 2 (zP zAi (zD (toD (zC 0)) (zD (toD (zC 1)) zG))))
  (zAY (fB zAg (zM (zi [3] (zy (zD (toD (fOp zAP (fB (zBP true) (zM (zC 1) za)) (fC (.int 1)))) zG)) (gN 3) ze (fOp kIx (zC 2) (zEs (zC 1) (zC 3)))) za))))
def zCC:FF:=zDX (zBH 4 zEc)
section
variable {zA:Ya} {l:Nat}
theorem zG7 (m:IsM zA l) (hR:zA.length<=1000) (hl:l<=1000) (hp:p.length=zA.length):zAi [mD zA,tI p] M=some (.ref M.length,M++[.lst ((zA.map (crw p)).map λr=>D.tup (r.map D.int))]):=by
 have key:zi [3] (zv (zC 0)) (gN 3) ze (fB zAg (zM (zi [2] (zv (zC 3)) (gN 2) ze (fOp kIx (zC 1) (zC 2))) za)) [some (mD zA),some (tI p),none,none] M=some (.fl ((zA.map (crw p)).map λr=>D.tup (r.map D.int)),M):=by
  refine (zAd zA (λr=>D.tup (r.map D.int)) (λr=> .tup ((crw p r).map D.int)) (zDD rfl) trivial (by omega) λr hr=>⟨_,rfl,?_⟩).trans ?_
  .obtain ⟨h1,h2⟩:=m.row r hr;refine (zCr (zAd r D.int (λg=> .int (p.getD g.toNat 0)) (zDD rfl) trivial (by omega) λg hg=>⟨_,rfl,?_⟩) zCh).trans ?_
   .exact zN (x:=.dat (tI p)) (y:=.dat (.int g)) rfl rfl (zA3 zg (zC7 (h2 g hg).1 (by rw[hp];exact (h2 g hg).2)))
   .unfold crw;rw[zVm];rfl
  .rw[zVm];rfl
 suffices h:Ok (zAi [mD zA,tI p] M) λd M'=>d=.ref M.length/\M'=M++[.lst ((zA.map (crw p)).map λr=>D.tup (r.map D.int))] by
  obtain ⟨d,M',e,rfl,rfl⟩:=h;exact e
 unfold zAi;rw[zAK];unfold zB0;rw[zAG];exact zE key (zr ⟨rfl,rfl⟩)
theorem zPG {P:Ye} {K:Nat} (p:Prt P K) {f:FE} {σ:Sd} {M:Mem} (hf:f σ M=some (.dat (tI P),M)):fB (zBP true) (zM f za) σ M=some (.dat (.int ((K:Int)-1)),M):=by
 have k0:=p.k0;cases P with
 |nil=>obtain ⟨a,ha,_⟩:=p.on 0 k0;cases ha
 |cons x r=>
  obtain ⟨h1,h2⟩:=zCJ true r x;have e:zBR true x r=(K:Int)-1:=by
   obtain ⟨j,hj,ej⟩:=zXR h1;have q1:=p.lt j hj;rw[zVT,zVS hj]at q1;simp only[Option.getD_some]at q1;rw[ej]at q1;obtain ⟨a,ha,ea⟩:=p.on (K-1) (by omega);have q2:=h2 _ (zC4 ha);rw[ea]at q2;simp only[if_true]at q2;omega
  unfold fB zM za;rw[hf];unfold zBP;show (match zAZ ((x::r).map D.int) with|some (n::ns)=>some (EV.dat (.int (zBR true n ns)),M)|_=>none)=_;rw[zCH];dsimp only;rw[e]
theorem zMi {P:Ye} {K:Nat} (m:IsM zA l) (hR:zA.length<=26) (hl:l<=12) (p:Prt P K) (hK:K<=1000) (hP:P.length=zA.length) {M:Mem}:zCC [mD zA,tI P] M=some (mD (zAe zA P K),M):=by
 have k0:=p.k0;refine zY ?_;unfold zCC;refine zDG ?_ ?_
 .unfold D.unds D.unds D.unds;rw[zDA];simp[tI,zAs]
 rw[zAK];unfold zEc;rw[zJ,zW];refine zBi.mpr (zE (zAO (d:=mD zA) rfl (zo (d:=tI P) rfl)) (zE (zG7 m (by omega) (by omega) hP) ?_));rw[zI,zQ];show OkS (zAY _ [some (mD zA),some (tI P),some (.ref 0),none] [.lst ((zA.map (crw P)).map λr=>D.tup (r.map D.int))]) _;have er:=zEn (f:=fOp zAP (fB (zBP true) (zM (zC 1) za)) (fC (.int 1))) (σ:=[some (mD zA),some (tI P),some (.ref 0),none]) (M:=[.lst ((zA.map (crw P)).map λr=>D.tup (r.map D.int))]) (j:=(K:Int)) (zN (x:=.dat (.int ((K:Int)-1))) (y:=.dat (.int 1)) (zPG p rfl) rfl (by show some (EV.dat (.int ((K:Int)-1+1)),_)=_;rw[show (K:Int)-1+1=(K:Int) by omega])) (by omega) (by omega);rw[show (K:Int).toNat=K by omega]at er;have ec:=zAd (own:=[3]) (g:=gN 3) (te:=fOp kIx (zC 2) (zEs (zC 1) (zC 3))) (List.range K) (λ(k:Nat)=>D.int k) (λ(k:Nat)=>D.tup ((crw P (zA.getD (P.idxOf (k:Int)) [])).map D.int)) er trivial (by rw[zXL];omega) λk hk=>by
  obtain ⟨h1,h2⟩:=zLI p (zV2.mp hk);have hm:(k:Int)∈P:=by rw[<-h2];exact zC4 h1
  refine ⟨[some (mD zA),some (tI P),some (.ref 0),some (.int (k:Int))],rfl,zN (x:=.dat (.ref 0)) (y:=.dat (.int (P.idxOf (k:Int)))) rfl (zQI (xs:=P) rfl rfl hm) (zA3 (xs:=(zA.map (crw P)).map λr=>D.tup (r.map D.int)) rfl (zIk ?_))⟩;rw[zVl,zVl,zVT,zVS (show P.idxOf (k:Int)<zA.length by omega)];rfl
 refine zBI (d:=mD (zAe zA P K)) ((zCr ec zCh).trans ?_) ⟨zDA _,rfl,rfl⟩;rw[show mD (zAe zA P K)=.tup ((List.range K).map λ(k:Nat)=>D.tup ((crw P (zA.getD (P.idxOf (k:Int)) [])).map D.int)) by unfold mD zAe;rw[zVm];rfl]
end
end Lad
namespace Lad
open PySem PySem.Spec PyProof.Rows L2 L3 ST Law Lac
set_option genInjectivity true in
inductive Eqv (n:Nat) (R:Int->Int->Prop):Int->Int->Prop
 |base {a b:Int}:R a b->Eqv n R a b
 |refl (a:Int):Eqv n R a a
 |symm {a b:Int}:Eqv n R a b->Eqv n R b a
 |trans {a b c:Int}:Eqv n R a b->(0<=b/\b<(n:Int))->Eqv n R b c->Eqv n R a c
theorem Eqv.sub (h:∀ a b,R a b->Eqv n S a b) (e:Eqv n R a b):Eqv n S a b:=by
 induction e with
 |base r=>exact h _ _ r
 |refl a=>exact .refl a
 |symm _ ih=>exact ih.symm
 |trans _ z _ i1 i2=>exact .trans i1 z i2
theorem Eqv.fn {n:Nat} {R:Int->Int->Prop} {f:Int->Int} (h:∀ a b,R a b->f a=f b) {a b:Int} (e:Eqv n R a b):f a=f b:=by
 induction e with
 |base r=>exact h _ _ r
 |refl a=>rfl
 |symm _ ih=>exact ih.symm
 |trans _ z _ i1 i2=>exact i1.trans i2
theorem Eqv.step (m:IsM zA l) (hx:0<=x/\x<(l:Int)) (h:∀ a b,R a b->Eqv zA.length R (zq zA a x) (zq zA b x)) (e:Eqv zA.length R a b):Eqv zA.length R (zq zA a x) (zq zA b x):=by
 induction e with
 |base r=>exact h _ _ r
 |refl a=>exact .refl _
 |symm _ ih=>exact ih.symm
 |trans _ z _ i1 i2=>exact .trans i1 (m.step z.1 z.2 hx.1 hx.2) i2
set_option genInjectivity true in
inductive Rea (zA:Ya) (l:Nat) (ps:Ya):Int->Int->Prop
 |base {a b:Int}:[a,b]∈ps->Rea zA l ps a b
 |step {a b x:Int}:Rea zA l ps a b->(0<=x/\x<(l:Int))->Rea zA l ps (zq zA a x) (zq zA b x)
def InR (n:Nat) (p:Ye):Prop:=∃ a b:Int,p=[a,b]/\(0<=a/\a<(n:Int))/\0<=b/\b<(n:Int)
theorem Rea.inr (m:IsM zA l) (hp:∀ p∈ps,InR zA.length p) (h:Rea zA l ps a b):(0<=a/\a<(zA.length:Int))/\0<=b/\b<(zA.length:Int):=by
 induction h with
 |base h=>
  obtain ⟨a,b,e,z⟩:=hp _ h;cases e;exact z
 |step _ hx ih=>exact ⟨m.step ih.1.1 ih.1.2 hx.1 hx.2,m.step ih.2.1 ih.2.2 hx.1 hx.2⟩
def mrg (c:Ye) (x y:Int):List Int:=c.map λz=>if z=x then y else z
theorem zRF (c:Ye) (x y:Int):(mrg c x y).length=c.length:=by unfold mrg;simp
theorem zE1 (h:0<=a/\a<(c.length:Int)):pg (mrg c x y) a=if pg c a=x then y else pg c a:=by
 unfold pg mrg;have:a.toNat<c.length:=by omega
 rw[zVT,zVl,zVT,zVS this];rfl
def Cls (n:Nat) (c:Ye) (R:Int->Int->Prop):Prop:=c.length=n /\ ∀ a b:Int,0<=a/\a<(n:Int)->0<=b/\b<(n:Int)->(pg c a=pg c b ↔ Eqv n R a b)
theorem zRi {n:Nat} {c:Ye} {R S:Int->Int->Prop} (h:Cls n c R) (hr:∀ a b,R a b->(0<=a/\a<(n:Int))/\0<=b/\b<(n:Int)) {o t:Int} (ho:0<=o/\o<(n:Int)) (ht:0<=t/\t<(n:Int))
  (h1:∀ a b,R a b->S a b) (h2:Eqv n S o t) (h3:∀ a b,S a b->R a b\/(a=o/\b=t)\/(a=t/\b=o)):Cls n (mrg c (pg c t) (pg c o)) S:=by
 obtain ⟨hl,hc⟩:=h;have up:∀ {a b},Eqv n R a b->Eqv n S a b:=λe=>e.sub λa b r=> .base (h1 a b r);have eo:pg (mrg c (pg c t) (pg c o)) o=pg c o:=by rw[zE1 (by omega)];split <;> rfl
 have et:pg (mrg c (pg c t) (pg c o)) t=pg c o:=by rw[zE1 (by omega),zVd rfl]
 refine ⟨by rw[zRF,hl],λa b ha hb=>⟨λe=>?_,λe=>?_⟩⟩
 .rw[zE1 (by omega),zE1 (by omega)]at e;by_cases q1:pg c a=pg c t
  .by_cases q2:pg c b=pg c t
   .exact up ((hc a b ha hb).mp (q1.trans q2.symm))
   .rw[zVd q1,zVg q2]at e;exact .trans (up ((hc a t ha ht).mp q1)) ht (.trans h2.symm ho (up ((hc o b ho hb).mp e)))
  .by_cases q2:pg c b=pg c t
   .rw[zVg q1,zVd q2]at e;exact .trans (up ((hc a o ha ho).mp e)) ho (.trans h2 ht (up ((hc t b ht hb).mp q2.symm)))
   .rw[zVg q1,zVg q2]at e;exact up ((hc a b ha hb).mp e)
 .refine Eqv.fn (f:=pg (mrg c (pg c t) (pg c o))) (λa b r=>?_) e;rcases h3 a b r with z|⟨rfl,rfl⟩|⟨rfl,rfl⟩
  .obtain ⟨ia,ib⟩:=hr a b z;rw[zE1 (by omega),zE1 (by omega),(hc a b ia ib).mpr (.base z)]
  .rw[eo,et]
  .rw[eo,et]
theorem zMs (n:Nat) {R:Int->Int->Prop} (h:∀ a b,¬ R a b):Cls n ((List.range n).map λ(k:Nat)=>(k:Int)) R:=by
 have e:∀ a:Int,0<=a/\a<(n:Int)->pg ((List.range n).map λ(k:Nat)=>(k:Int)) a=a:=λa ha=>by
  unfold pg;rw[zVT,zVl,List.getElem?_range (by omega)];show ((a.toNat:Nat):Int)=a;omega
 refine ⟨by simp,λa b ha hb=>⟨λq=>?_,λq=>?_⟩⟩
 .rw[e a ha,e b hb]at q;subst q;exact .refl a
 .exact Eqv.fn (f:=pg _) (λa b r=>absurd r (h a b)) q
theorem Cls.congr (h:Cls n c R) (h1:∀ a b,R a b->Eqv n S a b) (h2:∀ a b,S a b->Eqv n R a b):Cls n c S :=
 ⟨h.1,λa b ha hb=>(h.2 a b ha hb).trans ⟨λe=>e.sub h1,λe=>e.sub h2⟩⟩
theorem zKo (ha:0<=a/\a<(c.length:Int)) (hb:0<=b/\b<(c.length:Int)):pg (zCi c) a=pg (zCi c) b ↔ pg c a=pg c b:=zNn (by omega) (by omega)
theorem zSm (m:IsM zA l) (hl:c.length=zA.length) (h:Kp zA l c):Kp zA l (zCi c):=λa b x ha hb hx e=>by
 rw[zKo (by rw[hl];exact ha) (by rw[hl];exact hb)]at e;rw[zKo (by rw[hl];exact m.step ha.1 ha.2 hx.1 hx.2) (by rw[hl];exact m.step hb.1 hb.2 hx.1 hx.2)];exact h a b x ha hb hx e
theorem zTO (m:IsM zA l) (h:Cls zA.length c (Rea zA l ps)):Kp zA l c:=λa b x ha hb hx e=>
 (h.2 _ _ (m.step ha.1 ha.2 hx.1 hx.2) (m.step hb.1 hb.2 hx.1 hx.2)).mpr (((h.2 a b ha hb).mp e).step m hx λ_ _ r=> .base (r.step hx))
abbrev bT:D:=.bl true
structure Kn (T:List (List Int × D)) (R:Ya):Prop where
 at':∀ g,(zF T g).isSome=decide (g∈R)
 len:T.length<=R.length
 val:∀ q∈T,q.2=bT
theorem zR9 (h:Kn T R) (g:Ye):Kn (zB3 T g bT) (R++[g]):=by
 refine ⟨λx=>?_,by have:=zEl T g bT;have:=h.len;simp;omega,λq hq=>?_⟩
 .rw[zB6];by_cases e:g=x
  .subst e;simp
  .rw[zVg e,h.at'];have:¬ x=g:=λz=>e z.symm;simp[this]
 .unfold zB3 at hq;split at hq
  .obtain ⟨r,hr,rfl⟩:=zVf.mp hq;split
   .rfl
   .exact h.val r hr
  .rcases zVo.mp hq with z|z
   .exact h.val q z
   .rw[zVq]at z;subst z;rfl
theorem zKE:∀ (r q:Ya) (T:List (List Int × D)),Kn T q->(q++r).length<=80000 -> ∃ T',Kn T' (q++r)/\L3.zEw A.length (r.map λg=>D.tup [tI g,bT]) (A++[dT T])=some (A++[dT T'])
 |[],q,T,h,_=>⟨T,by rw[zV8];exact h,rfl⟩
 |g::r,q,T,h,hz=>by
  have hl:T.length<90000:=by have:=h.len;simp at hz;omega
  obtain ⟨T',h',e⟩:=zKE (A:=A) r (q++[g]) (zB3 T g bT) (zR9 h g) (by simpa using hz);refine ⟨T',by simpa using h',?_⟩;rw[zVh];unfold L3.zEw;rw[zH1 (T:=T) (zw _ _) hl];dsimp only;rw[List.set_append_right _ _ (zVU _),Nat.sub_self,List.set_cons_zero];exact e
section
variable {zA:Ya} {l:Nat} {ps R:Ya} {i:Nat}
theorem zP0 (m:IsM zA l) (ha:0<=a/\a<(zA.length:Int)) (hb:0<=b/\b<(zA.length:Int)):(zA.getD a.toNat []).zip (zA.getD b.toNat [])=(List.range l).map λ(x:Nat)=>(zq zA a (x:Int),zq zA b (x:Int)):=by
 obtain ⟨la,_⟩:=m.get ha.1 ha.2;obtain ⟨lb,_⟩:=m.get hb.1 hb.2;unfold zq;generalize zA.getD a.toNat []=A at la;generalize zA.getD b.toNat []=B at lb;apply List.ext_getElem
 .simp[la,lb]
 .intro i h1 h2;simp at h1 h2;simp[show i<A.length by omega,show i<B.length by omega]
end
theorem zSV (h:∀ q∈T,q.2=bT):MO.und n (dT T)=true:=by
 show ((zE0 T).all λp=>D.und n p.1&&D.und n p.2)=true;rw[zVz];intro p hp;obtain ⟨r,hr,rfl⟩:=zVf.mp hp;rw[h r hr];simp[tI,zAs,D.und,zx]
end Lad
namespace Lad
open PySem PySem.Spec PyProof.Rows L2 L3 ST Law Lac
def zDu:FS:=(zV (zh 2 (zFL (fB zBM (zM (zC 0) za))))
  (zV (zh 3 (fB zGF (zM (zC 1) za)))
  (zV (zAv (zKG (zC 3)) (zV (zJ1 (zD2 4 5) (zHF (zC 3)))
  (zV (zJ1 (zD2 6 7) (zBL (zD (toD (fOp kIx (zC 2) (zC 4))) (zD (toD (fOp kIx (zC 2) (zC 5))) zG))))
  (sIf (tst (fOp kNe (zC 6) (zC 7))) (zV (zh 2 (zi [8] (zv (zC 2)) (gN 8) ze (vIf (tst (fOp kEq (zC 8) (zC 6))) (zC 7) (zC 8))))
  (zBQ (fM zBf (zC 3) (zD (toD (zHs (zD (toD (fOp kIx (zC 0) (zC 4))) (zD (toD (fOp kIx (zC 0) (zC 5))) zG)))) zG)))) zBu))) 1000)
  (zAY (zP zBA (zD (toD (zC 2)) zG))))))
def zBY:FF:=zDX (zBH 9 zDu)
structure KI (zA:Ya) (l:Nat) (ps E due:Ya) (c:Ye):Prop where
 cls:Cls zA.length c (λa b=>[a,b]∈E)
 re:∀ g∈E,∃ a b,g=[a,b]/\Rea zA l ps a b
 rd:∀ g∈due,∃ a b,g=[a,b]/\Rea zA l ps a b
 st:∀ a b x:Int,[a,b]∈E->0<=x/\x<(l:Int)->Eqv zA.length (λa b=>[a,b]∈E) (zq zA a x) (zq zA b x)\/[zq zA a x,zq zA b x]∈due
 pp:∀ a b:Int,[a,b]∈ps->Eqv zA.length (λa b=>[a,b]∈E) a b\/[a,b]∈due
section
variable {zA:Ya} {l:Nat} {ps E due:Ya} {c:Ye}
theorem zOV {ps:Ya} (hp:∀ p∈ps,InR zA.length p):KI zA l ps [] ps ((List.range zA.length).map λ(k:Nat)=>(k:Int)) :=
 ⟨zMs _ (λa b h=>by cases h),(λg h=>by cases h),λg hg=>by obtain ⟨a,b,rfl,_⟩:=hp g hg;exact ⟨a,b,rfl,.base hg⟩,(λa b x h=>by cases h),λa b h=> .inr h⟩
theorem zR8 (m:IsM zA l) (h:KI zA l ps E [] c):Cls zA.length c (Rea zA l ps):=by
 refine h.cls.congr (λa b e=>?_) λa b r=>?_
 .obtain ⟨a',b',q,r⟩:=h.re _ e;cases q;exact .base r
 .induction r with
  |base q=>exact (h.pp _ _ q).elim id λz=>by cases z
  |step _ hx ih=>exact ih.step m hx λa b e=>(h.st a b _ e hx).elim id λz=>by cases z
theorem zRg {g:Ye} {a b:Int} (h:KI zA l ps E (due++[[a,b]]) c) (e:Eqv zA.length (λa b=>[a,b]∈E) a b):KI zA l ps E due c:=by
 have key:∀ u v:Int,(Eqv zA.length (λa b=>[a,b]∈E) u v\/[u,v]∈due++[[a,b]])->Eqv zA.length (λa b=>[a,b]∈E) u v\/[u,v]∈due:=λu v z=>by
  rcases z with z|z
  .exact .inl z
  .rcases zVo.mp z with z|z
   .exact .inr z
   .rw[zVq]at z;cases z;exact .inl e
 exact ⟨h.cls,h.re,λg hg=>h.rd g (zWd _ hg),λu v x hu hx=>key _ _ (h.st u v x hu hx),λu v hu=>key _ _ (h.pp u v hu)⟩
theorem zQ4 (m:IsM zA l) (hp:∀ p∈ps,InR zA.length p) {a b:Int} (h:KI zA l ps E (due++[[a,b]]) c):KI zA l ps (E++[[a,b]]) (due++(List.range l).map λ(x:Nat)=>[zq zA a (x:Int),zq zA b (x:Int)]) (mrg c (pg c a) (pg c b)):=by
 obtain ⟨a',b',q,rab⟩:=h.rd [a,b] (by simp);cases q;obtain ⟨ia,ib⟩:=rab.inr m hp;have up:∀ {u v},Eqv zA.length (λa b=>[a,b]∈E) u v->Eqv zA.length (λu v=>[u,v]∈E++[[a,b]]) u v:=λe=>e.sub λ_ _ z=> .base (zWd _ z);have key:∀ u v:Int,(Eqv zA.length (λa b=>[a,b]∈E) u v\/[u,v]∈due++[[a,b]])->Eqv zA.length (λu v=>[u,v]∈E++[[a,b]]) u v\/[u,v]∈due++(List.range l).map λ(x:Nat)=>[zq zA a (x:Int),zq zA b (x:Int)]:=λu v z=>by
  rcases z with z|z
  .exact .inl (up z)
  .rcases zVo.mp z with z|z
   .exact .inr (zWd _ z)
   .rw[zVq]at z;cases z;exact .inl (.base (by simp))
 refine ⟨zRi h.cls (λu v z=>?_) ib ia (λu v z=>zWd _ z) (Eqv.symm (.base (by simp))) λu v z=>?_,λg hg=>?_,λg hg=>?_,λu v x hu hx=>?_,λu v hu=>key u v (h.pp u v hu)⟩
 .obtain ⟨u',v',q,r⟩:=h.re _ z;cases q;exact r.inr m hp
 .rcases zVo.mp z with z|z
  .exact .inl z
  .rw[zVq]at z;cases z;exact .inr (.inr ⟨rfl,rfl⟩)
 .rcases zVo.mp hg with z|z
  .exact h.re g z
  .rw[zVq]at z;subst z;exact ⟨a,b,rfl,rab⟩
 .rcases zVo.mp hg with z|z
  .exact h.rd g (zWd _ z)
  .obtain ⟨x,hx,rfl⟩:=zVf.mp z;have:=zV2.mp hx;exact ⟨_,_,rfl,rab.step (by omega)⟩
 .rcases zVo.mp hu with z|z
  .exact key _ _ (h.st u v x z hx)
  .rw[zVq]at z;cases z;exact .inr (zVi _ (zVf.mpr ⟨x.toNat,zV2.mpr (by omega),by rw[show ((x.toNat:Nat):Int)=x by omega]⟩))
theorem zNL {c:Ye} {x y:Int} (hx:x∈c) (hy:y∈c) (hne:x≠y):(zO (mrg c x y)).length+1<=(zO c).length:=by
 have nd:(x::zO (mrg c x y)).Nodup:=zWi.mpr ⟨λz=>by
  obtain ⟨w,_,e⟩:=zVf.mp ((zAR _ _).mp z);by_cases q:w=x
  .rw[zVd q]at e;exact hne e.symm
  .rw[zVg q]at e;exact q e,zBz _⟩
 have:=zEO _ (zO c) nd λz hz=>by
  rw[zAR];rcases zVa.mp hz with rfl|hz
  .exact hx
  .obtain ⟨w,hw,e⟩:=zVf.mp ((zAR _ _).mp hz);by_cases q:w=x
   .rw[zVd q]at e;rw[<-e];exact hy
   .rw[zVg q]at e;rw[<-e];exact hw
 simpa using this
end
abbrev kbS (zA:Ya) (ps:Ya) (J:Nat) (y4 y5 y6 y7 y8:Option D):Sd:=[some (mD zA),some (.tup (ps.map tI)),some (.ref J),some (.ref 1),y4,y5,y6,y7,y8]
theorem zOe {zA:Ya} {l:Nat} (m:IsM zA l) (hR:zA.length<=26) (hl:l<=12) {ps:Ya} (hp:∀ p∈ps,InR zA.length p) (hz:ps.length<=500) :
  OkS (zAv (zKG (zC 3)) (zV (zJ1 (zD2 4 5) (zHF (zC 3)))
  (zV (zJ1 (zD2 6 7) (zBL (zD (toD (fOp kIx (zC 2) (zC 4))) (zD (toD (fOp kIx (zC 2) (zC 5))) zG))))
  (sIf (tst (fOp kNe (zC 6) (zC 7))) (zV (zh 2 (zi [8] (zv (zC 2)) (gN 8) ze (vIf (tst (fOp kEq (zC 8) (zC 6))) (zC 7) (zC 8))))
  (zBQ (fM zBf (zC 3) (zD (toD (zHs (zD (toD (fOp kIx (zC 0) (zC 4))) (zD (toD (fOp kIx (zC 0) (zC 5))) zG)))) zG)))) zBu))) 1000 (kbS zA ps 0 none none none none none) [.lst (((List.range zA.length).map λ(k:Nat)=>(k:Int)).map D.int),.lst (ps.map tI)])
   λo σ' M'=>o=.nx /\ ∃ J y4 y5 y6 y7 y8 c,σ'=kbS zA ps J y4 y5 y6 y7 y8/\M'[J]?=some (.lst ((c:Ye).map D.int))/\Cls zA.length c (Rea zA l ps):=by
 have h0:ps.length+l*(zO ((List.range zA.length).map λ(k:Nat)=>(k:Int))).length<1000:=by
  have h1:=zBU ((List.range zA.length).map λ(k:Nat)=>(k:Int));rw[zVX,zXL]at h1;have:=zW0 hl (zVp h1 hR);omega
 refine zB8 (I:=λk σ M'=>∃ J y4 y5 y6 y7 y8 c E due,k=due.length+l*(zO (c:Ye)).length/\σ=kbS zA ps J y4 y5 y6 y7 y8/\J≠1/\M'[J]?=some (.lst (c.map D.int))/\M'[1]?=some (.lst (due.map tI))/\due.length+l*(zO c).length<1000/\KI zA l ps E due c) ?_ 1000 _ _ _ h0 ⟨0,none,none,none,none,none,_,[],ps,rfl,rfl,by omega,rfl,rfl,h0,zOV hp⟩;rintro k σ M' ⟨J,y4,y5,y6,y7,y8,c,E,due,rfl,rfl,hJ1,hJ,hd,hdl,ki⟩;refine zE (M:=M') (a:=!(due.map tI).isEmpty) (zPJ (j:=1) rfl hd) ?_;rcases List.eq_nil_or_concat due with rfl|⟨due,g,rfl⟩
 .rw[zVg (by simp)];exact ⟨rfl,J,y4,y5,y6,y7,y8,c,rfl,hJ,zR8 m ki⟩
 .rw[List.concat_eq_append]at hd ki hdl ⊢;rw[zVd (by simp)];obtain ⟨a,b,rfl,rab⟩:=ki.rd g (by simp);obtain ⟨ia,ib⟩:=rab.inr m hp;have cl:=ki.cls.1;have h1l:1<M'.length:=(zVR.mp hd).1;have ePop:zHF (zC 3) (kbS zA ps J y4 y5 y6 y7 y8) M'=some (.dat (tI [a,b]),M'.set 1 (.lst (due.map tI))):=by
   unfold zHF;rw[show zC 3 (kbS zA ps J y4 y5 y6 y7 y8) M'=some (.dat (.ref 1),M')from rfl];dsimp only;rw[hd];dsimp only;rw[zWG,zVe,zVX,zWY (by simp)];simp
  rw[zJ,zLy];refine zE ePop ?_;rw[zI];refine ⟨kbS zA ps J (some (.int a)) (some (.int b)) y6 y7 y8,rfl,?_⟩;have hJ2:(M'.set 1 (.lst (due.map tI)))[J]?=some (.lst (c.map D.int)):=by rw[zVs (Ne.symm hJ1)];exact hJ
  have hd2:(M'.set 1 (.lst (due.map tI)))[1]?=some (.lst (due.map tI)):=zWI h1l;generalize M'.set 1 (.lst (due.map tI))=A at hJ2 hd2;rw[zQ,zJ,zLy];have iv:∀ {v:Int} {i:Nat} {M:Mem} {y6 y7 y8:Option D},M[J]?=some (.lst (c.map D.int))->0<=v/\v<(zA.length:Int)->zC i (kbS zA ps J (some (.int a)) (some (.int b)) y6 y7 y8) M=some (.dat (.int v),M)->fOp kIx (zC 2) (zC i) (kbS zA ps J (some (.int a)) (some (.int b)) y6 y7 y8) M=some (.dat (.int (pg c v)),M):=λe hv h=>zN (x:=.dat (.ref J)) (y:=.dat (.int _)) rfl h (zA3 (zAA e) (zC7 hv.1 (by rw[cl];exact hv.2)));refine zE (zIL (zAO (iv hJ2 ia rfl) (zo (iv hJ2 ib rfl))) (by simp)) ?_;rw[zI];refine ⟨kbS zA ps J (some (.int a)) (some (.int b)) (some (.int (pg c a))) (some (.int (pg c b))) y8,rfl,?_⟩;rw[zQ,zBW];refine zE (M:=A) (a:=!decide (pg c a=pg c b)) (zAj (zN (x:=.dat (.int (pg c a))) (y:=.dat (.int (pg c b))) rfl rfl (zY (zTP.mpr ⟨by simp,rfl⟩)))) ?_;rw[zVe,List.length_singleton]at hdl ⊢;by_cases hq:pg c a=pg c b
  .rw[zVg (by rw[zWW hq];decide),zAx];exact ⟨_,by omega,J,_,_,_,_,_,c,E,due,rfl,rfl,hJ1,hJ2,hd2,by omega,zRg (g:=[]) ki ((ki.cls.2 a b ia ib).mp hq)⟩
  .rw[zVd (by rw[zVx hq];rfl),zJ,zW];have ec:zi [8] (zv (zC 2)) (gN 8) ze (vIf (tst (fOp kEq (zC 8) (zC 6))) (zC 7) (zC 8)) (kbS zA ps J (some (.int a)) (some (.int b)) (some (.int (pg c a))) (some (.int (pg c b))) y8) A=some (.fl ((mrg c (pg c a) (pg c b)).map D.int),A):=by
    refine (zAd c D.int (λz=> .int (if z=pg c a then pg c b else z)) (zCU (x:=.dat (.ref J)) rfl (zAA hJ2)) (.inl hJ2) (by omega) λz hz=>⟨kbS zA ps J (some (.int a)) (some (.int b)) (some (.int (pg c a))) (some (.int (pg c b))) (some (.int z)),rfl,?_⟩).trans (by unfold mrg;rw[zVm];rfl);refine zY (zPF.mpr (zE (M:=A) (a:=decide (z=pg c a)) (zAj (zN (x:=.dat (.int z)) (y:=.dat (.int (pg c a))) rfl rfl (zY (zJP.mpr ⟨rfl,rfl⟩)))) ?_));by_cases q:z=pg c a
    .rw[zVd (by simpa using q),zVd q];exact zE (M:=A) (a:=.dat (.int (pg c b))) rfl ⟨rfl,rfl⟩
    .rw[zVg (by simpa using q),zVg q];exact zE (M:=A) (a:=.dat (.int z)) rfl ⟨rfl,rfl⟩
   refine zE ec (zr ?_);rw[zQ,zCI];simp only[List.set_cons_succ,List.set_cons_zero];have hal:1<A.length:=(zVR.mp hd2).1;have hd3:(A++[MO.lst ((mrg c (pg c a) (pg c b)).map D.int)])[1]?=some (.lst (due.map tI)):=by rw[zVV hal];exact hd2
   have hJ3:=zw A (MO.lst ((mrg c (pg c a) (pg c b)).map D.int));have hJn:A.length≠1:=by omega
   generalize hB:A++[MO.lst ((mrg c (pg c a) (pg c b)).map D.int)]=B at hd3 hJ3;have hBl:A.length<B.length:=by rw[<-hB];simp
   have ra:=zI5 (zA:=zA) ia.1 ia.2;have rb:=zI5 (zA:=zA) ib.1 ib.2;have ez:zHs (zD (toD (fOp kIx (zC 0) (zC 4))) (zD (toD (fOp kIx (zC 0) (zC 5))) zG)) [some (mD zA),some (.tup (ps.map tI)),some (.ref A.length),some (.ref 1),some (.int a),some (.int b),some (.int (pg c a)),some (.int (pg c b)),y8] B=some (.fl (((List.range l).map λ(x:Nat)=>[zq zA a (x:Int),zq zA b (x:Int)]).map tI),B):=by
    unfold zHs;rw[zAO (d:=.tup ((zA.getD a.toNat []).map D.int)) (zN (x:=.dat (mD zA)) (y:=.dat (.int a)) rfl rfl (zA3 zg ra)) (zo (d:=.tup ((zA.getD b.toNat []).map D.int)) (zN (x:=.dat (mD zA)) (y:=.dat (.int b)) rfl rfl (zA3 zg rb)))];dsimp only;rw[show zAQ B (.dat (.tup ((zA.getD a.toNat []).map D.int)))=some ((zA.getD a.toNat []).map D.int)from rfl,show zAQ B (.dat (.tup ((zA.getD b.toNat []).map D.int)))=some ((zA.getD b.toNat []).map D.int)from rfl];dsimp only;rw[List.zip_map,zP0 m ia ib,zVd (zm (by simp;omega)),zVm,zVm,zVm];rfl
   have hca:pg c a∈c:=zC4 (by omega);have hcb:pg c b∈c:=zC4 (by omega);have hcnt:=zNL hca hcb hq;have hmul:=Nat.mul_le_mul_left l hcnt;rw[Nat.mul_add,Nat.mul_one]at hmul;refine zLP.mpr (zt.mpr ⟨_,rfl,⟨_,zBj hd3⟩,zE (aC' (zN0 ez) rfl) ?_⟩);have hd4:(B++[MO.lst (((List.range l).map λ(x:Nat)=>[zq zA a (x:Int),zq zA b (x:Int)]).map tI)])[1]?=some (.lst (due.map tI)):=by rw[zVV (by omega)];exact hd3
   refine zE (zFA hd4 (zw _ _) (by simp;omega)) ?_;refine ⟨_,?_,A.length,_,_,_,_,_,mrg c (pg c a) (pg c b),E++[[a,b]],due++(List.range l).map λ(x:Nat)=>[zq zA a (x:Int),zq zA b (x:Int)],rfl,rfl,hJn,?_,?_,?_,zQ4 m hp ki⟩
   .rw[zVe,zVX,zXL];omega
   .rw[zVs (Ne.symm hJn),zVV hBl];exact hJ3
   .rw[zWI (by simp;omega),zWG]
   .rw[zVe,zVX,zXL];omega
theorem zKW {zA:Ya} {l:Nat} (m:IsM zA l) (hR:zA.length<=26) (hl:l<=12) {ps:Ya} (hp:∀ p∈ps,InR zA.length p) (hz:ps.length<=500) {M:Mem} :
  Ok (zBY [mD zA,.tup (ps.map tI)] M) λd M'=>M'=M /\ ∃ c,d=tI (zCi c)/\Cls zA.length c (Rea zA l ps):=by
 unfold zBY;refine zDG (by unfold D.unds D.unds D.unds;rw[zDA];unfold D.und;rw[zFa];rfl) ?_;rw[zAK];unfold zDu;show OkS (zV _ _ [some (mD zA),some (.tup (ps.map tI)),none,none,none,none,none,none,none] []) _;rw[zJ,zW];have elr:zFL (fB zBM (zM (zC 0) za)) [some (mD zA),some (.tup (ps.map tI)),none,none,none,none,none,none,none] []=some (.fl (((List.range zA.length).map λ(k:Nat)=>(k:Int)).map D.int),[]):=by
  unfold zFL;rw[zGf (zA:=zA) rfl];dsimp only;rw[zVd ⟨by omega,by omega⟩,zQU,show (zA.length:Int).toNat=zA.length by omega]
 refine zE elr (zr ?_);rw[zQ,zJ,zW];refine zKc.mpr (zCK.mpr (zt.mpr ⟨_,rfl,zCt.mpr ((zSx zg).mpr (zr ?_))⟩));rw[zQ,zJ];refine OkS.mono (zOe m hR hl hp hz) ?_;rintro o σ' M' ⟨rfl,J,y4,y5,y6,y7,y8,c,rfl,hJ,hc⟩;rw[zQ,zAG];refine zBi.mpr (zE (zo (d:=.ref J) rfl) ?_);refine Ok.mono (zIw hJ (by rw[hc.1];omega)) ?_;rintro d M2 ⟨rfl,_,_⟩;rw[zI];exact ⟨zAs _,rfl,c,rfl,hc⟩
def zU8 (zA:Ya) (l:Nat) (P:Ye):Prop:=∃ K,Prt P K/\P.length=zA.length/\Kp zA l P
theorem zQ3 {P:Ye} {K:Nat} (p:Prt P K):(zO P).length=K:=by
 have h1:=zEO (zO P) ((List.range K).map λ(k:Nat)=>(k:Int)) (zBz P) λx hx=>by
  obtain ⟨i,hi,rfl⟩:=zXR ((zAR P x).mp hx);have:=p.lt i hi;rw[zVT,zVS hi]at this;simp only[Option.getD_some]at this;exact zVf.mpr ⟨(P[i]).toNat,zV2.mpr (by omega),by omega⟩
 have nd:((List.range K).map λ(k:Nat)=>(k:Int)).Nodup:=List.Pairwise.map _ (λa b h e=>h (by omega)) List.nodup_range;have h2:=zEO ((List.range K).map λ(k:Nat)=>(k:Int)) (zO P) nd λx hx=>by
  obtain ⟨k,hk,rfl⟩:=zVf.mp hx;obtain ⟨a,ha,e⟩:=p.on k (zV2.mp hk);rw[zAR,<-e];exact zC4 ha
 simp at h1 h2;omega
theorem zPs (m:IsM zA l) (hl:c.length=zA.length) (h:Kp zA l c):zU8 zA l (zCi c) :=
 ⟨_,zRB (by rw[hl];exact m.r0),by rw[zGD,hl],zSm m hl h⟩
end Lad
namespace Lac
open PySem PySem.Spec PyProof.Rows L2 L3 ST Law
def zGS:FS:=(zAY (fB zAg (zM (zi [1,2,3] (zFn (zP zDz (zD (toD (zC 0)) zG))) (zLr 1 2 3) ze (zBL (zD (toD (zC 1)) (zD (toD (zC 2)) (zD (toD (zC 3)) zG))))) za)))
def zCG:FF:=zDX (zBH 4 zGS)
def zBc (zA:Ya) (l:Nat) (p:Ye):D:=.tup [tI p,.int (zBp zA l One p:Nat),.int (zJM zA l One p)]
theorem zQw (zA:Ya) (l:Nat) (ps:Ya):D.und 0 (.tup (ps.map (zBc zA l)))=true:=by
 unfold D.und;induction ps with
 |nil=>rfl
 |cons p r ih=>
  rw[zVh];unfold D.unds;rw[ih];unfold zBc D.und D.unds D.unds D.unds D.unds;rw[show D.und 0 (tI p)=true from zAs _];rfl
theorem zPl (hR:zA.length<=26):(zb zA l One).length<=676:=zVp (zXi _ _) (zB7 hR)
theorem zNz {M M1:Mem} {T:List (List Int × D)} (ha:a σ M=some (ds,M)) (hg:g ds M=some (.ref jr,M1)) (hr:M1[jr]?=some (dT T)):zFn (zP g a) σ M=some (T.map (λq=>D.tup [tI q.1,q.2]),none,M1.set jr (.set [])):=by
 unfold zFn;rw[zAJ ha hg];dsimp only;rw[hr];show some ((zE0 T).map (λp=>D.tup [p.1,p.2]),_,_)=_;unfold zE0;rw[zVm];rfl
theorem zHn {zA:Ya} (m:IsM zA l) (hR:zA.length<=26) (hl:l<=12):zCG [mD zA] M=some (.tup ((zb zA l One).map (zBc zA l)),M):=by
 refine zY ?_;unfold zCG;refine zDG ?_ ?_
 .unfold D.unds D.unds;rw[zDA];rfl
 rw[zAK];unfold zGS;obtain ⟨d,M1,e,jr,rfl,_,hr,_,_⟩:=zJJ m hR hl (M:=[]);have ei:=zNz (σ:=[some (mD zA),none,none,none]) (zo (f:=zC 0) (d:=mD zA) rfl) e hr;have ef:=zCc (own:=[1,2,3]) (g:=zLr 1 2 3) (tc:=ze) (te:=zBL (zD (toD (zC 1)) (zD (toD (zC 2)) (zD (toD (zC 3)) zG)))) (zBm zA l One) (λq=>D.tup [tI q.1,q.2]) (λq=>zBc zA l q.1) (λ_=>true) ei trivial (by have:=zPl (l:=l) hR;unfold zBm;rw[zVX];omega) (λq hq=>by
  obtain ⟨p,_,rfl⟩:=zVf.mp hq;exact ⟨[some (mD zA),some (tI p),some (.int (zBp zA l One p:Nat)),some (.int (zJM zA l One p))],rfl,rfl,λ_=>zIL (zAO (d:=tI p) rfl (zAO (d:=.int (zBp zA l One p:Nat)) rfl (zo (d:=.int (zJM zA l One p)) rfl))) (by simp)⟩)
 have hft:((zBm zA l One).filter λ_=>true).map (λq=>zBc zA l q.1)=(zb zA l One).map (zBc zA l):=by
  rw[List.filter_eq_self.mpr λ_ _=>rfl];unfold zBm;rw[zVm];rfl
 rw[hft]at ef;rw[zAG];refine zKc.mpr (zCK.mpr (zE ef (zCt.mpr ((zFZ zCh).mpr ?_))));rw[zI];exact ⟨zQw _ _ _,rfl,rfl⟩
open Lad (zBY zCC zCi pg Prt Kp zAe zLY zC0 zEX zHS)
def zP2:FS:=(zV (zh 1 (zP zBD (zD (toD (zC 0)) zG)))
  (zV (zh 2 (fOp zAP (fC (.int 2)) (zP zU (zD (toD (zC 1)) (zD (toD (fC (.int 25))) zG)))))
  (zV (zh 3 (zP zAp (zD (toD (zC 1)) (zD (toD (zC 2)) (zD (toD (fOp zAP (fC (.int 1)) (zP zU (zD (toD (zC 1)) (zD (toD (fC (.int 6))) zG))))) zG)))))
  (zV (zh 4 (zP zBk (zD (toD (zFL (zC 2))) zG)))
  (zV (zh 5 (fB zAg (zM (zi [6] (zy (zD (toD (fOp zAP (fC (.int 1)) (zP zU (zD (toD (zC 1)) (zD (toD (fC (.int 4))) zG))))) zG)) (gN 6) ze (fOp kIx (zC 4) (zP zU (zD (toD (zC 1)) (zD (toD (fB zBM (zM (zC 4) za))) zG))))) za)))
  (zV (zh 7 (zP zBY (zD (toD (zC 3)) (zD (toD (zC 5)) zG))))
  (zV (zh 8 (zP zCC (zD (toD (zC 3)) (zD (toD (zC 7)) zG))))
  (zV (zh 9 zIP)
  (zV (zCM (zv (zP zCG (zD (toD (zC 8)) zG))) (zNO 10 11 12) (zBt (zC 11) (zC 9) (zC 10)))
  (zV (zh 13 (zP zCG (zD (toD (zC 3)) zG)))
  (zV (zh 14 (fB (zDo true) (zM (zi [10] (zv (zP zC1 (zD (toD (zC 8)) zG))) (gN 10) ze (zBL (zD (toD (zC 10)) (zD (toD (fC (.bl true))) zG)))) za)))
  (zV (zCM (zv (zC 13)) (zNO 10 11 12) (zV (zh 15 (zBL (zD (toD (fOp kIx (zC 7) (fOp kIx (zC 10) (fC (.int 0))))) (zD (toD (fOp kIx (zC 7) (fOp kIx (zC 10) (fC (.int 1))))) zG))))
  (zV (zh 16 (zBL (zD (toD (fB (zBP false) (zM (zC 15) za))) (zD (toD (fB (zBP true) (zM (zC 15) za))) zG))))
  (sIf (zBO (tst (fOp kNe (fOp kIx (zC 15) (fC (.int 0))) (fOp kIx (zC 15) (fC (.int 1))))) (zIg (tst (fOp (zBF false) (zC 16) (zC 14))) (tst (fOp kGt (zAu (zC 9) (zC 16) (fOp zAP (zC 11) (fC (.int 1)))) (zC 11))))) (zAY (fC (.bl false))) zBu))))
  (zV (zCM (zy (zD (toD (fB zFJ (zM (fC (.int 3)) (zM (fB zBM (zM (zC 13) za)) za)))) zG)) (gN 17) (zV (zh 10 (fOp kIx (fOp kIx (zC 13) (zP zU (zD (toD (zC 1)) (zD (toD (fB zBM (zM (zC 13) za))) zG)))) (fC (.int 0))))
  (zV (zh 18 (zP zBa (zD (toD (zC 3)) (zD (toD (fOp kIx (zC 10) (fC (.int 0)))) (zD (toD (fOp kIx (zC 10) (fC (.int 1)))) zG)))))
  (sIf (tst (fOp kNe (zP zET (zD (toD (zC 8)) (zD (toD (fOp kIx (zC 7) (fOp kIx (zC 10) (fC (.int 0))))) (zD (toD (zC 18)) zG)))) (zP zET (zD (toD (zC 8)) (zD (toD (fOp kIx (zC 7) (fOp kIx (zC 10) (fC (.int 1))))) (zD (toD (zC 18)) zG)))))) (zAY (fC (.bl false))) zBu))))
  (zAY (fB zS6 (zM (zi [10] (zv (zC 5)) (gN 10) ze (fOp kEq (fOp kIx (zC 7) (fOp kIx (zC 10) (fC (.int 0)))) (fOp kIx (zC 7) (fOp kIx (zC 10) (fC (.int 1)))))) za))))))))))))))))
def zFH:FF:=zBH 19 zP2
section
variable {zA:Ya} {l:Nat} {P:Ye} {K:Nat}
theorem zPI {a b:Int} (h:a<b):zAS a b=[a,b]:=by
 unfold zAS;rw[zVg (by omega),zVd (by omega)]
theorem zMx (m:IsM zA l) (p:Prt P K) (hP:P.length=zA.length) (kp:Kp zA l P) {a b:Int} {n:Nat} (ha:0<=a/\a<(zA.length:Int)) (hb:0<=b/\b<(zA.length:Int)) (hlt:a<b) (d:Dst zA l One [a,b] (n+1)) (ne:pg P a≠pg P b) :
  zAS (pg P a) (pg P b)∈zb (zAe zA P K) l One/\zBp (zAe zA P K) l One (zAS (pg P a) (pg P b))<=n+1:=by
 obtain ⟨⟨w,hwl,hw,hg⟩,_⟩:=d;have e:=(Lad.zL8 hlt w).mp hg;have ea:=zHS p hP ha;have eb:=zHS p hP hb;have hF:One (zGY (zAe zA P K) (zAS (pg P a) (pg P b)) w):=by
  rw[zP8 ne,zEX m p hP kp w ha hw,zEX m p hP kp w hb hw,e]
 obtain ⟨k,hk,dk⟩:=zGg (n+1) (show Rch (zAe zA P K) l One (zAS (pg P a) (pg P b)) (n+1)from ⟨w,hwl,hw,hF⟩);have hm:=zHO (zA:=zAe zA P K) ea.1 (by rw[zC0];exact ea.2) eb.1 (by rw[zC0];exact eb.2) ne;cases k with
 |zero=>
  have:=zAl.mp dk;exact absurd this (by show ¬ (2=1);omega)
 |succ k=>exact ⟨zAz.mpr ⟨hm,k,dk⟩,by rw[zCY dk];exact hk⟩
end
abbrev eS (zA:Ya) (x4 x5 x6:Option D) (P:Ye) (F:Ya) (x9 x10 x11 x12 x13 x14 x15 x16 x17 x18:Option D):Sd:=[some (.ref 0),some (.ref 2),some (.int (zA.length:Int)),some (mD zA),x4,x5,x6,some (tI P),some (mD F),x9,x10,x11,x12,x13,x14,x15,x16,x17,x18]
structure SzT (zA:Ya) (l:Nat) (us:Ya) (T:List (List Int × D)):Prop where
 at':∀ q∈us,zF T q=some (.int (zBp zA l One q:Nat))
 len:T.length<=us.length
 val:∀ q∈T,∃ i,q.2=.int i
theorem zQe {F:Ya} {l:Nat} {us:Ya} {T:List (List Int × D)} (h:SzT F l us T) (g:Ye):SzT F l (us++[g]) (zB3 T g (.int (zBp F l One g:Nat))):=by
 refine ⟨λq hq=>?_,by have:=zEl T g (.int (zBp F l One g:Nat));have:=h.len;simp;omega,λq hq=>?_⟩
 .rw[zB6];by_cases e:g=q
  .subst e;rw[zVd rfl]
  .rw[zVg e];rcases zVo.mp hq with z|z
   .exact h.at' q z
   .rw[zVq]at z;exact absurd z.symm e
 .unfold zB3 at hq;split at hq
  .obtain ⟨r,hr,rfl⟩:=zVf.mp hq;split
   .exact ⟨_,rfl⟩
   .exact h.val r hr
  .rcases zVo.mp hq with z|z
   .exact h.val q z
   .rw[zVq]at z;subst z;exact ⟨_,rfl⟩
theorem zKI {F:Ya} {l:Nat} (hR:F.length<=26):(zb F l One).length<=676:=zVp (by unfold zb;exact zXi _ _) (zB7 hR)
theorem zOa {zA F:Ya} {l:Nat} (fm:IsM F l) (hR:F.length<=26) (hl:l<=12) {A:Mem} {P:Ye} {x4 x5 x6 x10 x11 x12 x13 x14 x15 x16 x17 x18:Option D} :
  OkS (zCM (zv (zP zCG (zD (toD (zC 8)) zG))) (zNO 10 11 12) (zBt (zC 11) (zC 9) (zC 10)) (eS zA x4 x5 x6 P F (some (.ref A.length)) x10 x11 x12 x13 x14 x15 x16 x17 x18) (A++[dT []]))
   λo σ' M'=>o=.nx /\ ∃ x10 x11 x12 T,σ'=eS zA x4 x5 x6 P F (some (.ref A.length)) x10 x11 x12 x13 x14 x15 x16 x17 x18/\M'=A++[dT T]/\SzT F l (zb F l One) T:=by
 have hf:=zKI (l:=l) hR;rw[zA6];refine ⟨_,_,_,zCU (x:=.dat (.tup ((zb F l One).map (zBc F l)))) (zAJ (zo (d:=mD F) rfl) (zHn fm hR hl)) zg,?_⟩;generalize zb F l One=ts at hf;refine zAr (I:=λr σ M'=>∃ x10 x11 x12 us vs T,σ=eS zA x4 x5 x6 P F (some (.ref A.length)) x10 x11 x12 x13 x14 x15 x16 x17 x18/\M'=A++[dT T]/\ts=us++vs/\r=vs.map (zBc F l)/\SzT F l us T) ?_ ?_ _ _ _ ⟨_,_,_,[],ts,[],rfl,rfl,rfl,rfl,⟨(λ_ h=>by cases h),zVU _,λ_ h=>by cases h⟩⟩
 .rintro x r σ M' ⟨x10,x11,x12,us,vs,T,rfl,rfl,huv,hr,sz⟩;cases vs with
  |nil=>cases hr
  |cons g vs=>
   rw[zVh]at hr;obtain ⟨rfl,rfl⟩:=zWS hr;refine ⟨zAU,eS zA x4 x5 x6 P F (some (.ref A.length)) (some (tI g)) (some (.int (zBp F l One g:Nat))) (some (.int (zJM F l One g))) x13 x14 x15 x16 x17 x18,rfl,?_⟩;have hul:us.length<676:=by have:=congrArg List.length huv;simp at this;omega
   refine zNk (n:=A.length) (k:=tI g) (v:=.int (zBp F l One g:Nat)) rfl rfl rfl (zH1 (zw _ _) (by have:=sz.len;omega)) ?_;refine ⟨_,_,_,us++[g],vs,_,rfl,?_,by rw[huv];simp,rfl,zQe sz g⟩;rw[List.set_append_right _ _ (zVU _),Nat.sub_self,List.set_cons_zero]
 .rintro σ M' ⟨x10,x11,x12,us,vs,T,rfl,rfl,huv,hr,sz⟩;have:vs=[]:=by cases vs with|nil=>rfl|cons _ _=>cases hr
  subst this;rw[zV8]at huv;subst huv;exact ⟨zAU,rfl,_,_,_,T,rfl,rfl,sz⟩
theorem zMb {F:Ya} {l:Nat} (fm:IsM F l) (hR:F.length<=26) (hl:l<=12) {zA:Ya} {A:Mem} {P:Ye} {x4 x5 x6 x9 x10 x11 x12 x13 x14 x15 x16 x17 x18:Option D} :
  ∃ T,Lad.Kn T (zC6 F l)/\fB (zDo true) (zM (zi [10] (zv (zP zC1 (zD (toD (zC 8)) zG))) (gN 10) ze (zBL (zD (toD (zC 10)) (zD (toD (fC (.bl true))) zG)))) za) (eS zA x4 x5 x6 P F x9 x10 x11 x12 x13 x14 x15 x16 x17 x18) A=some (.dat (.ref A.length),A++[dT T]):=by
 have hlen:(zC6 F l).length<=676:=zVp (by unfold zC6;exact zXi _ _) (zB7 hR);have ec:=zAd (own:=[10]) (g:=gN 10) (te:=zBL (zD (toD (zC 10)) (zD (toD (fC (.bl true))) zG))) (fi:=zv (zP zC1 (zD (toD (zC 8)) zG))) (σ:=eS zA x4 x5 x6 P F x9 x10 x11 x12 x13 x14 x15 x16 x17 x18) (M:=A) (zC6 F l) tI (λg=>D.tup [tI g,.bl true]) (zDD (zAJ (zo (d:=mD F) rfl) (zPN fm hR hl))) trivial (by omega) λg _=>⟨_,rfl,zIL (zAO (d:=tI g) rfl (zo (d:=.bl true) rfl)) (by simp)⟩;obtain ⟨T,kn,eT⟩:=Lad.zKE (A:=A) (zC6 F l) [] [] ⟨λg=>by simp[zF],by simp,λ_ h=>by cases h⟩ (by simp;omega);rw[List.nil_append]at kn;refine ⟨T,kn,?_⟩;unfold fB zM za;rw[ec];dsimp only;unfold zDo;dsimp only;rw[show zEA true=dT []from rfl,eT]
theorem zO4 {x y:Int} {f:FE} {σ:Sd} {M:Mem} (hf:f σ M=some (.dat (tI [x,y]),M)):zBL (zD (toD (fB (zBP false) (zM f za))) (zD (toD (fB (zBP true) (zM f za))) zG)) σ M=some (.dat (tI (zAS x y)),M):=by
 have h:∀ b,fB (zBP b) (zM f za) σ M=some (.dat (.int (zBR b x [y])),M):=λb=>by
  unfold fB zM za;rw[hf];rfl
 refine (zIL (zAO (h false) (zo (h true))) (by simp)).trans ?_;unfold zAS tI;have e1:zBR false x [y]=if y<x then y else x:=by
  rfl
 have e2:zBR true x [y]=if y>x then y else x:=by
  rfl
 rw[e1,e2];rfl
theorem zTU {f g h:FE} {σ:Sd} {M:Mem} {n:Nat} {T:List (List Int × D)} {k:Ye} {c:D} (hf:f σ M=some (.dat (.ref n),M)) (hn:M[n]?=some (dT T)) (hg:g σ M=some (.dat (tI k),M)) (hh:h σ M=some (.dat c,M)):zAu f g h σ M=some (.dat ((zF T k).getD c),M):=by
 unfold zAu;rw[zFF hf];dsimp only;rw[hn];dsimp only;rw[zFF hg];dsimp only;rw[zFF hh];dsimp only;rw[dgT hn]
theorem zPU {zA:Ya} {l:Nat} (m:IsM zA l) (hR:zA.length<=26) {P:Ye} {K:Nat} (p:Prt P K) (hP:P.length=zA.length) (kp:Kp zA l P) {M:Mem} {T T2:List (List Int × D)} {j9 j14:Nat} (h9:M[j9]?=some (dT T)) (h14:M[j14]?=some (dT T2)) (sz:SzT (zAe zA P K) l (zb (zAe zA P K) l One) T) (kn:Lad.Kn T2 (zC6 (zAe zA P K) l)) {x4 x5 x6 x10 x11 x12 x15 x16 x17 x18:Option D} :
  OkS (zCM (zv (zC 13)) (zNO 10 11 12) (zV (zh 15 (zBL (zD (toD (fOp kIx (zC 7) (fOp kIx (zC 10) (fC (.int 0))))) (zD (toD (fOp kIx (zC 7) (fOp kIx (zC 10) (fC (.int 1))))) zG))))
  (zV (zh 16 (zBL (zD (toD (fB (zBP false) (zM (zC 15) za))) (zD (toD (fB (zBP true) (zM (zC 15) za))) zG))))
  (sIf (zBO (tst (fOp kNe (fOp kIx (zC 15) (fC (.int 0))) (fOp kIx (zC 15) (fC (.int 1))))) (zIg (tst (fOp (zBF false) (zC 16) (zC 14))) (tst (fOp kGt (zAu (zC 9) (zC 16) (fOp zAP (zC 11) (fC (.int 1)))) (zC 11))))) (zAY (fC (.bl false))) zBu))) (eS zA x4 x5 x6 P (zAe zA P K) (some (.ref j9)) x10 x11 x12 (some (.tup ((zb zA l One).map (zBc zA l)))) (some (.ref j14)) x15 x16 x17 x18) M)
   λo σ' M'=>o=.nx/\M'=M /\ ∃ x10 x11 x12 x15 x16,σ'=eS zA x4 x5 x6 P (zAe zA P K) (some (.ref j9)) x10 x11 x12 (some (.tup ((zb zA l One).map (zBc zA l)))) (some (.ref j14)) x15 x16 x17 x18:=by
 rw[zA6];refine ⟨_,_,_,zCU (x:=.dat (.tup ((zb zA l One).map (zBc zA l)))) rfl zg,?_⟩;refine zAr (I:=λr σ M'=>M'=M /\ ∃ x10 x11 x12 x15 x16 vs,σ=eS zA x4 x5 x6 P (zAe zA P K) (some (.ref j9)) x10 x11 x12 (some (.tup ((zb zA l One).map (zBc zA l)))) (some (.ref j14)) x15 x16 x17 x18/\r=vs.map (zBc zA l) /\ ∀ q∈vs,q∈zb zA l One) ?_ ?_ _ _ _ ⟨rfl,_,_,_,_,_,zb zA l One,rfl,rfl,λ_ h=>h⟩
 .rintro x r σ M' ⟨rfl,x10,x11,x12,x15,x16,vs,rfl,hr,hv⟩;cases vs with
  |nil=>cases hr
  |cons g vs=>
   rw[zVh]at hr;obtain ⟨rfl,rfl⟩:=zWS hr;obtain ⟨hpp,n,hn⟩:=zAz.mp (hv g (by simp));obtain ⟨a,b,rfl,ha,hb,hlt⟩:=zAh.mp hpp;have ha:=zAB.mp ha;have hb:=zAB.mp hb;have hd:=zCY hn;generalize hT:(zb zA l One).map (zBc zA l)=TT;refine ⟨zAU,eS zA x4 x5 x6 P (zAe zA P K) (some (.ref j9)) (some (tI [a,b])) (some (.int (zBp zA l One [a,b]:Nat))) (some (.int (zJM zA l One [a,b]))) (some (.tup TT)) (some (.ref j14)) x15 x16 x17 x18,rfl,?_⟩;have eP:∀ {v:Int} {f:FE} {σ:Sd},0<=v/\v<(zA.length:Int)->zC 7 σ M'=some (.dat (tI P),M')->f σ M'=some (.dat (.int v),M')->fOp kIx (zC 7) f σ M'=some (.dat (.int (pg P v)),M'):=λhv h7 hf=>zN (x:=.dat (tI P)) (y:=.dat (.int _)) h7 hf (zA3 zg (zC7 hv.1 (by rw[hP];exact hv.2)));have e0:∀ {k:Nat} {i:Int} {x y:Int} {σ:Sd},zC k σ M'=some (.dat (tI [x,y]),M')->fOp kIx (zC k) (fC (.int 0)) σ M'=some (.dat (.int x),M'):=λh=>zN (x:=.dat (tI [_,_])) (y:=.dat (.int 0)) h rfl (zA3 zg rfl);have e1:∀ {k:Nat} {i:Int} {x y:Int} {σ:Sd},zC k σ M'=some (.dat (tI [x,y]),M')->fOp kIx (zC k) (fC (.int 1)) σ M'=some (.dat (.int y),M'):=λh=>zN (x:=.dat (tI [_,_])) (y:=.dat (.int 1)) h rfl (zA3 zg rfl);refine zBv (d:=tI [pg P a,pg P b]) (zIL (zAO (eP ha rfl (e0 (i:=0) rfl)) (zo (eP hb rfl (e1 (i:=0) rfl)))) (by simp)) ?_;simp only[List.set_cons_succ,List.set_cons_zero];refine zBv (zO4 (x:=pg P a) (y:=pg P b) rfl) ?_;simp only[List.set_cons_succ,List.set_cons_zero];have en:∀ {σ:Sd},zC 15 σ M'=some (.dat (tI [pg P a,pg P b]),M')->tst (fOp kNe (fOp kIx (zC 15) (fC (.int 0))) (fOp kIx (zC 15) (fC (.int 1)))) σ M'=some (!decide (pg P a=pg P b),M'):=λh=>zAj (zN (e0 (i:=0) h) (e1 (i:=0) h) (zY (zTP.mpr ⟨by simp,rfl⟩)));have fin:∀ σ2,(∃ x10 x11 x12 x15 x16,σ2=eS zA x4 x5 x6 P (zAe zA P K) (some (.ref j9)) x10 x11 x12 (some (.tup TT)) (some (.ref j14)) x15 x16 x17 x18)->M'=M' /\ ∃ (x10 x11 x12 x15 x16:Option D) (us:Ya),σ2=eS zA x4 x5 x6 P (zAe zA P K) (some (.ref j9)) x10 x11 x12 (some (.tup TT)) (some (.ref j14)) x15 x16 x17 x18/\vs.map (zBc zA l)=us.map (zBc zA l) /\ ∀ q∈us,q∈zb zA l One:=λσ2 ⟨x10,x11,x12,x15,x16,e⟩=>⟨rfl,x10,x11,x12,x15,x16,vs,e,rfl,λq hq=>hv q (by simp[hq])⟩;by_cases hq:pg P a=pg P b
   .exact zGj (zLv (by rw[en rfl,zWW hq];rfl)) (fin _ ⟨_,_,_,_,_,rfl⟩)
   .obtain ⟨h1,h2⟩:=zMx m p hP kp ha hb hlt hn hq;have hna:zAS (pg P a) (pg P b)∉zC6 (zAe zA P K) l:=λz=>by
     unfold zC6 at z;have:=(zWZ.mp z).2;simp only[zWb]at this;exact this h1
    have hs:=sz.at' _ h1;generalize zAS (pg P a) (pg P b)=Q at h1 h2 hna hs;refine zGj (zMK (k:=false) (by rw[en rfl,zVx hq];rfl) (zSy (zAj (zN (x:=.dat (tI Q)) (y:=.dat (.ref j14)) rfl rfl ((zK9 h14).trans (by rw[kn.at',zVx hna];rfl)))) (zAj (zN (x:=.dat (.int (zBp (zAe zA P K) l One Q:Nat))) (y:=.dat (.int (zBp zA l One [a,b]:Nat))) ((zTU (n:=j9) (k:=Q) (c:=.int ((zBp zA l One [a,b]:Nat)+1)) rfl h9 rfl (zN (x:=.dat (.int (zBp zA l One [a,b]:Nat))) (y:=.dat (.int 1)) rfl rfl rfl)).trans (by rw[hs];rfl)) rfl (zY (zVI.mpr ⟨?_,rfl⟩)))))) (fin _ ⟨_,_,_,_,_,rfl⟩);rw[hd];congr 2;rw[zVx (by omega)]
 .rintro σ M' ⟨rfl,x10,x11,x12,x15,x16,vs,rfl,hr,hv⟩;exact ⟨zAU,rfl,rfl,_,_,_,_,_,rfl⟩
theorem zO7 {zA:Ya} {l:Nat} (m:IsM zA l) (hR:zA.length<=26) (hl:l<=12) {P:Ye} {K:Nat} (p:Prt P K) (hP:P.length=zA.length) (kp:Kp zA l P) {M:Mem} (g:Gen M 2 1) {x4 x5 x6 x9 x10 x11 x12 x14 x15 x16 x17 x18:Option D} :
  OkS (zCM (zy (zD (toD (fB zFJ (zM (fC (.int 3)) (zM (fB zBM (zM (zC 13) za)) za)))) zG)) (gN 17) (zV (zh 10 (fOp kIx (fOp kIx (zC 13) (zP zU (zD (toD (zC 1)) (zD (toD (fB zBM (zM (zC 13) za))) zG)))) (fC (.int 0))))
  (zV (zh 18 (zP zBa (zD (toD (zC 3)) (zD (toD (fOp kIx (zC 10) (fC (.int 0)))) (zD (toD (fOp kIx (zC 10) (fC (.int 1)))) zG)))))
  (sIf (tst (fOp kNe (zP zET (zD (toD (zC 8)) (zD (toD (fOp kIx (zC 7) (fOp kIx (zC 10) (fC (.int 0))))) (zD (toD (zC 18)) zG)))) (zP zET (zD (toD (zC 8)) (zD (toD (fOp kIx (zC 7) (fOp kIx (zC 10) (fC (.int 1))))) (zD (toD (zC 18)) zG)))))) (zAY (fC (.bl false))) zBu))) (eS zA x4 x5 x6 P (zAe zA P K) x9 x10 x11 x12 (some (.tup ((zb zA l One).map (zBc zA l)))) x14 x15 x16 x17 x18) M)
   λo σ' M'=>o=.nx/\Gen M' 2 1 /\ ∃ x10 x17 x18,σ'=eS zA x4 x5 x6 P (zAe zA P K) x9 x10 x11 x12 (some (.tup ((zb zA l One).map (zBc zA l)))) x14 x15 x16 x17 x18:=by
 have fm:=zLY m p hP;have hf:=zKI (l:=l) hR;have eL:∀ {σ:Sd} {M:Mem},zC 13 σ M=some (.dat (.tup ((zb zA l One).map (zBc zA l))),M)->fB zBM (zM (zC 13) za) σ M=some (.dat (.int ((zb zA l One).length:Int)),M):=λh=>by
  have:=zGT h zg;rw[zVX]at this;exact this
 rw[zA6];have emin:fB zFJ (zM (fC (.int 3)) (zM (fB zBM (zM (zC 13) za)) za)) (eS zA x4 x5 x6 P (zAe zA P K) x9 x10 x11 x12 (some (.tup ((zb zA l One).map (zBc zA l)))) x14 x15 x16 x17 x18) M=some (.dat (.int (if ((zb zA l One).length:Int)<3 then ((zb zA l One).length:Int) else 3)),M):=zLx rfl (eL rfl);refine ⟨_,_,_,zBs emin (by split <;> omega) (by split <;> omega),?_⟩;refine zIv (n:=(if ((zb zA l One).length:Int)<3 then ((zb zA l One).length:Int) else 3).toNat) (I:=λi σ M'=>Gen M' 2 1 /\ ∃ x10 x17 x18,σ=eS zA x4 x5 x6 P (zAe zA P K) x9 x10 x11 x12 (some (.tup ((zb zA l One).map (zBc zA l)))) x14 x15 x16 x17 x18) ?_ ?_ _ _ ⟨g,_,_,_,rfl⟩
 .rintro i σ M' hi ⟨g',x10,x17,x18,rfl⟩;have h0:0<(zb zA l One).length:=by
   rcases Nat.eq_zero_or_pos (zb zA l One).length with z|z
   .rw[z]at hi;simp at hi
   .exact z
  refine ⟨eS zA x4 x5 x6 P (zAe zA P K) x9 x10 x11 x12 (some (.tup ((zb zA l One).map (zBc zA l)))) x14 x15 x16 (some (.int (i:Nat))) x18,rfl,?_⟩;rw[zJ,zW];refine zAH.mpr (zAH.mpr (zt.mpr ⟨_,rfl,?_⟩));refine zAI g' rfl (eL rfl) (by omega) (by omega) λz M2 z0 z1 nx=>?_;have hz:z.toNat<(zb zA l One).length:=by omega
  have hg:=zVw hz;refine zKU (d:=zBc zA l ((zb zA l One)[z.toNat])) zg (zI3 z0 (by rw[zVl,zVS hz];rfl)) ?_;generalize (zb zA l One)[z.toNat]=q at hg;refine zCO.mpr (zKU (d:=tI q) zg at0 ?_);rw[zI,zQ];simp only[List.set_cons_succ,List.set_cons_zero];obtain ⟨hpp,n,hn⟩:=zAz.mp hg;obtain ⟨a,b,rfl,ha,hb,hlt⟩:=zAh.mp hpp;have ha:=zAB.mp ha;have hb:=zAB.mp hb;obtain ⟨w,cw⟩:=zCw (n+1) hn;obtain ⟨hw,hone⟩:=zEh cw;have elw:=(Lad.zL8 hlt w).mp hone;have et:=zKF m hR hl ha.1 ha.2 hb.1 hb.2 (by omega) (M:=M2);rw[zPI hlt,zHY cw]at et;generalize (zb zA l One).map (zBc zA l)=TT;have e0:∀ {σ:Sd},zC 10 σ M2=some (.dat (tI [a,b]),M2)->fOp kIx (zC 10) (fC (.int 0)) σ M2=some (.dat (.int a),M2):=λh=>zN (x:=.dat (tI [_,_])) (y:=.dat (.int 0)) h rfl (zA3 zg rfl);have e1:∀ {σ:Sd},zC 10 σ M2=some (.dat (tI [a,b]),M2)->fOp kIx (zC 10) (fC (.int 1)) σ M2=some (.dat (.int b),M2):=λh=>zN (x:=.dat (tI [_,_])) (y:=.dat (.int 1)) h rfl (zA3 zg rfl);have eP:∀ {v:Int} {f:FE} {σ:Sd},0<=v/\v<(zA.length:Int)->zC 7 σ M2=some (.dat (tI P),M2)->f σ M2=some (.dat (.int v),M2)->fOp kIx (zC 7) f σ M2=some (.dat (.int (pg P v)),M2):=λhv h7 hf=>zN (x:=.dat (tI P)) (y:=.dat (.int _)) h7 hf (zA3 zg (zC7 hv.1 (by rw[hP];exact hv.2)));refine zBv (d:=tI w) (zAJ (zAO (d:=mD zA) rfl (zAO (e0 rfl) (zo (e1 rfl)))) et) ?_;simp only[List.set_cons_succ,List.set_cons_zero];have lf:∀ {v:Int},0<=v/\v<(zA.length:Int)->zET [mD (zAe zA P K),.int (pg P v),tI w] M2=some (.int (pg P (zCs zA v w)),M2):=λ{v} hv=>by
   have ip:=zHS p hP hv;have:=zSf fm (room:=pg P v) (word:=w) (M:=M2) ip.1 (by rw[zC0];exact ip.2) hw;rw[zEX m p hP kp w hv hw]at this;exact this
  refine zGj (zAj (zN (x:=.dat (.int (pg P (zCs zA a w)))) (y:=.dat (.int (pg P (zCs zA b w)))) (zAJ (zAO (d:=mD (zAe zA P K)) rfl (zAO (eP ha rfl (e0 rfl)) (zo (d:=tI w) rfl))) (lf ha)) (zAJ (zAO (d:=mD (zAe zA P K)) rfl (zAO (eP hb rfl (e1 rfl)) (zo (d:=tI w) rfl))) (lf hb)) (by rw[elw];exact zY (zTP.mpr ⟨by simp,rfl⟩)))) ⟨nx.gen,_,_,_,rfl⟩
 .rintro σ M' ⟨g',x10,x17,x18,rfl⟩;exact ⟨rfl,g',_,_,_,rfl⟩
theorem zPg {zA:Ya} {M:Mem} (g:Gen M 2 1) {j:Nat} {ps:Ya} (hj:M[j]?=some (.lst (ps.map tI))) (h0:0<ps.length) (h1:ps.length<=1000) (hj2:j≠2) (hj1:j≠1) {x0 x2 x3 x5 x6 x7 x8 x9 x10 x11 x12 x13 x14 x15 x16 x17 x18:Option D} :
  Ok (fB zAg (zM (zi [6] (zy (zD (toD (fOp zAP (fC (.int 1)) (zP zU (zD (toD (zC 1)) (zD (toD (fC (.int 4))) zG))))) zG)) (gN 6) ze (fOp kIx (zC 4) (zP zU (zD (toD (zC 1)) (zD (toD (fB zBM (zM (zC 4) za))) zG))))) za) [x0,some (.ref 2),x2,x3,some (.ref j),x5,x6,x7,x8,x9,x10,x11,x12,x13,x14,x15,x16,x17,x18] M)
   λx M'=>∃ ds:List (List Int),x=.dat (.tup (ds.map tI))/\(∀ p∈ds,p∈ps)/\ds.length<=4/\Gen M' 2 1:=by
 have hq:Ok (fOp zAP (fC (.int 1)) (zP zU (zD (toD (zC 1)) (zD (toD (fC (.int 4))) zG))) [x0,some (.ref 2),x2,x3,some (.ref j),x5,x6,x7,x8,x9,x10,x11,x12,x13,x14,x15,x16,x17,x18] M) λx M1=>∃ q:Int,x=.dat (.int q)/\1<=q/\q<=4/\Nx M M1 2 1:=by
  refine zAH.mpr (zE (M:=M) (a:=.dat (.int 1)) rfl ?_);refine zAI g rfl rfl (by omega) (by omega) λz M1 z0 z1 nx1=>?_;exact zEK.mpr ⟨1+z,rfl,by omega,by omega,nx1⟩
 obtain ⟨x,M1,e,q,rfl,q0,q1,nx1⟩:=hq;have er:=zGl (zP7 e) (by omega) (by omega);rw[zEf]at er;refine zKc.mpr (zCK.mpr (zDs.mpr ⟨_,_,_,er,by rw[zBe];exact zm (by omega),?_⟩));refine Ok.mono (zLS (n:=q.toNat) (I:=λk acc M2=>(∃ ds:List (List Int),acc=ds.map tI/\ds.length=k /\ ∀ p∈ds,p∈ps)/\Nx M M2 2 1) ?_ ⟨⟨[],rfl,rfl,λ_ h=>by cases h⟩,nx1⟩) ?_
 .rintro k acc M2 hk ⟨⟨ds,rfl,hdl,hd⟩,nx⟩;have ej:M2[j]?=some (.lst (ps.map tI)):=(nx.fr j hj2 hj1).trans hj;refine ⟨_,rfl,?_⟩;refine zAH.mpr (zt.mpr ⟨_,rfl,?_⟩);have eL:fB zBM (zM (zC 4) za) [x0,some (.ref 2),x2,x3,some (.ref j),x5,some (.int (k:Nat)),x7,x8,x9,x10,x11,x12,x13,x14,x15,x16,x17,x18] M2=some (.dat (.int (ps.length:Int)),M2):=by
   have:=zGT (f:=zC 4) (σ:=[x0,some (.ref 2),x2,x3,some (.ref j),x5,some (.int (k:Nat)),x7,x8,x9,x10,x11,x12,x13,x14,x15,x16,x17,x18]) (M:=M2) (x:=.dat (.ref j)) rfl (zAA ej);rw[zVX]at this;exact this
  refine zAI nx.gen rfl eL (by omega) (by omega) λz M3 z0 z1 nx3=>?_;have ej3:=(nx3.fr j hj2 hj1).trans ej;have hz:z.toNat<ps.length:=by omega
  refine zKU (d:=tI (ps[z.toNat])) (zAA ej3) (zI3 z0 (by rw[zVl,zVS hz];rfl)) ?_;rw[zI];refine ⟨⟨ds++[ps[z.toNat]],by simp,by simp[hdl],λp hp=>?_⟩,nx.trans nx3⟩;rcases zVo.mp hp with w|w
  .exact hd p w
  .rw[zVq]at w;subst w;exact zVw hz
 .rintro ys M2 ⟨⟨ds,rfl,hdl,hd⟩,nx⟩;exact zCt.mpr ((zFZ zCh).mpr ⟨ds,rfl,hd,by omega,nx.gen⟩)
theorem zSO {n:Nat} {T:List (List Int × D)} (h:∀ q∈T,∃ i,q.2=.int i):MO.und n (dT T)=true:=by
 show ((zE0 T).all λp=>D.und n p.1&&D.und n p.2)=true;rw[zVz];intro p hp;obtain ⟨r,hr,rfl⟩:=zVf.mp hp;obtain ⟨i,e⟩:=h r hr;dsimp only;rw[e];simp[tI,zAs,D.und,zx]
set_option maxHeartbeats 4000000 in
theorem zOT (ns:Ye) (h:ns.length<=63):∃ M',zFH [.ref 0] [.fro (ns.map D.int)]=some (.bl true,M'):=by
 suffices hh:Ok (zFH [.ref 0] [.fro (ns.map D.int)]) λd _=>d=.bl true by
  obtain ⟨d,M',e,rfl⟩:=hh;exact ⟨M',e⟩
 unfold zFH;rw[zAK];unfold zP2;show OkS (zV _ _ (some (.ref 0)::none::none::none::[none,none,none,none,none,none,none,none,none,none,none,none,none,none,none]) _) _;refine zOt (c:=2) (r:=25) (by decide) (by decide) (by decide) h λzA l M m hc hr hR hl g e0=>?_;have hR':zA.length<=26:=by omega
 have hl':l<=12:=by omega
 obtain ⟨gn,gk⟩:=g.lt;have elr:zFL (zC 2) [some (.ref 0),some (.ref 2),some (.int (zA.length:Int)),some (mD zA),none,none,none,none,none,none,none,none,none,none,none,none,none,none,none] M=some (.fl ((zK zA).map D.int),M):=by
  unfold zFL;rw[show zC 2 [some (.ref 0),some (.ref 2),some (.int (zA.length:Int)),some (mD zA),none,none,none,none,none,none,none,none,none,none,none,none,none,none,none] M=some (.dat (.int (zA.length:Int)),M)from rfl];dsimp only;rw[zVd ⟨by omega,by omega⟩];unfold upD zK;rw[zVm,show (zA.length:Int).toNat=zA.length by omega];rfl
 have hrl:(zK zA).length=zA.length:=by unfold zK;simp
 have hpw:(zK zA).Pairwise (· < ·):=by
  unfold zK;rw[List.pairwise_map];exact List.Pairwise.imp (λh=>by omega) List.pairwise_lt_range
 rw[zJ,zW];refine zBi.mpr (zE (aC' (zN0 elr) rfl) ?_);have nw1:=g.lst ((zK zA).map D.int) (zx _ _);refine Ok.mono (zIY (zw _ _) hpw (by omega)) ?_;rintro d M2 ⟨rfl,us,rfl,hus⟩;have g2:Gen (M++[.lst ((zK zA).map D.int)] ++ .lst ((zc (zK zA)).map tI)::us) 2 1:=nw1.gen.app λu hu=>by
  rcases zVa.mp hu with z|z
  .subst z;exact zFa _ _
  .exact zHi (zWA _) (hus u z)
 rw[zI,zQ,zJ,zW];simp only[List.set_cons_succ,List.set_cons_zero];have h0:0<(zc (zK zA)).length:=zYa (zAh.mpr ⟨0,1,rfl,zAB.mpr (by omega),zAB.mpr (by omega),by omega⟩);have hj2:(M++[MO.lst ((zK zA).map D.int)]).length≠2:=by rw[zVe,List.length_singleton];omega
 have hj1:(M++[MO.lst ((zK zA).map D.int)]).length≠1:=by rw[zVe,List.length_singleton];omega
 refine Ok.mono (zPg (zA:=zA) g2 (j:=(M++[MO.lst ((zK zA).map D.int)]).length) (ps:=zc (zK zA)) (by simp) h0 (zVp (zB7 hR') (by decide)) hj2 hj1) ?_;generalize (M++[MO.lst ((zK zA).map D.int)]).length=J;rintro x M3 ⟨ds,rfl,hds,hdl,g3⟩;rw[zI,zQ];have hin:∀ p∈ds,Lad.InR zA.length p:=λp hp=>by
  obtain ⟨a,b,rfl,ha,hb,_⟩:=zAh.mp (hds p hp);exact ⟨a,b,rfl,zAB.mp ha,zAB.mp hb⟩
 obtain ⟨d,M3',ek,rfl,c,rfl,hcl⟩:=Lad.zKW m hR' hl' hin (by omega) (M:=M3);obtain ⟨K,p,hP,kp⟩:=Lad.zPs m hcl.1 (Lad.zTO m hcl);have hK:K<=zA.length:=by rw[<-Lad.zQ3 p,<-hP];exact zBU _
 have hsame:∀ q∈ds,∃ a b,q=[a,b]/\(0<=a/\a<(zA.length:Int))/\(0<=b/\b<(zA.length:Int))/\pg (zCi c) a=pg (zCi c) b:=λq hq=>by
  obtain ⟨a,b,rfl,ha,hb⟩:=hin q hq;have hc':=hcl.1;exact ⟨a,b,rfl,ha,hb,(Lad.zKo (by rw[hc'];exact ha) (by rw[hc'];exact hb)).mpr ((hcl.2 a b ha hb).mpr (.base (.base hq)))⟩
 have fm:=zLY m p hP;have hFl:(zAe zA (zCi c) K).length<=26:=by rw[zC0];omega
 generalize zCi c=P at ek p hP kp hsame fm hFl;refine zBv (zAJ (zAO (d:=mD zA) rfl (zo (d:=.tup (ds.map tI)) rfl)) ek) ?_;simp only[List.set_cons_succ,List.set_cons_zero];refine zBv (zAJ (zAO (d:=mD zA) rfl (zo (d:=tI P) rfl)) (Lad.zMi m hR' hl' p (by omega) hP)) ?_;simp only[List.set_cons_succ,List.set_cons_zero];rw[zJ,zW];refine zE (M:=M3'++[dT []]) (a:=.dat (.ref M3'.length)) rfl ?_;rw[zI,zQ,zJ];simp only[List.set_cons_succ,List.set_cons_zero];refine OkS.mono (zOa (zA:=zA) fm hFl hl') ?_;rintro o σ' M4 ⟨rfl,x10,x11,x12,T,rfl,rfl,sz⟩;rw[zQ];refine zBv (zAJ (zo (d:=mD zA) rfl) (zHn m hR' hl')) ?_;simp only[List.set_cons_succ,List.set_cons_zero];obtain ⟨T2,kn,eT2⟩:=zMb fm hFl hl' (zA:=zA) (A:=M3'++[dT T]) (P:=P) (x4:=some (.ref J)) (x5:=some (.tup (ds.map tI))) (x6:=none) (x9:=some (.ref M3'.length)) (x10:=x10) (x11:=x11) (x12:=x12) (x13:=some (.tup ((zb zA l One).map (zBc zA l)))) (x14:=none) (x15:=none) (x16:=none) (x17:=none) (x18:=none);rw[zJ,zW];refine zE eT2 ?_;rw[zI,zQ,zJ];simp only[List.set_cons_succ,List.set_cons_zero];have h9:(M3'++[dT T]++[dT T2])[M3'.length]?=some (dT T):=by rw[zVV (by simp)];exact zw _ _
 refine OkS.mono (zPU m hR' p hP kp h9 (zw _ _) sz kn) ?_;rintro o σ' M6 ⟨rfl,rfl,y10,y11,y12,y15,y16,rfl⟩;have g6:Gen (M3'++[dT T]++[dT T2]) 2 1:=by
  rw[zWU];refine g3.app λu hu=>?_;rcases zVa.mp hu with z|z
  .subst z;exact zSO sz.val
  .have z:u=dT T2:=zVq.mp z;subst z;exact Lad.zSV kn.val
 rw[zQ,zJ];refine OkS.mono (zO7 m hR' hl' p hP kp g6) ?_;rintro o σ' M7 ⟨rfl,g7,z10,z17,z18,rfl⟩;rw[zQ];have ec:=zAd (own:=[10]) (g:=gN 10) (te:=fOp kEq (fOp kIx (zC 7) (fOp kIx (zC 10) (fC (.int 0)))) (fOp kIx (zC 7) (fOp kIx (zC 10) (fC (.int 1))))) (fi:=zv (zC 5)) (σ:=eS zA (some (.ref J)) (some (.tup (ds.map tI))) none P (zAe zA P K) (some (.ref M3'.length)) z10 y11 y12 (some (.tup ((zb zA l One).map (zBc zA l)))) (some (.ref (M3'++[dT T]).length)) y15 y16 z17 z18) (M:=M7) ds tI (λ_=>D.bl true) (zDD rfl) trivial (by omega) λq hq=>by
  obtain ⟨a,b,rfl,ha,hb,e⟩:=hsame q hq;refine ⟨eS zA (some (.ref J)) (some (.tup (ds.map tI))) none P (zAe zA P K) (some (.ref M3'.length)) (some (tI [a,b])) y11 y12 (some (.tup ((zb zA l One).map (zBc zA l)))) (some (.ref (M3'++[dT T]).length)) y15 y16 z17 z18,rfl,?_⟩;refine zN (x:=.dat (.int (pg P a))) (y:=.dat (.int (pg P b))) (zN (x:=.dat (tI P)) (y:=.dat (.int a)) rfl (zN (x:=.dat (tI [a,b])) (y:=.dat (.int 0)) rfl rfl (zA3 zg rfl)) (zA3 zg (zC7 ha.1 (by rw[hP];exact ha.2)))) (zN (x:=.dat (tI P)) (y:=.dat (.int b)) rfl (zN (x:=.dat (tI [a,b])) (y:=.dat (.int 1)) rfl rfl (zA3 zg rfl)) (zA3 zg (zC7 hb.1 (by rw[hP];exact hb.2)))) (zY (zJP.mpr ⟨by rw[zWW e],rfl⟩))
 rw[show ds.map (λ_=>D.bl true)=(List.replicate ds.length true).map D.bl by simp[List.map_const']]at ec;refine zBI (zR5 ec) ?_;simp
end Lac
set_option maxHeartbeats 4000000
namespace Lac
open PySem PySem.Spec PyProof.Rows L2 L3 Law
open Lad (zBY zDu zCC zEc zAi zB0 zBA zCb)
-- the text by places
def top (i:Nat):Stmt:=PySem.Challenge.pw_bringhome_k86_whole_pairs_folded_togethe.main.body.getD i (.Pass ⟨0,0,0,0⟩)
abbrev zDk:Stmt:=top 1
abbrev zPf:Stmt:=top 3
abbrev zFC:Stmt:=top 4
abbrev zEF:Stmt:=top 6
abbrev zDf:Stmt:=top 7
abbrev zCz:Stmt:=top 8
abbrev zEt:Stmt:=top 9
abbrev zCB:Stmt:=top 10
abbrev zEI:Stmt:=top 11
abbrev zIj:Stmt:=top 12
abbrev zEq:Stmt:=top 13
abbrev zD9:Stmt:=top 14
abbrev zGd:Stmt:=top 15
abbrev zIM:Stmt:=top 16
abbrev zDE:Stmt:=top 18
abbrev zF3:Stmt:=top 19
abbrev zDT:Stmt:=top 20
abbrev zE3:Stmt:=top 21
abbrev zDZ:Stmt:=top 23
abbrev zEG:Stmt:=top 24
abbrev zDU:Stmt:=top 25
abbrev zC5:Stmt:=top 26
abbrev zCj:Stmt:=top 27
abbrev zDR:Stmt:=top 28
abbrev zOX:Stmt:=top 29
structure Txt (K:Yb) (mg:Yh) where
  d_all_rooms:Df K mg "all_rooms" zDk ["machine"]
  d_led:Df K mg "led" zPf ["machine", "room", "word"]
  d_stepped:Df K mg "stepped" zFC ["machine", "rooms", "letter"]
  d_pairs_of:Df K mg "pairs_of" zEF ["rooms"]
  d_ways_back:Df K mg "ways_back" zDf ["machine"]
  d_lengths_to:Df K mg "lengths_to" zCz ["machine", "goals"]
  d_lengths:Df K mg "lengths" zEt ["machine"]
  d_first_letter:Df K mg "first_letter" zCB ["machine", "pair", "found"]
  d_rungs_to:Df K mg "rungs_to" zEI ["machine", "found"]
  d_rungs:Df K mg "rungs" zIj ["machine"]
  d_climbed:Df K mg "climbed" zEq ["machine", "steps", "pair"]
  d_together:Df K mg "together" zD9 ["machine", "one", "other"]
  d_ladder:Df K mg "ladder" zGd ["machine"]
  d_apart:Df K mg "apart" zIM ["machine"]
  d_class_rows:Df K mg "class_rows" zDE ["machine", "parting"]
  d_folded:Df K mg "folded" zF3 ["machine", "parting"]
  d_parted_by:Df K mg "parted_by" zDT ["marks"]
  d_kept_by:Df K mg "kept_by" zE3 ["machine", "pairs"]
  d_law_begin:Df K mg "_law_begin" zDZ ["_law_script"]
  d_law_next:Df K mg "_law_next" zEG ["_law_state", "_law_many"]
  d_law_order:Df K mg "_law_order" zDU ["_law_state", "_law_many"]
  d_law_column:Df K mg "_law_column" zC5 ["_law_state", "_law_family", "_law_rooms", "_law_letter"]
  d_law_machine:Df K mg "_law_machine" zCj ["_law_state", "_law_rooms", "_law_letters"]
  d_law_pairs:Df K mg "_law_pairs" zDR ["_law_rooms"]
  d_law:Df K mg "law" zOX ["_law_script"]
  z_tuple:mg "tuple" = none
  z_range:mg "range" = none
  z_len:mg "len" = none
  z_sorted:mg "sorted" = none
  z_min:mg "min" = none
  z_enumerate:mg "enumerate" = none
  z_max:mg "max" = none
  z_list:mg "list" = none
  z_zip:mg "zip" = none
  z_abs:mg "abs" = none
  z_int:mg "int" = none
  z_dict:mg "dict" = none
  z_all:mg "all" = none
section
variable {P:Ym} {w:Yo} {K:Yb} {mg:Yh} {base:Heap}
theorem zBE {X:Cx} {scope sc:Y0} {own:Yj} {N ps:Yk} (_:FnScope N ps sc) (hk:scope.kind=.function) (hs:X.env.scope=sc) (hN:X.N=N) (h1:zER sc scope=true) (h2:zFY N scope own=true):CompIn X scope own:=zH2 hk hs hN h1 h2
theorem zMp {X:Cx} {scope sc sd:Y0} {own:Yj} {N ps:Yk} (_:FnScope N ps sd) (hk:scope.kind=.function) (hs:X.env.scope=sc) (hN:X.N=N) (h1:zER sc scope=true) (h2:zFY N scope own=true):CompIn X scope own:=zH2 hk hs hN h1 h2
set_option hygiene false in
local macro_rules | `(tactic| decreasing_trivial)=> `(tactic| repeat' first
  |refine zT2 (pv _)
  |refine zBx ?_
  |refine zMH ?_ ?_ (zX rfl)
  |refine zNK ?_
  |refine zPB
  |refine zTw
  |refine zRY ?_ ?_
  |refine zPY
  |refine zSQ ?_
  |refine zT6 sc.nd rfl
  |refine zU5 ?_ ?_
  |refine zUq (by first|exact zJ9 T|exact zJt T|exact zIR T|exact zKd T|exact zKe T|exact zPa T|exact zNf T|exact zR2 T|exact zGq T|exact zIC T|exact zId T|exact zFP T|exact zIm T|exact zGu T|exact zGo T|exact zJ8 T|exact zKZ T|exact zH8 T|exact zGc T|exact zIy T|exact zKj T|exact zNY T|exact zOG T|exact zJX T) (hr.mono (by omega)) rfl ?_ ?_ (by decide) (zX rfl) (zEY rfl)
  |refine zQa ?_ ?_ (zX rfl)
  |refine zSB
  |refine zUV ?_
  |refine zSM
  |refine zSb ?_
  |refine zH6 (zA9 (by decide)) (zBE sc rfl rfl rfl (by decide +kernel) (by decide +kernel)) rfl ?_ ⟨λ_ _ _ _ _=>?_,λ_ _ _ _ _=>?_,λ_ _ _ _ _=>?_⟩
  |refine zS7 ?_ ?_
  |refine zMo rfl T.z_range ?_ ?_ (zGH rfl)
  |refine zPt ?_ ?_
  |refine zSP
  |refine zUp ?_ ?_ ?_
  |refine zTc hr.units0 ?_ ?_
  |refine zTh ?_
  |refine zTi rfl T.z_len ?_ (zX rfl) rfl
  |refine zRu zPp PassesOwn.never rfl ?_ ?_ ?_
  |refine zRH rfl T.z_tuple ?_ (zX rfl) rfl
  |refine zUZ ?_
  |refine zTr ?_ ?_
  |refine zSD (zGU hr) ?_ ?_
  |refine zSA ?_
  |refine zQq
  |refine zTS rfl ?_
  |refine zRy ?_
  |refine zTd hr.units0 ?_ ?_
  |refine zRK ?_
  |refine zMN (zGU hr) ?_ ?_
  |refine zTC (zGU hr) ?_ ?_ ?_
  |refine zRd _ PassesOwn.never ?_ ?_
  |refine zMr sc.nd rfl (by first|exact Or.inl rfl|exact Or.inr rfl) (by first|exact .inl rfl|exact .inr rfl) rfl (zA9 (by decide)) (zBE sc rfl rfl rfl (by decide +kernel) (by decide +kernel)) rfl ?_ ⟨λ_ _ _ _ _=>?_,λ_ _ _ _ _=>?_,λ_ _ _ _ _=>?_⟩
  |refine zSp (zGU hr) ?_ ?_
  |refine zUO ?_ ?_
  |refine zQz
  |refine zRG ?_
  |refine zQ6 ?_ ?_ ?_
  |refine zTf ?_ ?_
  |refine zUN ?_ ?_
  |refine zOK ?_ ?_ ?_
  |refine zOr ?_ ?_
  |refine zRR (zGU hr) ?_ ?_ ?_ ⟨rfl,rfl,rfl,rfl⟩
  |refine zUu hr.units0 ?_ ?_
  |refine zVA
  |refine zH6 (zA9 (by decide)) (zMp sc rfl rfl rfl (by rfl) (by decide +kernel)) rfl ?_ ⟨λ_ _ _ _ _=>?_,λ_ _ _ _ _=>?_,λ_ _ _ _ _=>?_⟩
  |refine zUS ?_ ?_
  |refine zUC rfl T.z_abs ?_ (zX rfl) rfl
  |refine zP6 ?_ ?_
  |refine zQo
  |refine zTV rfl rfl T.z_min ?_ (zX rfl) rfl
  |refine zS9 rfl rfl T.z_max ?_ (zX rfl) rfl
  |refine zTY rfl rfl T.z_list rfl T.z_range ?_ (zX rfl) rfl (zX rfl) rfl
  |refine zQs ?_
  |refine zUb (zNp (K:=K)) ?_ ?_
  |refine zQr ?_ ?_ ?_
  |refine zTl ?_ ?_
  |refine zSo rfl T.z_int ?_ (zX rfl) rfl
  |refine zS8 ?_
  |refine zSj rfl rfl T.z_min ?_ (zX rfl) (zEY rfl)
  |refine zRu (zRU (K:=K)) PassesOwn.never rfl ?_ ?_ ?_
  |refine zSI rfl rfl T.z_tuple rfl T.z_range ?_ (zX rfl) rfl (zX rfl) rfl
  |refine zSv (zA9 (by decide)) (zBE sc rfl rfl rfl (by decide +kernel) (by decide +kernel)) rfl ?_ ⟨λ_ _ _ _ _=>?_,λ_ _ _ _ _=>?_,λ_ _ _ _ _=>?_⟩
  |refine zQb rfl rfl T.z_sorted ?_ (zX rfl) rfl
  |refine zUD ?_ ?_
  |refine zQ9 (by decide) (zA9 (by decide)) (zA9 (by decide)) (zBE sc rfl rfl rfl (by decide +kernel) (by decide +kernel)) rfl ?_ ⟨λ_ _ _ _ _=>?_,λ_ _ _ _ _=>?_,λ_ _ _ _ _=>?_,λ_ _ _ _ _=>?_,λ_ _ _ _ _=>?_,λ_ _ _ _ _=>?_,λ_ _ _ _ _ _=>rfl⟩
  |refine zQO
  |refine zTA rfl T.z_len ?_ (zX rfl) rfl
  |refine zUn ?_ ?_
  |refine zTj ?_ ?_
  |refine zRa rfl T.z_enumerate ?_ (zX rfl) rfl
  |refine zH6 (zMf (K:=K) (by decide) (by decide)) (zBE sc rfl rfl rfl (by decide +kernel) (by decide +kernel)) rfl ?_ ⟨λ_ _ _ _ _=>?_,λ_ _ _ _ _=>?_,λ_ _ _ _ _=>?_⟩
  |refine zRT ?_ ?_
  |refine zTD rfl T.z_list ?_ (zX rfl) rfl
  |refine zTF ?_
  |refine zNH rfl rfl T.z_list rfl T.z_zip ?_ (zOq rfl rfl) (zGH rfl) (zX rfl) rfl
  |refine zOu ?_ ?_
  |refine zKl sc.nd rfl (by first|exact Or.inl rfl|exact Or.inr rfl) (by first|exact .inl rfl|exact .inr rfl) rfl (zGU hr) (zA9 (by decide)) (zBE sc rfl rfl rfl (by decide +kernel) (by decide +kernel)) rfl ?_ ⟨λ_ _ _ _ _=>?_,λ_ _ _ _ _=>?_,λ_ _ _ _ _=>?_⟩ λ_ _ _ _ _=>?_
  |refine zRe (zGU hr) (zA9 (by decide)) (zBE sc rfl rfl rfl (by decide +kernel) (by decide +kernel)) rfl ?_ ⟨λ_ _ _ _ _=>?_,λ_ _ _ _ _=>?_,λ_ _ _ _ _=>?_⟩ λ_ _ _ _ _=>?_
  |refine zTJ ?_ ?_
  |refine zSE rfl rfl T.z_max ?_ (zX rfl) (zEY rfl)
  |refine zTu
  |refine zPq ?_
  |refine zH6 (zNJ (K:=K) (by decide) (by decide) (by decide)) (zBE sc rfl rfl rfl (by decide +kernel) (by decide +kernel)) rfl ?_ ⟨λ_ _ _ _ _=>?_,λ_ _ _ _ _=>?_,λ_ _ _ _ _=>?_⟩
  |refine zO1 true (zT9 4 (by decide) hr) rfl rfl T.z_dict ?_ (zX rfl) rfl
  |refine zT4 rfl rfl T.z_all ?_ (zX rfl) rfl
  |refine zVF sc.nd rfl ?_
  |refine zUT (zTM ?_ ?_)
  |refine zUT (zTn ?_ ?_))
abbrev zJl:List Str:=["machine"]
theorem zIr:FnScope zJl ["machine"] (zR zDk):=⟨rfl,rfl,rfl,by decide +kernel,rfl,by decide +kernel,by decide +kernel⟩
theorem zIR (T:Txt K mg):Od P w base 1 T.d_all_rooms zAV:=by
  unfold zAV;have sc:=zIr;exact zAL (n:=1) T.d_all_rooms.F sc rfl (λcdv A outer s H E hr=>by
    unfold zDe;decreasing_trivial)
abbrev zUg:List Str:=["machine", "room", "word", "here", "letter"]
theorem zTH:FnScope zUg ["machine", "room", "word"] (zR zPf):=⟨rfl,rfl,rfl,by decide +kernel,rfl,by decide +kernel,by decide +kernel⟩
theorem zR2 (T:Txt K mg):Od P w base 1 T.d_led zET:=by
  unfold zET;have sc:=zTH;exact zDC (zAL (n:=3) T.d_led.F sc rfl (λcdv A outer s H E hr=>by
    unfold zOA;decreasing_trivial))
abbrev zMV:List Str:=["machine", "rooms", "letter", "room"]
theorem zLh:FnScope zMV ["machine", "rooms", "letter"] (zR zFC):=⟨rfl,rfl,rfl,by decide +kernel,rfl,by decide +kernel,by decide +kernel⟩
theorem zKd (T:Txt K mg):Od P w base 1 T.d_stepped zAy:=by
  unfold zAy;have sc:=zLh;exact zDC (zAL (n:=3) T.d_stepped.F sc rfl (λcdv A outer s H E hr=>by
    unfold zEr;decreasing_trivial))
abbrev zKz:List Str:=["rooms", "one", "other"]
theorem zJG:FnScope zKz ["rooms"] (zR zEF):=⟨rfl,rfl,rfl,by decide +kernel,rfl,by decide +kernel,by decide +kernel⟩
theorem zJt (T:Txt K mg):Od P w base 1 T.d_pairs_of zAX:=by
  unfold zAX;have sc:=zJG;exact zAL (n:=1) T.d_pairs_of.F sc rfl (λcdv A outer s H E hr=>by
    unfold zEN;decreasing_trivial)
abbrev zIn:List Str:=["machine", "parting", "goal", "row"]
theorem zGp:FnScope zIn ["machine", "parting"] (zR zDE):=⟨rfl,rfl,rfl,by decide +kernel,rfl,by decide +kernel,by decide +kernel⟩
theorem zGq (T:Txt K mg):Od P w base 1 T.d_class_rows zAi:=by
  unfold zAi;have sc:=zGp;exact zAL (n:=2) T.d_class_rows.F sc rfl (λcdv A outer s H E hr=>by
    unfold zB0;decreasing_trivial)
abbrev zJE:List Str:=["marks", "numbers", "mark"]
theorem zIW:FnScope zJE ["marks"] (zR zDT):=⟨rfl,rfl,rfl,by decide +kernel,rfl,by decide +kernel,by decide +kernel⟩
theorem zIC (T:Txt K mg):Od P w base 1 T.d_parted_by zBA:=by
  unfold zBA;have sc:=zIW;exact zAL (n:=1) T.d_parted_by.F sc rfl (λcdv A outer s H E hr=>by
    unfold zCb;decreasing_trivial)
abbrev zJn:List Str:=["_law_script", "_law_seed", "_law_cell"]
theorem zI7:FnScope zJn ["_law_script"] (zR zDZ):=⟨rfl,rfl,rfl,by decide +kernel,rfl,by decide +kernel,by decide +kernel⟩
theorem zH8 (T:Txt K mg):Od P w base 1 T.d_law_begin zBD:=by
  unfold zBD;have sc:=zI7;exact zAL (n:=1) T.d_law_begin.F sc rfl (λcdv A outer s H E hr=>by
    unfold zDj;decreasing_trivial)
abbrev zKt:List Str:=["_law_state", "_law_many", "_law_digit"]
theorem zJr:FnScope zKt ["_law_state", "_law_many"] (zR zEG):=⟨rfl,rfl,rfl,by decide +kernel,rfl,by decide +kernel,by decide +kernel⟩
theorem zJ9 (T:Txt K mg):Od P w base 1 T.d_law_next zU:=by
  unfold zU;have sc:=zJr;exact zAL (n:=2) T.d_law_next.F sc rfl (λcdv A outer s H E hr=>by
    unfold zEC;decreasing_trivial)
abbrev zKS:List Str:=["_law_rooms", "_law_found", "_law_k", "_law_other"]
theorem zIO:FnScope zKS ["_law_rooms"] (zR zDR):=⟨rfl,rfl,rfl,by decide +kernel,rfl,by decide +kernel,by decide +kernel⟩
theorem zIy (T:Txt K mg):Od P w base 1 T.d_law_pairs zBk:=by
  unfold zBk;have sc:=zIO;exact zAL (n:=1) T.d_law_pairs.F sc rfl (λcdv A outer s H E hr=>by
    unfold zDg;decreasing_trivial)
abbrev zJZ:List Str:=["machine", "sources", "pair", "letter", "goal"]
theorem zIx:FnScope zJZ ["machine"] (zR zDf):=⟨rfl,rfl,rfl,by decide +kernel,rfl,by decide +kernel,by decide +kernel⟩
theorem zId (T:Txt K mg):Od P w base 2 T.d_ways_back zBn:=by
  unfold zBn;have sc:=zIx;exact zAL (n:=1) T.d_ways_back.F sc rfl (λcdv A outer s H E hr=>by
    unfold zDS;decreasing_trivial)
abbrev zGM:List Str:=["machine", "pair", "found", "goals", "letter", "goal"]
theorem zFU:FnScope zGM ["machine", "pair", "found"] (zR zCB):=⟨rfl,rfl,rfl,by decide +kernel,rfl,by decide +kernel,by decide +kernel⟩
theorem zFP (T:Txt K mg):Od P w base 2 T.d_first_letter zAD:=by
  unfold zAD;have sc:=zFU;exact zAL (n:=3) T.d_first_letter.F sc rfl (λcdv A outer s H E hr=>by
    unfold zB9;decreasing_trivial)
abbrev zNc:List Str:=["machine", "steps", "pair", "word", "here", "letter"]
theorem zLd:FnScope zNc ["machine", "steps", "pair"] (zR zEq):=⟨rfl,rfl,rfl,by decide +kernel,rfl,by decide +kernel,by decide +kernel⟩
theorem zKZ (T:Txt K mg):Od P w base 2 T.d_climbed zCk:=by
  unfold zCk;have sc:=zLd;exact zAL (n:=3) T.d_climbed.F sc rfl (λcdv A outer s H E hr=>by
    unfold zEz;decreasing_trivial)
abbrev zO6:List Str:=["machine", "parting", "rows", "number"]
theorem zMw:FnScope zO6 ["machine", "parting"] (zR zF3):=⟨rfl,rfl,rfl,by decide +kernel,rfl,by decide +kernel,by decide +kernel⟩
theorem zNY (T:Txt K mg):Od P w base 2 T.d_folded zCC:=by
  unfold zCC;have sc:=zMw;exact zDC (zAL (n:=2) T.d_folded.F sc rfl (λcdv A outer s H E hr=>by
    unfold zEc;decreasing_trivial))
abbrev zMa:List Str:=["machine", "pairs", "marks", "due", "one", "other", "old", "new", "mark"]
theorem zK8:FnScope zMa ["machine", "pairs"] (zR zE3):=⟨rfl,rfl,rfl,by decide +kernel,rfl,by decide +kernel,by decide +kernel⟩
theorem zKj (T:Txt K mg):Od P w base 2 T.d_kept_by zBY:=by
  unfold zBY;have sc:=zK8;exact zDC (zAL (n:=2) T.d_kept_by.F sc rfl (λcdv A outer s H E hr=>by
    unfold zDu;decreasing_trivial))
abbrev zKO:List Str:=["_law_state", "_law_many", "_law_order_here", "_law_k"]
theorem zIz:FnScope zKO ["_law_state", "_law_many"] (zR zDU):=⟨rfl,rfl,rfl,by decide +kernel,rfl,by decide +kernel,by decide +kernel⟩
theorem zIm (T:Txt K mg):Od P w base 2 T.d_law_order zBl:=by
  unfold zBl;have sc:=zIz;exact zAL (n:=2) T.d_law_order.F sc rfl (λcdv A outer s H E hr=>by
    unfold zDc;decreasing_trivial)
abbrev zIK:List Str:=["machine", "goals", "sources", "level", "found", "goal", "behind", "pair"]
theorem zGt:FnScope zIK ["machine", "goals"] (zR zCz):=⟨rfl,rfl,rfl,by decide +kernel,rfl,by decide +kernel,by decide +kernel⟩
theorem zGu (T:Txt K mg):Od P w base 3 T.d_lengths_to zBK:=by
  unfold zBK;have sc:=zGt;exact zAL (n:=2) T.d_lengths_to.F sc rfl (λcdv A outer s H E hr=>by
    unfold zC2;decreasing_trivial)
abbrev zKg:List Str:=["machine", "found", "pairs", "pair"]
theorem zJN:FnScope zKg ["machine", "found"] (zR zEI):=⟨rfl,rfl,rfl,by decide +kernel,rfl,by decide +kernel,by decide +kernel⟩
theorem zJ8 (T:Txt K mg):Od P w base 3 T.d_rungs_to zBZ:=by
  unfold zBZ;have sc:=zJN;exact zAL (n:=2) T.d_rungs_to.F sc rfl (λcdv A outer s H E hr=>by
    unfold zEE;decreasing_trivial)
abbrev zI0:List Str:=["_law_state", "_law_family", "_law_rooms", "_law_letter", "_law_room", "_law_half", "_law_ahead", "_law_far", "_law_order_here", "_law_goal"]
theorem zGr:FnScope zI0 ["_law_state", "_law_family", "_law_rooms", "_law_letter"] (zR zC5):=⟨rfl,rfl,rfl,by decide +kernel,rfl,by decide +kernel,by decide +kernel⟩
theorem zGo (T:Txt K mg):Od P w base 3 T.d_law_column zBN:=by
  unfold zBN;have sc:=zGr;exact zAL (n:=4) T.d_law_column.F sc rfl (λcdv A outer s H E hr=>by
    unfold zDB;decreasing_trivial)
abbrev zNB:List Str:=["machine", "room"]
theorem zKY:FnScope zNB ["machine"] (zR zEt):=⟨rfl,rfl,rfl,by decide +kernel,rfl,by decide +kernel,by decide +kernel⟩
theorem zKe (T:Txt K mg):Od P w base 4 T.d_lengths zBX:=by
  unfold zBX;have sc:=zKY;exact zAL (n:=1) T.d_lengths.F sc rfl (λcdv A outer s H E hr=>by
    unfold zE9;decreasing_trivial)
abbrev zG9:List Str:=["_law_state", "_law_rooms", "_law_letters", "_law_family", "_law_columns", "_law_letter", "_law_column_here", "_law_room"]
theorem zGO:FnScope zG9 ["_law_state", "_law_rooms", "_law_letters"] (zR zCj):=⟨rfl,rfl,rfl,by decide +kernel,rfl,by decide +kernel,by decide +kernel⟩
theorem zGc (T:Txt K mg):Od P w base 4 T.d_law_machine zAp:=by
  unfold zAp;have sc:=zGO;exact zQG (zAL (n:=3) T.d_law_machine.F sc rfl (λcdv A outer s H E hr=>by
    unfold zCe;decreasing_trivial))
abbrev zQx:List Str:=["machine"]
theorem zOk:FnScope zQx ["machine"] (zR zIj):=⟨rfl,rfl,rfl,by decide +kernel,rfl,by decide +kernel,by decide +kernel⟩
theorem zPa (T:Txt K mg):Od P w base 5 T.d_rungs zDz:=by
  unfold zDz;have sc:=zOk;exact zAL (n:=1) T.d_rungs.F sc rfl (λcdv A outer s H E hr=>by
    unfold zIX;decreasing_trivial)
abbrev zQ1:List Str:=["machine", "found", "pair"]
theorem zPj:FnScope zQ1 ["machine"] (zR zIM):=⟨rfl,rfl,rfl,by decide +kernel,rfl,by decide +kernel,by decide +kernel⟩
theorem zOG (T:Txt K mg):Od P w base 5 T.d_apart zC1:=by
  unfold zC1;have sc:=zPj;exact zDC (zAL (n:=1) T.d_apart.F sc rfl (λcdv A outer s H E hr=>by
    unfold zI8;decreasing_trivial))
abbrev zK7:List Str:=["machine", "one", "other", "pair", "steps"]
theorem zJH:FnScope zK7 ["machine", "one", "other"] (zR zD9):=⟨rfl,rfl,rfl,by decide +kernel,rfl,by decide +kernel,by decide +kernel⟩
theorem zJX (T:Txt K mg):Od P w base 6 T.d_together zBa:=by
  unfold zBa;have sc:=zJH;exact zDC (zAL (n:=3) T.d_together.F sc rfl (λcdv A outer s H E hr=>by
    unfold zED;decreasing_trivial))
abbrev zNw:List Str:=["machine", "pair", "many", "letter"]
theorem zNh:FnScope zNw ["machine"] (zR zGd):=⟨rfl,rfl,rfl,by decide +kernel,rfl,by decide +kernel,by decide +kernel⟩
theorem zNf (T:Txt K mg):Od P w base 6 T.d_ladder zCG:=by
  unfold zCG;have sc:=zNh;exact zDC (zAL (n:=1) T.d_ladder.F sc rfl (λcdv A outer s H E hr=>by
    unfold zGS;decreasing_trivial))
abbrev zUa:List Str:=["_law_script", "_law_state", "_law_rooms", "_law_machine_here", "_law_pairs_here", "_law_drawn", "_law_k", "_law_classes", "_law_fewer", "_law_sizes", "_law_pair", "_law_many", "_law_letter", "_law_told", "_law_others", "_law_own", "_law_there", "_law_turn", "_law_word"]
theorem zSW:FnScope zUa ["_law_script"] (zR zOX):=⟨rfl,rfl,rfl,by decide +kernel,rfl,by decide +kernel,by decide +kernel⟩
theorem zSe (T:Txt K mg):Od P w base 7 T.d_law zFH:=by
  unfold zFH;have sc:=zSW;exact zAL (n:=1) T.d_law.F sc rfl (λcdv A outer s H E hr=>by
    unfold zP2;decreasing_trivial)
end
theorem zSq {l:PySem.W.OpenLaw} {w:World} {K:PySem.W.Frag} {h:Heap} {mg:Str->Option Value} {fa:Addr} (X:K.In h) (G:h.Ns mainGlobals mg) (hfa:mg "law" = some (.ref fa))
    (g1:Dg K "all_rooms" zDk) (g2:Dg K "led" zPf) (g3:Dg K "stepped" zFC) (g4:Dg K "pairs_of" zEF) (g5:Dg K "ways_back" zDf) (g6:Dg K "lengths_to" zCz) (g7:Dg K "lengths" zEt) (g8:Dg K "first_letter" zCB) (g9:Dg K "rungs_to" zEI) (g10:Dg K "rungs" zIj) (g11:Dg K "climbed" zEq) (g12:Dg K "together" zD9) (g13:Dg K "ladder" zGd) (g14:Dg K "apart" zIM) (g15:Dg K "class_rows" zDE) (g16:Dg K "folded" zF3) (g17:Dg K "parted_by" zDT) (g18:Dg K "kept_by" zE3) (g19:Dg K "_law_begin" zDZ) (g20:Dg K "_law_next" zEG) (g21:Dg K "_law_order" zDU) (g22:Dg K "_law_column" zC5) (g23:Dg K "_law_machine" zCj) (g24:Dg K "_law_pairs" zDR) (g25:Dg K "law" zOX) (z1:Zn K "tuple") (z2:Zn K "range") (z3:Zn K "len") (z4:Zn K "sorted") (z5:Zn K "min") (z6:Zn K "enumerate") (z7:Zn K "max") (z8:Zn K "list") (z9:Zn K "zip") (z10:Zn K "abs") (z11:Zn K "int") (z12:Zn K "dict") (z13:Zn K "all") :
    ∃ fd:FuncData,(∀ (s:Shared) (v:Value),BindsTo s fd ⟨[v],[]⟩ [("_law_script", v)]) /\ ∀ base:Heap,K.In base->base.Ns mainGlobals mg->FnOk l.prog w K mg base CX0 7 fa fd ["_law_script"] (spF K 1 zFH):=by
  have e:=hfa.symm.trans (PySem.W.mg_of X G g25.a);cases e;let T:Txt K mg:=⟨g1.df X G λ_ _ _ _ _ _=>zF8 λ_=>rfl,g2.df X G λ_ _ _ _ _ _=>zNF λ_ _ _=>rfl,g3.df X G λ_ _ _ _ _ _=>zNF λ_ _ _=>rfl,g4.df X G λ_ _ _ _ _ _=>zF8 λ_=>rfl,g5.df X G λ_ _ _ _ _ _=>zF8 λ_=>rfl,g6.df X G λ_ _ _ _ _ _=>zKx λ_ _=>rfl,g7.df X G λ_ _ _ _ _ _=>zF8 λ_=>rfl,g8.df X G λ_ _ _ _ _ _=>zNF λ_ _ _=>rfl,g9.df X G λ_ _ _ _ _ _=>zKx λ_ _=>rfl,g10.df X G λ_ _ _ _ _ _=>zF8 λ_=>rfl,g11.df X G λ_ _ _ _ _ _=>zNF λ_ _ _=>rfl,g12.df X G λ_ _ _ _ _ _=>zNF λ_ _ _=>rfl,g13.df X G λ_ _ _ _ _ _=>zF8 λ_=>rfl,g14.df X G λ_ _ _ _ _ _=>zF8 λ_=>rfl,g15.df X G λ_ _ _ _ _ _=>zKx λ_ _=>rfl,g16.df X G λ_ _ _ _ _ _=>zKx λ_ _=>rfl,g17.df X G λ_ _ _ _ _ _=>zF8 λ_=>rfl,g18.df X G λ_ _ _ _ _ _=>zKx λ_ _=>rfl,g19.df X G λ_ _ _ _ _ _=>zF8 λ_=>rfl,g20.df X G λ_ _ _ _ _ _=>zKx λ_ _=>rfl,g21.df X G λ_ _ _ _ _ _=>zKx λ_ _=>rfl,g22.df X G λ_ _ _ _ _ _=>zU0 λ_ _ _ _=>rfl,g23.df X G λ_ _ _ _ _ _=>zNF λ_ _ _=>rfl,g24.df X G λ_ _ _ _ _ _=>zF8 λ_=>rfl,g25.df X G λ_ _ _ _ _ _=>zF8 λ_=>rfl,zWN X G z1,zWN X G z2,zWN X G z3,zWN X G z4,zWN X G z5,zWN X G z6,zWN X G z7,zWN X G z8,zWN X G z9,zWN X G z10,zWN X G z11,zWN X G z12,zWN X G z13⟩;refine ⟨T.d_law.fd,λs v=> .of_eq rfl,λbase _ _=>?_⟩;exact zSe (P:=l.prog) (w:=w) (base:=base) T
theorem zUz {l:PySem.W.OpenLaw} {q:Ym} {loose:Yk} {XP:(Str->Option Value)->Heap->Prop} {YP:World->Heap->Prop} {d:DefRec} {K:Params->PySem.W.Frag} (hn:l.most=some 63) (hdf:d.params.defaults=[])
    (hY:∀ (w:Yo) (h:Heap),YP w h->(K w.params).In h) (hL:∀ w:World,zIQ (K w.params)=true)
    (F:∀ (w:Yo) (mg:Yh) (fa:Yt) (h:Heap),(K w.params).In h->h.Ns mainGlobals mg->mg d.name=some (.ref fa) ->
      ∃ fd:FuncData,(∀ (s:Shared) (u:Value),BindsTo s fd ⟨[u],[]⟩ [("_law_script", u)]) /\ ∀ base:Heap,(K w.params).In base->base.Ns mainGlobals mg->FnOk l.prog w (K w.params) mg base CX0 7 fa fd ["_law_script"] (spF (K w.params) 1 zFH)) :
    PySem.W.WalkO q loose XP YP l.row.toRowW d [] (λf vs=>PySem.call f vs) :=
  L2.zQJ (n:=63) (k:=7) (x := "_law_script") (CX:=λ_=>CX0) (sp:=λw=>spF (K w.params) 1 zFH) hn (by decide) hdf ⟨rfl,by decide,by decide⟩ hY F
    (λw H a ns hl hO hS=>zMe (hL w) hO hS (zOT ns hl)) λ_ _ _ _ _ z=>z
end Lac
open PySem PySem.W PyProof.Rows
set_option maxRecDepth 100000 in
set_option maxHeartbeats 0 in
theorem PySem.Challenge.cw_bringhome_k86_whole_pairs_folded_togethe_holds : PySem.Challenge.rw_bringhome_k86_whole_pairs_folded_togethe.Holds := by
  w_on;o_law;k_head;(case hw=>w_witness2);k_fill;refine Lac.zUz (l:=PySem.Challenge.rw_bringhome_k86_whole_pairs_folded_togethe) rfl rfl (λw h Y=>PySem.W.kIn_of Y) (λw=>by rfl) ?F
  case F=>
    intro w mg fa h KX G hmg;refine' Lac.zSq KX G hmg ?_ ?_ ?_ ?_ ?_ ?_ ?_ ?_ ?_ ?_ ?_ ?_ ?_ ?_ ?_ ?_ ?_ ?_ ?_ ?_ ?_ ?_ ?_ ?_ ?_ ?_ ?_ ?_ ?_ ?_ ?_ ?_ ?_ ?_ ?_ ?_ ?_ ?_;all_goals first|exact ⟨_,by k_is,by k_is,by k_is,by k_is⟩|(unfold L3.Zn;k_is)|(unfold L3.Ki;kit_is)|k_is
