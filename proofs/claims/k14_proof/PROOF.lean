import PyProof.Rows.All
import Wide.All
import OpenK.AllK
import Wide.FinOn
import Lean
import PyProof.EqAt
import PyProof.EqKinds
import PyProof.TupleCall
import PyProof.NeKinds
import PyProof.ZipIter
import PyProof.ListRange
import PyProof.TupleOfSeq
import PyProof.ConsumeWalk
import PyProof.IsRules
import PyProof.SetKind
import PyProof.SetRoads
import PyProof.Rows.SetFrom
import PyProof.Draws
import PyProof.EnumMake
import PyProof.DictCompW
import PyProof.ListMulRoad
import PyProof.Rows.SeqMore2
import PyProof.WalkInts
import PyProof.DictRoadsH
import PyProof.DictItems
import KE.KDictList
import PySem.Challenge.RW_bringhome_k14_none_where_none_does
local macro_rules|`(tactic|omega)=>`(tactic|lia)
section
open PySem
abbrev Ya:=List (List Int)
abbrev Yb:=W.Frag
abbrev Yc:=Value->Shared->Prop
abbrev Yd:=List (Addr × Obj)
abbrev Ye:=List Int
abbrev Yf:=List Value
abbrev Yg:=List Addr
abbrev Yh:=Str->Option Value
abbrev Yi:=List Expr
abbrev Yj:=List Nat
abbrev Yk:=List Str
abbrev Yl:=Shared
abbrev Ym:=Program
abbrev Yn:=Around
abbrev Yo:=World
abbrev Yp:=Array Value
abbrev Yq:=List Int->Prop
abbrev Yr:=Value->Nat
abbrev Ys:=Option Int
abbrev Yt:=Addr
abbrev Yu:=Value
abbrev Yv:=List (Str × Addr)
abbrev Yw:=Array (Int × Value)
abbrev Yx:=Result->Shared->Prop
abbrev Yy:=List Stmt
abbrev Yz:=FuncData
abbrev Y0:=Scope
abbrev Y1:=List Int->List (List Int)
abbrev Y2:=Value->Value->Sem Value
end
namespace PySem.W.Fast
def tw15261590675464315242:=0
def tw11422446700297322129:=0
def tw8573906219003934703:=0
def tw16327015139824071250:=0
def tw15231908549957583424:=0
def tw11949926223746035795:=0
def tw9394122870983500940:=0
def tw11477584359350890379:=0
def tw6717703459312660516:=0
def tw9524623399281322032:=0
def tw2853867887743435284:=0
def tw12042419656891397607:=0
def tw9559910095261038551:=0
def tw16938077049966096645:=0
def tw3933945802317190106:=0
def tw11699970458071661116:=0
def tw11552676592031863090:=0
def tw16640628190247546212:=0
def tw11241514333354090079:=0
def tw5305143845390823767:=0
def tw5768607121593701006:=0
def tw15625145339171134003:=0
def tw2973611579300127325:=0
def tw6049085411061495734:=0
def tw4261259675310898909:=0
def tw5374561209495494232:=0
def tw215515812412865182:=0
def tw8365986729813315974:=0
def tw4132578774827262091:=0
def tw17526556438021547359:=0
def tw7197754866154825631:=0
def tw14498088304729194189:=0
def tw2542580870985736622:=0
def tw1890061816875721942:=0
def tw12172549206550228241:=0
def tw6558376545035154154:=0
def tw17842643589519893561:=0
def tw12438793619308411369:=0
def tw4526810836564778824:=0
def tw11711691528972511559:=0
def tw869950012223480357:=0
def tw17228071041261942329:=0
def tw11298688099997271929:=0
def tw18173378280525990591:=0
def tw12259253892547593995:=0
def tw16349724959385478942:=0
def tw16494437398811999186:=0
def tw6075995166619642622:=0
def tw2851750249261984574:=0
def tw15292826242126840630:=0
def tw2623941080178062032:=0
def tw5219518582504389369:=0
def tw4006117446000780830:=0
def tw17678374251954269212:=0
def tw16337465441625689389:=0
def tw10979868353586341794:=0
def tw1663254968408028239:=0
def tw10078312419059041767:=0
def tw18133848379201672020:=0
def tw18107885026633031714:=0
def tw8892126090571974226:=0
def tw1983862346164498157:=0
def tw10419092722452029380:=0
def tw17634148685707687895:=0
def tw322477672178083496:=0
def tw9396089815265274024:=0
def tw8401669101815533222:=0
def tw6646570779110430204:=0
def tw15002478506480945943:=0
def tw8664312803957475258:=0
def tw4161897606660294078:=0
def tw6901747450078642491:=0
def tw17936857705009448358:=0
def tw18350957886056538407:=0
def tw15550720250908631399:=0
def tw10136949981381186079:=0
def tw14814734612635671993:=0
def tw15169972081315424476:=0
def tw14573633681015767584:=0
def tw4728928224793333161:=0
def tw12076423423773343594:=0
def tw7228746191862244842:=0
def tw17336766878386063523:=0
def tw18137595463410420646:=0
end PySem.W.Fast
section
open PySem PySem.Spec PyProof.Rows
def AA:type_of% @wpAny_bind:=@wpAny_bind
def AH:type_of% @Heap.get?_push_of_some:=@Heap.get?_push_of_some
def AB:type_of% @wpAny_pure:=@wpAny_pure
def AK:type_of% @List.getElem?_eq_some_iff:=@List.getElem?_eq_some_iff
def AJ:type_of% @List.getElem?_eq_getElem:=@List.getElem?_eq_getElem
def Bi:type_of% @List.getD_eq_getElem?_getD:=@List.getD_eq_getElem?_getD
def AF:type_of% @Nat.le_refl:=@Nat.le_refl
def Ag:type_of% @List.getElem?_append_left:=@List.getElem?_append_left
def AZ:type_of% @List.size_toArray:=@List.size_toArray
def AG:type_of% @List.length_map:=@List.length_map
def AN:type_of% @Heap.get?_push_size:=@Heap.get?_push_size
def AI:type_of% @Heap.lt_size:=@Heap.lt_size
def AL:type_of% @List.mem_cons:=@List.mem_cons
def Am:type_of% @List.mem_cons_of_mem:=@List.mem_cons_of_mem
def AW:type_of% @List.mem_cons_self:=@List.mem_cons_self
def AD:type_of% @if_pos:=@if_pos
def Ae:type_of% @List.length_append:=@List.length_append
def Aj:type_of% @List.mem_map:=@List.mem_map
def AE:type_of% @if_neg:=@if_neg
def Ad:type_of% @List.map_cons:=@List.map_cons
def Bg:type_of% @List.mem_append_right:=@List.mem_append_right
def AX:type_of% @Nat.ne_of_lt:=@Nat.ne_of_lt
def AY:type_of% @Bool.false_ne_true:=@Bool.false_ne_true
def AR:type_of% @List.getElem?_map:=@List.getElem?_map
def BQ:type_of% @List.map_map:=@List.map_map
def Az:type_of% @Nat.lt_of_lt_of_le:=@Nat.lt_of_lt_of_le
def AV:type_of% @List.mem_append:=@List.mem_append
def Ak:type_of% @Nat.le_trans:=@Nat.le_trans
def AU:type_of% @List.mem_singleton:=@List.mem_singleton
def BI:type_of% @wpAny_newObj_type:=@wpAny_newObj_type
def Av:type_of% @List.getElem?_set_ne:=@List.getElem?_set_ne
def Cv:type_of% @List.not_mem_nil:=@List.not_mem_nil
def Ar:type_of% @wpAny_mono:=@wpAny_mono
def B5:type_of% @List.length_cons:=@List.length_cons
def Aq:type_of% @List.getElem_mem:=@List.getElem_mem
def AS:type_of% @decide_eq_false:=@decide_eq_false
def Ap:type_of% @Bool.and_eq_true:=@Bool.and_eq_true
def Ab:type_of% @List.all_eq_true:=@List.all_eq_true
def CY:type_of% @wpAny_callSpecial?_slot:=@wpAny_callSpecial?_slot
def BY:type_of% @wpAny_call_entry:=@wpAny_call_entry
def DD:type_of% @List.mem_range:=@List.mem_range
def Cm:type_of% @wpAny_field:=@wpAny_field
def CK:type_of% @Heap.size_push:=@Heap.size_push
def EC:type_of% @Heap.get?_update_other:=@Heap.get?_update_other
def Bh:type_of% @Nat.lt_irrefl:=@Nat.lt_irrefl
def BD:type_of% @Array.length_toList:=@Array.length_toList
def CG:type_of% @List.append_nil:=@List.append_nil
def DC:type_of% @Array.getElem?_eq_getElem:=@Array.getElem?_eq_getElem
def Bz:type_of% @Nat.zero_le:=@Nat.zero_le
def EF:type_of% @Heap.get?_update_self:=@Heap.get?_update_self
def DG:type_of% @Nat.lt_succ_of_lt:=@Nat.lt_succ_of_lt
def Ba:type_of% @List.mem_of_getElem?:=@List.mem_of_getElem?
def Br:type_of% @List.map_append:=@List.map_append
def Bw:type_of% @wpAny_holding:=@wpAny_holding
def Bn:type_of% @List.getElem?_set_self:=@List.getElem?_set_self
def Dv:type_of% @Around.under_plainId:=@Around.under_plainId
def Bv:type_of% @of_decide_eq_true:=@of_decide_eq_true
def Dx:type_of% @Nat.lt_succ_self:=@Nat.lt_succ_self
def Cp:type_of% @PySem.W.mg_none_of:=@PySem.W.mg_none_of
def Bc:type_of% @Option.some.inj:=@Option.some.inj
def Ck:type_of% @Bool.false_eq_true:=@Bool.false_eq_true
def Bx:type_of% @PySem.mem_of_lookup:=@PySem.mem_of_lookup
def Ct:type_of% @Heap.SameBut.update:=@Heap.SameBut.update
def Ci:type_of% @List.cons.inj:=@List.cons.inj
def C1:type_of% @codeAny_builtin:=@codeAny_builtin
def Bu:type_of% @List.append_assoc:=@List.append_assoc
def Eu:type_of% @wpAny_Call_Name_kw:=@wpAny_Call_Name_kw
def Af:type_of% @decide_eq_true:=@decide_eq_true
def EG:type_of% @List.getElem?_eq_none:=@List.getElem?_eq_none
def Cn:type_of% @List.getElem?_append_right:=@List.getElem?_append_right
def EL:type_of% @wpAny_truthy_bool:=@wpAny_truthy_bool
def EA:type_of% @decide_eq_true_eq:=@decide_eq_true_eq
def Dm:type_of% @List.nodup_append:=@List.nodup_append
def E4:type_of% @List.mem_append_left:=@List.mem_append_left
def Dj:type_of% @Obj.data_mapFields:=@Obj.data_mapFields
def Ei:type_of% @List.replicate_succ:=@List.replicate_succ
def ET:type_of% @List.nodup_cons:=@List.nodup_cons
def Dk:type_of% @Nat.lt_or_ge:=@Nat.lt_or_ge
def Ca:type_of% @wpAny_rule:=@wpAny_rule
def BN:type_of% @List.length_take:=@List.length_take
def Gj:type_of% @List.getElem?_take_of_lt:=@List.getElem?_take_of_lt
def DY:type_of% @List.length_nil:=@List.length_nil
def Dc:type_of% @Nat.ne_of_gt:=@Nat.ne_of_gt
def GL:type_of% @List.take_of_length_le:=@List.take_of_length_le
def Gv:type_of% @PyProof.Rows.slot_tuple_getitem:=@PyProof.Rows.slot_tuple_getitem
def Dz:type_of% @List.getElem?_set:=@List.getElem?_set
def ED:type_of% @wpAny_attempt:=@wpAny_attempt
def DX:type_of% @PySem.W.kia_one:=@PySem.W.kia_one
def Bb:type_of% @Array.getElem?_toList:=@Array.getElem?_toList
def DF:type_of% @Nat.le_succ:=@Nat.le_succ
def DW:type_of% @wpAny_setField:=@wpAny_setField
def Ef:type_of% @List.find?_cons:=@List.find?_cons
def BV:type_of% @congrArg:=@congrArg
def De:type_of% @List.flatten_cons:=@List.flatten_cons
def GB:type_of% @List.length_eq_zero_iff:=@List.length_eq_zero_iff
def DZ:type_of% @List.getElem_of_mem:=@List.getElem_of_mem
def D6:type_of% @List.lookup_cons:=@List.lookup_cons
def Cj:type_of% @List.pairwise_cons:=@List.pairwise_cons
def EX:type_of% @List.nil_append:=@List.nil_append
def C8:type_of% @List.length_set:=@List.length_set
def Ea:type_of% @List.length_drop:=@List.length_drop
def Dt:type_of% @Bool.eq_iff_iff:=@Bool.eq_iff_iff
def BG:type_of% @Int.toNat_natCast:=@Int.toNat_natCast
def DM:type_of% @List.take_append_drop:=@List.take_append_drop
def CP:type_of% @Nat.le_of_lt:=@Nat.le_of_lt
def Fy:type_of% @List.mem_of_mem_take:=@List.mem_of_mem_take
def Em:type_of% @List.mem_of_mem_drop:=@List.mem_of_mem_drop
def El:type_of% @List.any_eq_true:=@List.any_eq_true
end
set_option Elab.async false
set_option linter.all false
set_option maxRecDepth 100000
set_option genSizeOf false
set_option genInjectivity false
set_option compiler.extract_closed false
noncomputable section
section
open PySem PySem.Spec PyProof.Rows
namespace L2
noncomputable abbrev Key:=Sum Int Str
noncomputable def Gx:Key->Value->Bool
 |.inl k,v=>Value.isInt k v
 |.inr x,v=>Value.isStrOf x v
noncomputable def RT (w:Yo):Key->Int
 |.inl k=>hashInt k
 |.inr x=>hashStr w x
def Eg:∀ {k:Key} {v:Yu},Gx k v=true->(∃ i t,k=Sum.inl i/\v=Value.int i t)\/(∃ x t,k=Sum.inr x/\v=Value.str x t)
 |.inl i,v,h=>by
  obtain ⟨t,e⟩:=Value.isInt_shape (k:=i) (v:=v) h;exact .inl ⟨i,t,rfl,e⟩
 |.inr x,v,h=>by
  obtain ⟨t,e⟩:=Value.isStrOf_shape (x:=x) (v:=v) h;exact .inr ⟨x,t,rfl,e⟩
def VC (i:Int) (t:Tok):Gx (.inl i) (.int i t)=true:=by simp[Gx,Value.isInt]
def YX (x:Str) (t:Tok):Gx (.inr x) (.str x t)=true:=by simp[Gx,Value.isStrOf]
def R6 (a b:Int):decide ((Sum.inl a:Key)=Sum.inl b)=(a==b):=by
 by_cases e:a=b
 .subst e;simp
 .have h:¬ (Sum.inl a:Key)=Sum.inl b:=λq=>e (Sum.inl.inj q);rw[AS h];exact (beq_eq_false_iff_ne.mpr e).symm
def Vn (a b:Str):decide ((Sum.inr a:Key)=Sum.inr b)=decide (a=b):=by
 by_cases e:a=b
 .subst e;simp
 .have h:¬ (Sum.inr a:Key)=Sum.inr b:=λq=>e (Sum.inr.inj q);rw[AS h,AS e]
def Vx (a:Int) (b:Str):decide ((Sum.inl a:Key)=Sum.inr b)=false:=AS (λq=>nomatch q)
def XT (a:Str) (b:Int):decide ((Sum.inr a:Key)=Sum.inl b)=false:=AS (λq=>nomatch q)
noncomputable def zw (prog:Ym) (w:Yo):PySem.KeyKind prog w Key where
 is:=Gx
 hash:=RT w
 inj:=λv a b ha hb=>by
  rcases Eg ha with ⟨i,t,rfl,rfl⟩|⟨x,t,rfl,rfl⟩
  .rcases Eg hb with ⟨j,u,rfl,e⟩|⟨y,u,rfl,e⟩
   .injection e with e1 _;rw[e1]
   .exact nomatch e
  .rcases Eg hb with ⟨j,u,rfl,e⟩|⟨y,u,rfl,e⟩
   .exact nomatch e
   .injection e with e1 _;rw[e1]
 byValue:=λk v h=>by
  rcases Eg h with ⟨i,t,rfl,rfl⟩|⟨x,t,rfl,rfl⟩ <;> rfl
 pyHash:=λhv h=>by
  rcases Eg hv with ⟨i,t,rfl,rfl⟩|⟨x,t,rfl,rfl⟩
  .exact wpAny_pyHash_int h
  .exact wpAny_pyHash_str h
 eqBool:=λhu hv h=>by
  rcases Eg hu with ⟨i,t,rfl,rfl⟩|⟨x,t,rfl,rfl⟩
  .rcases Eg hv with ⟨j,u,rfl,rfl⟩|⟨y,u,rfl,rfl⟩
   .rw[R6]at h;exact wpAny_eqBool_int h
   .rw[Vx]at h;exact SeqAt.EqAt.int_str i t y u _ _ _ _ h
  .rcases Eg hv with ⟨j,u,rfl,rfl⟩|⟨y,u,rfl,rfl⟩
   .rw[XT]at h;exact SeqAt.EqAt.str_int x t j u _ _ _ _ h
   .rw[Vn]at h;exact wpAny_eqBool_str h
 «strs»:=λk x t v h=>by
  rcases Eg h with ⟨i,u,rfl,e⟩|⟨y,u,rfl,e⟩
  .exact nomatch e
  .injection e with e1 _
   subst e1
   cases v <;> rfl
def cG (prog:Ym) (w:Yo) (i:Int) (t:Tok):(zw prog w).is (.inl i) (.int i t)=true:=VC i t
def Vg (prog:Ym) (w:Yo) (x:Str) (t:Tok):(zw prog w).is (.inr x) (.str x t)=true:=YX x t
set_option genInjectivity true in
inductive V where
 |non|bl (b:Bool)|int (i:Int)|str (x:Str)|byt (b:Array UInt8)|flt (b:UInt64)|ref (a:Yt)|ty (n:String)
 deriving DecidableEq
def zc:V->Value->Prop
 |.non,u=>u=Value.none
 |.bl b,u=>u=Value.bool b
 |.int i,u=>∃ t,u=Value.int i t
 |.str x,u=>∃ t,u=Value.str x t
 |.byt b,u=>∃ t,u=Value.bytes b t
 |.flt b,u=>∃ t,u=Value.float b t
 |.ref a,u=>u=Value.ref a
 |.ty n,u=>u=Value.type n
abbrev zX:List V->List Value->Prop:=Paired zc
def zX.length {xs:List V} {us:Yf} (r:zX xs us):xs.length=us.length:=Paired.length r
def zX.get:∀ {xs:List V} {us:Yf} {i:Nat} {x:V},zX xs us->xs[i]?=some x -> ∃ u,us[i]?=some u/\zc x u
 |_,_,_,_,.nil,e=>by simp at e
 |_,_,0,_,.cons r _,e=>by simp at e;subst e;exact ⟨_,rfl,r⟩
 |_,_,i+1,x,.cons _ t,e=>by
  obtain ⟨u,h1,h2⟩:=zX.get (i:=i) (x:=x) t (by simpa using e);exact ⟨u,by simpa using h1,h2⟩
def zX.set {x:V} {u:Yu} (r:zc x u):∀ {xs:List V} {us:Yf} (i:Nat),zX xs us->zX (xs.set i x) (us.set i u)
 |_,_,_,.nil=> .nil
 |_,_,0,.cons _ t=> .cons r t
 |_,_,i+1,.cons q t=> .cons q (zX.set r i t)
def zX.append:∀ {xs ys:List V} {us ws:Yf},zX xs us->zX ys ws->zX (xs++ys) (us++ws)
 |_,_,_,_,.nil,s=>s
 |_,_,_,_,.cons r t,s=> .cons r (zX.append t s)
def zX.take:∀ {xs:List V} {us:Yf} (n:Nat),zX xs us->zX (xs.take n) (us.take n)
 |_,_,0,_=> .nil
 |_,_,_+1,.nil=> .nil
 |_,_,n+1,.cons r t=> .cons r (zX.take n t)
def zX.drop:∀ {xs:List V} {us:Yf} (n:Nat),zX xs us->zX (xs.drop n) (us.drop n)
 |_,_,0,r=>r
 |_,_,_+1,.nil=> .nil
 |_,_,n+1,.cons _ t=>zX.drop n t
def Cq:Option V->Option Value->Prop
 |some v,some u=>zc v u
 |none,none=>True
 |_,_=>False
def KV {κ:Type}:List (κ × V)->List (κ × Value)->Prop:=Paired λ(p:κ × V) (q:κ × Value)=>p.1=q.1/\zc p.2 q.2
noncomputable def kV:Key->V
 |.inl i=> .int i
 |.inr x=> .str x
set_option genInjectivity true in
inductive HO where
 |lst (xs:List V)
 |tup (xs:List V)
 |dK (kvs:List (Key × V))|dT (kvs:List (List Key × V))
 |set (S:Int->Bool) (n:Nat)
 |ins (C dx:Yt) (fs:List (Str × V))
 |own (x:Yt)
 |xd (fs:List (Str × V))
 |met (f x:Yt)
 |rng (lo hi:Int)
 |frz (o:Obj) (u:HO)
 |tbl (ps:Yp)
 |ext (φ:Heap->Prop)
noncomputable abbrev Hp:=Addr->Option HO
noncomputable def upd (H:Hp) (a:Yt) (o:HO):Hp:=λb=>if b=a then some o else H b
def zq {H:Hp} {a:Yt} {o:HO}:upd H a o a=some o:=by unfold upd;rw[AD rfl]
def zP {H:Hp} {a b:Yt} {o:HO} (h:b≠a):upd H a o b=H b:=by unfold upd;rw[AE h]
def C6 {H:Hp} {a b:Yt} {o u:HO} (h:H a=some o) (h':H b=some u) (d:o≠u):a≠b:=by
 intro e;subst e;rw[h]at h';exact d (Bc h')
def zi {H:Hp} {a b:Yt} {o:HO} (h:H a=some o) (h':H b=none):a≠b:=by
 intro e;subst e;rw[h]at h';cases h'
def C7 (h:Heap) (a:Addr) (items:Array Value):Prop:=∃ o,h.get? a=some o/\o.cls=.type "tuple" /\ (∃ n,o.data=.seq items n)/\o.dict=none
def C7.tup {h:Heap} {a:Yt} {items:Yp} (x:C7 h a items):IsTup h a items:=let ⟨o,e,c,d,_⟩:=x;⟨o,e,c,d⟩
def C7.lt {h:Heap} {a:Yt} {items:Yp} (x:C7 h a items):a<h.objs.size:=let ⟨_,e,_⟩:=x;AI e
def C7.new (h:Heap) (items:Array Value):C7 (h.push { cls:=.type "tuple", data:=.seq items }) h.objs.size items:=⟨_,AN _ rfl,rfl,⟨_,rfl⟩,rfl⟩
section
variable (P:Ym) (w:Yo)
def zr (H:Hp) (h:Heap) (a:Yt):HO->Prop
 |.lst xs=>xs.length<=sizeLine /\ ∃ (its:List Value) (n:Nat),zX xs its/\h.get? a=some { cls:=.type "list", data:=.seq its.toArray n }
 |.tup xs=>xs.length<=sizeLine /\ ∃ its:List Value,zX xs its/\C7 h a its.toArray
 |.dK kvs=>kvs.length<=sizeLine/\(a==sysModules)=false /\ ∃ vs,KV kvs vs/\h.DictOf (zw P w) a vs
 |.dT kvs=>kvs.length<=sizeLine/\(a==sysModules)=false /\ ∃ xs:List (List Key × Addr × Value),
   Paired (λ(p:List Key × V) (q:List Key × Addr × Value)=>p.1=q.1/\H q.2.1=some (.tup (p.1.map kV))/\zc p.2 q.2.2) kvs xs /\
   ∃ o es ep,h.get? a=some o/\o.ExactDict/\o.data=.dict es ep/\es.toList=xs.map (entryOfKey (tupleKind (zw P w)))/\(xs.map (·.1)).Nodup
 |.set S n=>h.SetOf (intKind P w) a S n
 |.ins C dx fs=>H dx=some (.own a)/\fs.length<=1000/\dx≠a/\h.get? a=some (PySem.W.instObj C dx) /\
   ∃ mA,h.Ns1 dx mA/\(∀ f,Cq (fs.lookup f) (mA f))/\PySem.Within mA (fs.map (·.1))
 |.own _=>∃ o,h.get? a=some o
 |.xd fs=>∃ mA,h.Ns1 a mA /\ ∀ f,Cq (fs.lookup f) (mA f)
 |.rng lo hi=>∃ t u v,h.get? a=some { cls:=.type "range", data:=.fields #[.int lo t,.int hi u,.int 1 v] }
 |.frz o u=>h.get? a=some o/\zr H h a u
 |.tbl ps=>h.get? a=some { cls:=.none,data:=.fields ps }
 |.met f x=>h.get? a=some (PySem.W.methodObj (.ref f) (.ref x))
 |.ext φ=>φ h/\(∃ o,h.get? a=some o) /\ ∀ h1 h2:Heap,φ h1->(∀ o,h1.get? a=some o->h2.get? a=some o)->φ h2
def HOk (H:Hp) (h:Heap):Prop:=∀ a o,H a=some o->zr P w H h a o
end
section
variable {P:Ym} {w:Yo} {H H':Hp} {h h':Heap} {a:Yt} {o:HO}
def zr.lt (x:zr P w H h a o):a<h.objs.size:=by
 cases o with
 |lst xs=>obtain ⟨_,_,_,_,e⟩:=x;exact AI e
 |tup xs=>obtain ⟨_,_,_,p⟩:=x;exact p.lt
 |dK kvs=>obtain ⟨_,_,_,_,o,_,_,e,_⟩:=x;exact AI e
 |dT kvs=>obtain ⟨_,_,_,_,o,_,_,e,_⟩:=x;exact AI e
 |set S n=>obtain ⟨o,_,_,_,e,_⟩:=x;exact AI e
 |ins C dx fs=>obtain ⟨_,_,_,e,_⟩:=x;exact AI e
 |own y=>obtain ⟨_,e⟩:=x;exact AI e
 |xd fs=>obtain ⟨_,⟨_,_,_,e,_⟩,_⟩:=x;exact AI e
 |rng lo hi=>obtain ⟨_,_,_,e⟩:=x;exact AI e
 |frz ob u=>obtain ⟨e,_⟩:=x;exact AI e
 |tbl ps=>exact AI (show h.get? a=some _ from x)
 |met f y=>exact AI (show h.get? a=some _ from x)
 |ext φ=>obtain ⟨_,⟨_,e⟩,_⟩:=x;exact AI e
def Paired.mapP {α β:Type} {F G:α->β->Prop}:∀ {l₁:List α} {l₂:List β},Paired F l₁ l₂->(∀ a b,F a b->G a b)->Paired G l₁ l₂
 |_,_,.nil,_=> .nil
 |_,_,.cons r t,f=> .cons (f _ _ r) (Paired.mapP t f)
def zr.stay (x:zr P w H h a o) (k:∀ b u,(b=a\/H b=some (.own a))->h.get? b=some u->h'.get? b=some u)
  (ho:∀ b,H b=some (.own a)->H' b=some (.own a)) (ht:∀ b xs,H b=some (.tup xs)->H' b=some (.tup xs)):zr P w H' h' a o:=by
 induction o with
 |lst xs=>obtain ⟨z,its,n,r,e⟩:=x;exact ⟨z,its,n,r,k _ _ (.inl rfl) e⟩
 |tup xs=>obtain ⟨z,its,r,ob,e,c⟩:=x;exact ⟨z,its,r,ob,k _ _ (.inl rfl) e,c⟩
 |dK kvs=>obtain ⟨z,y,vs,r,ob,es,ep,e,c⟩:=x;exact ⟨z,y,vs,r,ob,es,ep,k _ _ (.inl rfl) e,c⟩
 |dT kvs=>
  obtain ⟨z,y,xs,r,ob,es,ep,e,c⟩:=x;exact ⟨z,y,xs,Paired.mapP r λp q z=>⟨z.1,ht _ _ z.2.1,z.2.2⟩,ob,es,ep,k _ _ (.inl rfl) e,c⟩
 |set S n=>obtain ⟨ob,es,ep,t,e,c⟩:=x;exact ⟨ob,es,ep,t,k _ _ (.inl rfl) e,c⟩
 |ins C dx fs=>
  obtain ⟨d,z,ne,e,mA,⟨od,es,ep,e2,c⟩,r⟩:=x;exact ⟨ho _ d,z,ne,k _ _ (.inl rfl) e,mA,⟨od,es,ep,k _ _ (.inr d) e2,c⟩,r⟩
 |own y=>obtain ⟨ob,e⟩:=x;exact ⟨ob,k _ _ (.inl rfl) e⟩
 |xd fs=>obtain ⟨mA,⟨od,es,ep,e,c⟩,r⟩:=x;exact ⟨mA,⟨od,es,ep,k _ _ (.inl rfl) e,c⟩,r⟩
 |rng lo hi=>obtain ⟨t,u,v,e⟩:=x;exact ⟨t,u,v,k _ _ (.inl rfl) e⟩
 |frz ob u ih=>obtain ⟨e,q⟩:=x;exact ⟨k _ _ (.inl rfl) e,ih q⟩
 |tbl ps=>
  have e:h.get? a=some { cls:=.none,data:=.fields ps }:=x;show h'.get? a=some { cls:=.none,data:=.fields ps };exact k a _ (.inl rfl) e
 |met f y=>
  have e:h.get? a=some (PySem.W.methodObj (.ref f) (.ref y)):=x;show h'.get? a=some (PySem.W.methodObj (.ref f) (.ref y));exact k a _ (.inl rfl) e
 |ext φ=>obtain ⟨p,⟨o,e⟩,st⟩:=x;exact ⟨st _ _ p λo q=>k _ _ (.inl rfl) q,⟨o,k _ _ (.inl rfl) e⟩,st⟩
def HOk.lt (x:HOk P w H h) (e:H a=some o):a<h.objs.size:=(x a o e).lt
def HOk.fresh (x:HOk P w H h) (e:h.objs.size<=a):H a=none:=by
 cases q:H a with
 |none=>rfl
 |some u=>exact absurd (Az (x.lt q) e) (Bh _)
def HOk.kept (x:HOk P w H h) (k:∀ b u,h.get? b=some u->h'.get? b=some u):HOk P w H h':=λa o e=>
 (x a o e).stay (λb u _ q=>k b u q) (λ_ q=>q) λ_ _ q=>q
def HOk.laid (x:HOk P w H h) (k:∀ b u,h.get? b=some u->h'.get? b=some u) (hp:h.objs.size<=a) (new:zr P w (upd H a o) h' a o):HOk P w (upd H a o) h':=λb u e=>by
 have hn:=x.fresh hp;by_cases hb:b=a
 .subst hb;rw[zq]at e;cases e;exact new
 .rw[zP hb]at e;exact (x b u e).stay (λc v _ q=>k c v q) (λc q=>by rw[zP (zi q hn)];exact q) λc xs q=>by rw[zP (zi q hn)];exact q
end
def Rd (H:Hp) (a:Yt) (u:HO):Prop:=H a=some u \/ ∃ o,H a=some (.frz o u)
def Rd.ok {P:Ym} {w:Yo} {H:Hp} {h:Heap} {a:Yt} {u:HO} (r:Rd H a u) (x:HOk P w H h):zr P w H h a u:=by
 rcases r with r|⟨o,r⟩
 .exact x a u r
 .obtain ⟨_,q⟩:=x a _ r;exact q
def Mut:Option HO->Prop
 |some (.lst _)=>True
 |some (.dK _)=>True
 |some (.dT _)=>True
 |some (.set _ _)=>True
 |some (.ins _ _ _)=>True
 |some (.ext _)=>True
 |_=>False
section
variable {P:Ym} {w:Yo} {H:Hp} {h h':Heap} {x e:Yt} {o':HO}
def HOk.write (ok:HOk P w H h) (mu:Mut (H x)) (he:e=x\/H e=some (.own x)) (k:∀ b u,b≠e->h.get? b=some u->h'.get? b=some u) (heo:∃ u,h'.get? e=some u)
  (new:zr P w (upd H x o') h' x o'):HOk P w (upd H x o') h':=λb u q=>by
 have nown:∀ c y,H c=some (.own y)->c≠x:=λc y r z=>by subst z;rw[r]at mu;exact mu
 have ntup:∀ c xs,H c=some (.tup xs)->c≠x:=λc xs r z=>by subst z;rw[r]at mu;exact mu
 by_cases hb:b=x
 .subst hb;rw[zq]at q;cases q;exact new
 .rw[zP hb]at q;by_cases hbe:b=e
  .have q':H b=some (.own x):=by
    rcases he with z|z
    .exact absurd (hbe.trans z) hb
    .rw[hbe];exact z
   rw[q]at q';cases q';obtain ⟨v,hv⟩:=heo;exact ⟨v,by rw[hbe];exact hv⟩
  .refine (ok b u q).stay (λc v hc r=>k c v ?_ r) (λc r=>by rw[zP (nown c b r)];exact r) λc xs r=>by rw[zP (ntup c xs r)];exact r
   rcases hc with rfl|hc
   .exact hbe
   .rintro rfl;rcases he with z|z
    .exact nown c b hc z
    .rw[hc]at z;cases z;exact hb rfl
end
structure Un (fs ex:Yg) (H H':Hp) (h h':Heap):Prop where
 keep:∀ b o,h.get? b=some o->H b=none->b∉fs->b∉ex->h'.get? b=some o
 slot:∀ b o,h.get? b=some o->H b=none->b∈fs->b∉ex -> ∃ sl,h'.get? b=some { o with slots:=sl }
 free:∀ b o,h.get? b=some o->H b=none->b∉ex->H' b=none
 there:∀ b o,h.get? b=some o->b∉ex -> ∃ o',h'.get? b=some o'
 tups:∀ b xs,H b=some (.tup xs)->H' b=some (.tup xs)
 frzs:∀ b o u,H b=some (.frz o u)->H' b=some (.frz o u)
 tbls:∀ b ps,H b=some (.tbl ps) -> ∃ more,H' b=some (.tbl (ps++more))
section
variable {fs fs' ex ex':Yg} {H H1 H2:Hp} {h h1 h2 h':Heap} {a x e:Yt} {o:HO}
def Un.any (u:Un fs ex H H1 h h1) {b:Yt} {ob:Obj} (q:h.get? b=some ob) (n:H b=none) (hx:b∉ex):∃ sl,h1.get? b=some { ob with slots:=sl }:=by
 by_cases hb:b∈fs
 .exact u.slot b ob q n hb hx
 .exact ⟨ob.slots,u.keep b ob q n hb hx⟩
def Un.kept (k:∀ b u,h.get? b=some u->h'.get? b=some u):Un fs ex H H h h' :=
 ⟨λb ob q _ _ _=>k b ob q,λb ob q _ _ _=>⟨ob.slots,k b ob q⟩,λ_ _ _ n _=>n,λb ob q _=>⟨ob,k b ob q⟩,λ_ _ q=>q,λ_ _ _ q=>q,λ_ ps q=>⟨#[],by rw[q];simp⟩⟩
def Un.refl:Un fs ex H H h h:=Un.kept λ_ _ q=>q
def Un.laid (k:∀ b u,h.get? b=some u->h'.get? b=some u) (hp:h.objs.size<=a) (hn:H a=none):Un fs ex H (upd H a o) h h' where
 keep:=λb u q _ _ _=>k b u q;slot:=λb u q _ _ _=>⟨u.slots,k b u q⟩;free:=λb u q n _=>by rw[zP (AX (Az (AI q) hp))];exact n
 there:=λb u q _=>⟨u,k b u q⟩;tups:=λb xs q=>by rw[zP (zi q hn)];exact q
 frzs:=λb u xs q=>by rw[zP (zi q hn)];exact q
 tbls:=λb ps q=>⟨#[],by rw[zP (zi q hn),q];simp⟩
def Un.write (mu:Mut (H x)) (he:e=x\/H e=some (.own x)) (k:∀ b u,b≠e->h.get? b=some u->h'.get? b=some u) (heo:∃ u,h'.get? e=some u):Un fs ex H (upd H x o) h h':=by
 have hx:∀ b,H b=none->b≠x:=λb n z=>by subst z;rw[n]at mu;exact mu
 have hb:∀ b,H b=none->b≠e:=λb n z=>by
  subst z;rcases he with r|r
  .exact hx b n r
  .rw[n]at r;cases r
 have hm:∀ b u,H b=some u -> ¬ Mut (some u)->b≠x:=λb u q nm z=>by subst z;rw[q]at mu;exact nm mu
 refine ⟨λb u q n _ _=>k b u (hb b n) q,λb u q n _ _=>⟨u.slots,k b u (hb b n) q⟩,λb u q n _=>by rw[zP (hx b n)];exact n,λb u q _=>?_,
  λb xs q=>by rw[zP (hm b _ q λz=>z)];exact q,λb u xs q=>by rw[zP (hm b _ q λz=>z)];exact q,λb ps q=>⟨#[],by rw[zP (hm b _ q λz=>z),q];simp⟩⟩
 by_cases hbe:b=e
 .subst hbe;exact heo
 .exact ⟨u,k b u hbe q⟩
end
noncomputable def trk (h:Heap) (H:Hp):List Addr:=(List.range h.objs.size).filter λa=>(H a).isSome
noncomputable def EB (h:Heap) (H:Hp):Heap:=PySem.W.hideAll h (trk h H)
def Rn (h:Heap) (H:Hp):(EB h H).objs.size=h.objs.size:=PySem.W.hideAll_size _ _
def U3 {h:Heap} {H:Hp} {b:Yt} {o:Obj} (e:h.get? b=some o) (n:H b=none):(EB h H).get? b=some o :=
 PySem.W.hideAll_get _ e λhm=>by
  have q:(H b).isSome=true:=(List.mem_filter.mp hm).2;rw[n]at q;simp at q
def ZZ {h:Heap} {H:Hp} {b:Yt} {o:Obj} (e:(EB h H).get? b=some o):h.get? b=some o/\H b=none:=by
 have e':h.get? b=some o:=PySem.W.of_hideAll (trk h H) e;refine ⟨e',?_⟩;cases q:H b with
 |none=>rfl
 |some x=>
  have hm:b∈trk h H:=List.mem_filter.mpr ⟨DD.mpr (AI e'),by simp[q]⟩;have z:(EB h H).get? b=none:=PySem.W.hideAll_none (trk h H) hm;rw[z]at e;cases e
def BMn (mg:Str->Option Value) (h:Heap):Prop:=∃ bm ob,mg "__builtins__" = some (.ref bm)/\bm≠builtinsNs/\h.get? bm=some ob/\ob.cls=.type "module" /\ ob.dict=some builtinsNs/\ob.data=.plain
structure Mod (K:Yb) (mg:Yh) (base:Heap):Prop where
 kin:K.In base
 glob:base.Ns mainGlobals mg
 blt:∃ mb,base.Ns builtinsNs mb /\ ∀ x:Str,x ≠ "__name__" -> mb x=bootBuiltins x
 nolimit:base.NoLimit
 bmn:BMn mg base
structure Cx where
 prog:Program
 w:World
 K:PySem.W.Frag
 mg:Str->Option Value
 base:Heap
 A:Around
 N:List Str
 s₀:Shared
 H₀:Hp
 env:Env
 outer:List Env
 stack:List Env
 ex:List Addr
 fn:Str->Bool
 calm:Bool
 pn:List (Addr × Obj)
 xe:Value->Shared->Prop
noncomputable def frs (l:List Env):List Addr:=l.filterMap (·.frame)
noncomputable abbrev Cx.fs (X:Cx):List Addr:=frs X.outer
def Vis (sc:Y0) (x:Str):Prop:=sc.names.lookup x=some .local\/sc.names.lookup x=some .cell\/sc.names.lookup x=some .free
def Loc (sc:Y0) (x:Str):Prop:=sc.names.lookup x=some .local\/sc.names.lookup x=some .cell
def X8 (env:Env) (h:Heap) (m:Yh) (x:Str) (u:Yu):Prop :=
 (env.kindOf x=some .local/\m x=some u)\/((env.kindOf x=some .cell\/env.kindOf x=some .free) /\ ∃ c,env.cells.lookup x=some c/\h.IsCell c (some u))
structure Cx.Ok (X:Cx):Prop where
 mod:Mod X.K X.mg X.base
 kind:X.env.scope.kind=.function
 glob:X.env.globals=mainGlobals
 blt:X.env.builtins=builtinsNs
 above:X.s₀.heap.objs.size<=X.env.locals
 inj:∀ x y c,X.env.cells.lookup x=some c->X.env.cells.lookup y=some c->x=y
 has:∀ x,(X.env.kindOf x=some .cell\/X.env.kindOf x=some .free) -> ∃ c,X.env.cells.lookup x=some c
 cab:∀ x c,X.fn x=true->X.env.cells.lookup x=some c->X.s₀.heap.objs.size<=c
 hd:X.calm=true->X.A.handled=none
 frames:X.A.frames=some X.stack
 stk:X.stack=X.outer\/(X.stack=X.env::X.outer/\X.env.frame=some X.env.locals)
 exf:∀ b∈X.ex,b≠X.env.locals /\ ∀ x c,X.env.cells.lookup x=some c->c≠b
 bs:∀ b o,X.base.get? b=some o->X.s₀.heap.get? b=some o/\X.H₀ b=none
 bsz:X.base.objs.size<=X.s₀.heap.objs.size
 noex:∀ b o,X.base.get? b=some o->b∉X.ex
 exfs:∀ b∈X.ex,b∉X.fs
 funs:X.s₀.heap.FunFrames X.base X.outer
 frf:∀ b∈X.fs,X.H₀ b=none
structure Inv (X:Cx) (zB:Yd) (Y:List (Option V)) (H:Hp) (s:Yl):Prop where
 ok:X.Ok
 os:s.os=X.s₀.os
 bare:AllBare s.gens
 base:Un X.fs X.ex X.H₀ H X.s₀.heap s.heap
 loc:∃ m,s.heap.Ns X.env.locals m /\ ∀ (i:Nat) (x:Str) (v:V),X.N[i]?=some x->Y[i]?=some (some v)->Vis X.env.scope x -> ∃ u,zc v u/\X8 X.env s.heap m x u
 cell:∀ x c,X.env.cells.lookup x=some c -> ∃ v,s.heap.IsCell c v
 free:H X.env.locals=none
 freeC:∀ x c,X.env.cells.lookup x=some c->H c=none
 pin:∀ p∈X.pn++zB,s.heap.get? p.1=some p.2/\H p.1=none/\p.1≠X.env.locals/\p.1∉X.fs /\ ∀ v,p.2.data≠.cell v
 hok:HOk X.prog X.w H s.heap
 len:Y.length=X.N.length
section
variable {X:Cx} {zB:Yd} {Y:List (Option V)} {H H':Hp} {s:Yl} {h':Heap}
def Cx.Ok.nofr (ok:X.Ok) {b:Yt} {o:Obj} (e:X.base.get? b=some o):b∉X.fs:=λhb=>by
 have:=(ok.funs.mem hb).1;rw[e]at this;cases this
def Inv.bs (I:Inv X zB Y H s):∀ b o,X.base.get? b=some o->s.heap.get? b=some o/\H b=none:=λb o e=>
 ⟨I.base.keep b o (I.ok.bs b o e).1 (I.ok.bs b o e).2 (I.ok.nofr e) (I.ok.noex b o e),I.base.free b o (I.ok.bs b o e).1 (I.ok.bs b o e).2 (I.ok.noex b o e)⟩
def Inv.bk (I:Inv X zB Y H s):∀ b o,X.base.get? b=some o->s.heap.get? b=some o:=λb o e=>(I.bs b o e).1
def Inv.mod (I:Inv X zB Y H s):Mod X.K X.mg X.base:=I.ok.mod
def Inv.kIn (I:Inv X zB Y H s):X.K.In s.heap:=I.ok.mod.kin.keeps I.bk
def Inv.lt (I:Inv X zB Y H s):X.env.locals<s.heap.objs.size:=let ⟨_,hn,_⟩:=I.loc;hn.lt
def Inv.sz (I:Inv X zB Y H s):X.s₀.heap.objs.size<=s.heap.objs.size:=Ak I.ok.above (CP I.lt)
def Inv.nofs (I:Inv X zB Y H s) {a:Yt} (h:s.heap.objs.size<=a):a∉X.fs:=λhb=>by
 obtain ⟨_,o,ho,_⟩:=I.ok.funs.mem hb;exact absurd (Az (AI ho) (Ak I.sz h)) (Bh _)
def Inv.cne (I:Inv X zB Y H s):∀ x c,X.env.cells.lookup x=some c->c≠X.env.locals:=λx c e z=>by
 obtain ⟨v,o,ho,hd⟩:=I.cell x c e;obtain ⟨m,⟨o',es,ep,ho',hd',_⟩,_⟩:=I.loc;rw[z,ho']at ho;cases ho;rw[hd']at hd;cases hd
def Inv.funs (I:Inv X zB Y H s):s.heap.FunFrames X.base X.outer:=by
 have all:∀ (l:List Env),(∀ b∈frs l,b∈X.fs)->X.s₀.heap.FunFrames X.base l->s.heap.FunFrames X.base l:=by
  intro l;induction l with
  |nil=>intro _ _;trivial
  |cons env r ih=>
   intro hs hl;obtain ⟨hk,⟨L,o,hf,hn,ho,hd⟩,hr⟩:=hl;have hL:L∈X.fs:=hs L (by unfold frs;rw[List.filterMap_cons,hf];exact AW);obtain ⟨sl,e⟩:=I.base.slot L o ho (I.ok.frf L hL) hL λz=>I.ok.exfs L z hL;exact ⟨hk,⟨L,_,hf,hn,e,hd⟩,ih (λb hb=>hs b (by unfold frs;rw[List.filterMap_cons,hf];exact Am _ hb)) hr⟩
 exact all X.outer (λ_ hb=>hb) I.ok.funs
def Inv.stack (I:Inv X zB Y H s):s.heap.FunFrames X.base X.stack:=by
 rcases I.ok.stk with e|⟨e,hf⟩
 .rw[e];exact I.funs
 .rw[e];obtain ⟨m,hn,_⟩:=I.loc;refine .cons (by rw[I.ok.kind];decide) hf hn ?_ I.funs;exact Heap.get?_none_of_le (Ak I.ok.bsz I.ok.above)
def Inv.stkSub (I:Inv X zB Y H s):∀ b∈frs X.stack,b∈X.env.locals::X.fs:=λb hb=>by
 rcases I.ok.stk with e|⟨e,hf⟩
 .rw[e]at hb;exact Am _ hb
 .rw[e]at hb;unfold frs at hb;rw[List.filterMap_cons,hf]at hb;exact hb
def Inv.stkFree (I:Inv X zB Y H s):∀ b∈frs X.stack,H b=none:=λb hb=>by
 rcases AL.mp (I.stkSub b hb)with e|hb
 .rw[e];exact I.free
 .obtain ⟨_,o,ho,_⟩:=I.ok.funs.mem hb;exact I.base.free b o ho (I.ok.frf b hb) λz=>I.ok.exfs b z hb
def Inv.step {g':Array GenState} {t':Nat} {d':Drawn} {ch:Yg} (I:Inv X zB Y H s)
  (hch:∀ b∈ch,(b∈X.ex\/X.s₀.heap.objs.size<=b)/\b≠X.env.locals/\(∀ x c,X.env.cells.lookup x=some c->c≠b) /\ ∀ p∈X.pn++zB,p.1≠b)
  (keep:∀ b o,b≠X.env.locals->b∉X.fs->b∉ch->s.heap.get? b=some o->H b=none->h'.get? b=some o)
  (slot:∀ b o,b≠X.env.locals->b∈X.fs->b∉ch->s.heap.get? b=some o->H b=none -> ∃ sl,h'.get? b=some { o with slots:=sl }) (free:∀ b o,b∉ch->s.heap.get? b=some o->H b=none->H' b=none)
  (there:∀ b o,b∉ch->s.heap.get? b=some o -> ∃ o',h'.get? b=some o')
  (tups:∀ b xs,H b=some (.tup xs)->H' b=some (.tup xs)) (frzs:∀ b o u,H b=some (.frz o u)->H' b=some (.frz o u)) (tbls:∀ b ps,H b=some (.tbl ps) -> ∃ more,H' b=some (.tbl (ps++more)))
  (ns:∀ m,s.heap.Ns X.env.locals m->h'.Ns X.env.locals m) (hok:HOk X.prog X.w H' h') (hg:AllBare g') :
  Inv X zB Y H' { s with heap:=h',gens:=g',drawn:=d',toks:=t' }:=by
 have neL:∀ b o,X.s₀.heap.get? b=some o->b≠X.env.locals:=λb o e=>AX (Az (AI e) I.ok.above);have neC:∀ b o,X.s₀.heap.get? b=some o->b∉X.ex->b∉ch:=λb o e hx hb=>by
  rcases (hch b hb).1 with z|z
  .exact hx z
  .exact absurd (Az (AI e) z) (Bh _)
 have cellK:∀ x c,X.env.cells.lookup x=some c -> ∀ v,s.heap.IsCell c v->h'.IsCell c v:=λx c e v ⟨o,ho,hd⟩=>by
  have nch:c∉ch:=λz=>(hch c z).2.2.1 x c e rfl;by_cases hc:c∈X.fs
  .obtain ⟨sl,q⟩:=slot c o (I.cne x c e) hc nch ho (I.freeC x c e);exact ⟨_,q,hd⟩
  .exact ⟨o,keep c o (I.cne x c e) hc nch ho (I.freeC x c e),hd⟩
 refine ⟨I.ok,I.os,hg,⟨λb o e n hb hx=>?_,λb o e n hb hx=>?_,λb o e n hx=>?_,λb o e hx=>?_,λb xs e=>tups b xs (I.base.tups b xs e),λb o xs e=>frzs b o xs (I.base.frzs b o xs e),λb ps e=>?_⟩,?_,λx c e=>?_,?_,λx c e=>?_,λp hp=>?_,hok,I.len⟩
 .exact keep b o (neL b o e) hb (neC b o e hx) (I.base.keep b o e n hb hx) (I.base.free b o e n hx)
 .obtain ⟨sl,e1⟩:=I.base.slot b o e n hb hx;obtain ⟨sl',e2⟩:=slot b _ (neL b o e) hb (neC b o e hx) e1 (I.base.free b o e n hx);exact ⟨sl',e2⟩
 .obtain ⟨o',e1⟩:=I.base.there b o e hx;exact free b o' (neC b o e hx) e1 (I.base.free b o e n hx)
 .obtain ⟨o',e1⟩:=I.base.there b o e hx;exact there b o' (neC b o e hx) e1
 .obtain ⟨m1,e1⟩:=I.base.tbls b ps e;obtain ⟨m2,e2⟩:=tbls b _ e1;exact ⟨m1++m2,by rw[e2,Array.append_assoc]⟩
 .obtain ⟨m,hn,hl⟩:=I.loc;refine ⟨m,ns m hn,λi x v e1 e2 e3=>?_⟩;obtain ⟨u,r,l⟩:=hl i x v e1 e2 e3;refine ⟨u,r,?_⟩;rcases l with l|⟨k,c,e,z⟩
  .exact .inl l
  .exact .inr ⟨k,c,e,cellK x c e _ z⟩
 .obtain ⟨v,z⟩:=I.cell x c e;exact ⟨v,cellK x c e v z⟩
 .obtain ⟨m,⟨o,_,_,ho,_⟩,_⟩:=I.loc;exact free _ o (λz=>(hch _ z).2.1 rfl) ho I.free
 .obtain ⟨v,o,ho,hd⟩:=I.cell x c e;exact free c o (λz=>(hch c z).2.2.1 x c e rfl) ho (I.freeC x c e)
 .obtain ⟨e,n,ne,nf,d⟩:=I.pin p hp;have nch:p.1∉ch:=λz=>(hch p.1 z).2.2.2 p hp rfl;exact ⟨keep p.1 p.2 ne nf nch e n,free p.1 p.2 nch e n,ne,nf,d⟩
def Inv.un {t':Nat} (I:Inv X zB Y H s) (u:Un X.fs [] H H' s.heap h') (hok:HOk X.prog X.w H' h'):Inv X zB Y H' { s with heap:=h',toks:=t' }:=by
 obtain ⟨m,⟨o,es,ep,ho,r⟩,_⟩:=id I.loc;obtain ⟨sl,hL⟩:=u.any ho I.free (by simp);exact I.step (g':=s.gens) (d':=s.drawn) (ch:=[]) (λ_ z=>nomatch z) (λb o _ hb _ e n=>u.keep b o e n hb (by simp)) (λb o _ hb _ e n=>u.slot b o e n hb (by simp)) (λb o _ e n=>u.free b o e n (by simp)) (λb o _ e=>u.there b o e (by simp)) u.tups u.frzs u.tbls (λm' hm=>by
  obtain ⟨o',es',ep',ho',r'⟩:=hm;rw[ho]at ho';cases ho';exact ⟨_,es',ep',hL,r'⟩) hok I.bare
def Inv.call {g':Array GenState} {t':Nat} {d':Drawn} {ch:Yg} (I:Inv X zB Y H s) (u:Un (frs X.stack) ch H H' s.heap h') (hok:HOk X.prog X.w H' h') (hg:AllBare g')
  (hch:∀ b∈ch,(b∈X.ex\/X.s₀.heap.objs.size<=b)/\b≠X.env.locals/\(∀ x c,X.env.cells.lookup x=some c->c≠b) /\ ∀ p∈X.pn++zB,p.1≠b) :
  Inv X zB Y H' { s with heap:=h',gens:=g',drawn:=d',toks:=t' }:=by
 obtain ⟨m,⟨o,es,ep,ho,r⟩,_⟩:=id I.loc;obtain ⟨sl,hL⟩:=u.any ho I.free λz=>(hch _ z).2.1 rfl;exact I.step (ch:=ch) hch (λb o hL hb hc e n=>u.keep b o e n (λz=>(AL.mp (I.stkSub b z)).elim hL hb) hc) (λb o _ _ hc e n=>u.any e n hc) (λb o hc e n=>u.free b o e n hc) (λb o hc e=>u.there b o e hc) u.tups u.frzs u.tbls (λm' hm=>by
  obtain ⟨o',es',ep',ho',r'⟩:=hm;rw[ho]at ho';cases ho';exact ⟨_,es',ep',hL,r'⟩) hok hg
def Inv.turned {t':Nat} {it:Yt} (I:Inv X zB Y H s) (k:∀ b o,b≠it->s.heap.get? b=some o->h'.get? b=some o) (hn:H it=none) (hL:it≠X.env.locals)
  (h1:it∈X.ex\/X.s₀.heap.objs.size<=it) (h2:∀ x c,X.env.cells.lookup x=some c->c≠it) (h3:∀ p∈X.pn++zB,p.1≠it):Inv X zB Y H { s with heap:=h',toks:=t' }:=by
 have nit:∀ b u,H b=some u->b≠it:=λb u e z=>by rw[z,hn]at e;cases e
 refine I.step (g':=s.gens) (d':=s.drawn) (ch:=[it]) (λb hb=>?_) (λb o _ _ hc e _=>k b o (λz=>hc (by simp[z])) e) (λb o _ _ hc e _=>⟨o.slots,k b o (λz=>hc (by simp[z])) e⟩) (λ_ _ _ _ n=>n)
  (λb o hc e=>⟨o,k b o (λz=>hc (by simp[z])) e⟩) (λ_ _ e=>e) (λ_ _ _ e=>e) (λb ps e=>⟨#[],by rw[e];simp⟩) (λm hm=>?_) (λb u e=>?_) I.bare
 .have e:b=it:=by simpa using hb
  subst e;exact ⟨h1,hL,h2,h3⟩
 .obtain ⟨o,es,ep,ho,r⟩:=hm;exact ⟨o,es,ep,k _ o (Ne.symm hL) ho,r⟩
 .refine (I.hok b u e).stay (λc v hc q=>k c v ?_ q) (λ_ q=>q) λ_ _ q=>q;rcases hc with z|z
  .rw[z];exact nit b u e
  .exact nit c _ z
def Inv.tok (I:Inv X zB Y H s) (t:Nat):Inv X zB Y H { s with toks:=t }:=I.un (h':=s.heap) (t':=t) Un.refl I.hok
def Inv.kept {t':Nat} (I:Inv X zB Y H s) (k:∀ b u,s.heap.get? b=some u->h'.get? b=some u):Inv X zB Y H { s with heap:=h',toks:=t' }:=I.un (Un.kept k) (I.hok.kept k)
def Inv.laid {a:Yt} {o:HO} {t':Nat} (I:Inv X zB Y H s) (k:∀ b u,s.heap.get? b=some u->h'.get? b=some u) (hp:s.heap.objs.size<=a) (new:zr X.prog X.w (upd H a o) h' a o) :
  Inv X zB Y (upd H a o) { s with heap:=h',toks:=t' }:=I.un (Un.laid k hp (I.hok.fresh hp)) (I.hok.laid k hp new)
def Inv.write {x e:Yt} {o:HO} {t':Nat} (I:Inv X zB Y H s) (mu:Mut (H x)) (he:e=x\/H e=some (.own x)) (k:∀ b u,b≠e->s.heap.get? b=some u->h'.get? b=some u) (heo:∃ u,h'.get? e=some u)
  (new:zr X.prog X.w (upd H x o) h' x o):Inv X zB Y (upd H x o) { s with heap:=h',toks:=t' }:=I.un (Un.write mu he k heo) (I.hok.write mu he k heo new)
def Inv.weak {Y':List (Option V)} (I:Inv X zB Y H s) (hl:Y'.length=Y.length) (w:∀ (i:Nat) v,Y'[i]?=some (some v)->Y[i]?=some (some v)):Inv X zB Y' H s :=
 ⟨I.ok,I.os,I.bare,I.base,let ⟨m,hn,hl'⟩:=I.loc;⟨m,hn,λi x v e1 e2 e3=>hl' i x v e1 (w i v e2) e3⟩,I.cell,I.free,I.freeC,I.pin,I.hok,hl.trans I.len⟩
def Inv.pins_of {pins':Yd} (I:Inv X zB Y H s) (h:∀ p∈pins',s.heap.get? p.1=some p.2/\H p.1=none/\p.1≠X.env.locals/\p.1∉X.fs /\ ∀ v,p.2.data≠.cell v):Inv X pins' Y H s :=
 ⟨I.ok,I.os,I.bare,I.base,I.loc,I.cell,I.free,I.freeC,λp hp=>(AV.mp hp).elim (λz=>I.pin p (E4 _ z)) (h p),I.hok,I.len⟩
def ON {N:Yk} (hN:N.Nodup) {i j:Nat} {x:Str} (a:N[i]?=some x) (b:N[j]?=some x):i=j:=by
 obtain ⟨h1,e1⟩:=AK.mp a;obtain ⟨h2,e2⟩:=AK.mp b;exact (List.getElem_inj hN).mp (e1.trans e2.symm)
def WI {M:Model} {A:Yn} {E:Yc} {i:Nat} {x:Str} {v:V} {u:Yu} {Q:Unit->Shared->Prop} (I:Inv X zB Y H s) (hN:X.N.Nodup) (hi:X.N[i]?=some x) (hx:Loc X.env.scope x) (r:zc v u)
  (h:∀ s',Inv X zB (Y.set i (some v)) H s'->(∃ a,Heap.SameBut a s.heap s'.heap/\(a=X.env.locals\/X.env.cells.lookup x=some a))->Q () s') (hf:X.fn x=true\/X.env.scope.names.lookup x=some .local:=by first|exact .inl rfl|exact .inr rfl|assumption):wpAny M A (storeName X.env x u) Q E s:=by
 obtain ⟨m,hn,hl⟩:=id I.loc;have hcls:(X.env.scope.kind == .class||(X.env.scope.kind == .module&&X.env.locals != X.env.globals))=false:=by rw[I.ok.kind];rfl
 have hiσ:i<Y.length:=by rw[I.len];exact (AK.mp hi).1
 have cne:=I.cne;have tracked:∀ {a:Yt} {h':Heap},(∃ o,s.heap.get? a=some o/\H a=none)->Heap.SameBut a s.heap h'->HOk X.prog X.w H h':=λ{a h'} ha hs b ob e=>by
  obtain ⟨_,_,hfree⟩:=ha;refine (I.hok b ob e).stay (λc w' hc q=>(hs.2 c ?_).trans q) (λ_ q=>q) λ_ _ q=>q;rintro rfl;rcases hc with rfl|hc
  .rw[hfree]at e;cases e
  .rw[hfree]at hc;cases hc
 rcases hx with hk|hk
 .refine wpAny_storeName_local hk hn (λh' hn' hs=>?_) hcls;obtain ⟨oL,_,_,hoL,_⟩:=id hn;refine h _ ⟨I.ok,I.os,I.bare,⟨λb o e n hb hx=>?_,λb o e n hb hx=>?_,I.base.free,λb o e hx=>?_,I.base.tups,I.base.frzs,I.base.tbls⟩,⟨_,hn',λj y v' e1 e2 e3=>?_⟩,λy c e=>?_,I.free,I.freeC,λp hp=>?_,tracked ⟨oL,hoL,I.free⟩ hs,by simpa using I.len⟩ ⟨_,hs,.inl rfl⟩
  .exact (hs.2 b (AX (Az (AI e) I.ok.above))).trans (I.base.keep b o e n hb hx)
  .obtain ⟨sl,e1⟩:=I.base.slot b o e n hb hx;exact ⟨sl,(hs.2 b (AX (Az (AI e) I.ok.above))).trans e1⟩
  .obtain ⟨o',e1⟩:=I.base.there b o e hx;exact ⟨o',(hs.2 b (AX (Az (AI e) I.ok.above))).trans e1⟩
  .by_cases hj:j=i
   .subst hj;rw[hi]at e1;cases e1;rw[Bn hiσ]at e2;cases e2;exact ⟨u,r,.inl ⟨hk,by simp⟩⟩
   .rw[Av (Ne.symm hj)]at e2;obtain ⟨u',r',q⟩:=hl j y v' e1 e2 e3;refine ⟨u',r',?_⟩;rcases q with ⟨k,e⟩|⟨k,c,e,z⟩
    .refine .inl ⟨k,?_⟩;have:y≠x:=λe=>hj (ON hN e1 (e▸hi));simp[this,e]
    .exact .inr ⟨k,c,e,z.sameBut hs (cne y c e)⟩
  .obtain ⟨w',z⟩:=I.cell y c e;exact ⟨w',z.sameBut hs (cne y c e)⟩
  .obtain ⟨e,n,ne,nf,d⟩:=I.pin p hp;exact ⟨(hs.2 p.1 ne).trans e,n,ne,nf,d⟩
 .have hfn:X.fn x=true:=by
   rcases hf with z|z
   .exact z
   .rw[z]at hk;cases hk
  obtain ⟨c,hc⟩:=I.ok.has x (.inl hk);obtain ⟨w',z⟩:=I.cell x c hc;refine wpAny_storeName_cell I.ok.kind hk hc z (λh' hc' hs=>?_);obtain ⟨oc,hoc,hocd⟩:=id z;refine h { s with heap:=h' } ⟨I.ok,I.os,I.bare,⟨λb o e n hb hx=>?_,λb o e n hb hx=>?_,I.base.free,λb o e hx=>?_,I.base.tups,I.base.frzs,I.base.tbls⟩,⟨m,hn.sameBut hs (Ne.symm (cne x c hc)),λj y v' e1 e2 e3=>?_⟩,λy c' e=>?_,I.free,I.freeC,λp hp=>?_,tracked ⟨oc,hoc,I.freeC x c hc⟩ hs,by simpa using I.len⟩ ⟨c,hs,.inr hc⟩
  .exact (hs.2 b (AX (Az (AI e) (I.ok.cab x c hfn hc)))).trans (I.base.keep b o e n hb hx)
  .obtain ⟨sl,e1⟩:=I.base.slot b o e n hb hx;exact ⟨sl,(hs.2 b (AX (Az (AI e) (I.ok.cab x c hfn hc)))).trans e1⟩
  .obtain ⟨o',e1⟩:=I.base.there b o e hx;exact ⟨o',(hs.2 b (AX (Az (AI e) (I.ok.cab x c hfn hc)))).trans e1⟩
  .by_cases hj:j=i
   .subst hj;rw[hi]at e1;cases e1;rw[Bn hiσ]at e2;cases e2;exact ⟨u,r,.inr ⟨.inl hk,c,hc,hc'⟩⟩
   .rw[Av (Ne.symm hj)]at e2;obtain ⟨u',r',q⟩:=hl j y v' e1 e2 e3;refine ⟨u',r',?_⟩;rcases q with q|⟨k,c',e,z'⟩
    .exact .inl q
    .refine .inr ⟨k,c',e,z'.sameBut hs ?_⟩;rintro rfl;exact hj (ON hN e1 (I.ok.inj _ _ _ e hc▸hi))
  .by_cases hcc:c'=c
   .subst hcc;exact ⟨_,hc'⟩
   .obtain ⟨w2,z2⟩:=I.cell y c' e;exact ⟨w2,z2.sameBut hs hcc⟩
  .obtain ⟨e,n,ne,nf,d⟩:=I.pin p hp;refine ⟨(hs.2 p.1 ?_).trans e,n,ne,nf,d⟩;intro q;rw[q,hoc]at e;have q':oc=p.2:=Bc e;exact d w' (by rw[<-q'];exact hocd)
def Pn {M:Model} {A:Yn} {E:Yc} {i:Nat} {x:Str} {v:V} {u:Yu} {Q:Unit->Shared->Prop} (I:Inv X zB Y H s) (hN:X.N.Nodup) (hi:X.N[i]?=some x) (hx:Loc X.env.scope x) (r:zc v u)
  (h:∀ s',Inv X zB (Y.set i (some v)) H s'->Q () s') (hf:X.fn x=true\/X.env.scope.names.lookup x=some .local:=by first|exact .inl rfl|exact .inr rfl|assumption):wpAny M A (storeName X.env x u) Q E s :=
 WI I hN hi hx r (λs' I' _=>h s' I') hf
def Inv.call' {s':Yl} {ch:Yg} (I:Inv X zB Y H s) (ho:s'.os=s.os) (u:Un (frs X.stack) ch H H' s.heap s'.heap) (hok:HOk X.prog X.w H' s'.heap) (hg:AllBare s'.gens)
  (hch:∀ b∈ch,(b∈X.ex\/X.s₀.heap.objs.size<=b)/\b≠X.env.locals/\(∀ x c,X.env.cells.lookup x=some c->c≠b) /\ ∀ p∈X.pn++zB,p.1≠b):Inv X zB Y H' s':=by
 obtain ⟨h',g',d',t',o'⟩:=s';have e:o'=s.os:=ho;subst e;exact I.call (g':=g') (t':=t') (d':=d') u hok hg hch
end
noncomputable abbrev XK:=Value->Option Addr->Hp->Prop
noncomputable abbrev St:=List (Option V)
noncomputable abbrev VK:=V->Hp->Prop
noncomputable abbrev TE:=St->Hp->VK->Prop
noncomputable abbrev TT:=St->Hp->(Bool->Hp->Prop)->Prop
noncomputable abbrev TA:=St->Hp->(List V->Hp->Prop)->Prop
structure Ends where
 nx:St->Hp->Prop
 rt:VK
 bk:St->Hp->Prop:=λ_ _=>False
 ct:St->Hp->Prop:=λ_ _=>False
noncomputable abbrev TS:=Ends->St->Hp->Prop
def EP (X:Cx) (zB:Yd) (Y:St) (Q:VK) (u:Yu) (s':Yl):Prop:=∃ v H',Inv X zB Y H' s'/\zc v u/\Q v H'
def TP (X:Cx) (zB:Yd) (Y:St) (Q:Bool->Hp->Prop) (b:Bool) (s':Yl):Prop:=∃ H',Inv X zB Y H' s'/\Q b H'
def AP (X:Cx) (zB:Yd) (Y:St) (Q:List V->Hp->Prop) (us:Yf) (s':Yl):Prop:=∃ vs H',Inv X zB Y H' s'/\zX vs us/\Q vs H'
def SP (X:Cx) (zB:Yd) (D:Ends) (f:Flow) (s':Yl):Prop :=
 match f with
 |.next=>∃ Y' H',Inv X zB Y' H' s'/\D.nx Y' H'
 |.brk=>∃ Y' H',Inv X zB Y' H' s'/\D.bk Y' H'
 |.cont=>∃ Y' H',Inv X zB Y' H' s'/\D.ct Y' H'
 |.ret u=>∃ v Y' H',Inv X zB Y' H' s'/\zc v u/\D.rt v H'
def PE (X:Cx) (e:Expr) (t:TE):Prop :=
 ∀ (zB:Yd) (s:Yl) (Y:St) (H:Hp) (Q:VK),Inv X zB Y H s->t Y H Q->wpAny (model X.prog X.w) X.A (eval e X.env) (EP X zB Y Q) X.xe s
def PT (X:Cx) (e:Expr) (t:TT):Prop :=
 ∀ (zB:Yd) (s:Yl) (Y:St) (H:Hp) (Q:Bool->Hp->Prop),Inv X zB Y H s->t Y H Q->wpAny (model X.prog X.w) X.A (isTrue e X.env (eval e X.env)) (TP X zB Y Q) X.xe s
def PW (X:Cx) (e:Expr) (t:TT):Prop :=
 ∀ (whole:Sem Value) (zB:Yd) (s:Yl) (Y:St) (H:Hp) (Q:Bool->Hp->Prop),Inv X zB Y H s->t Y H Q->wpAny (model X.prog X.w) X.A (isTrue e X.env whole) (TP X zB Y Q) X.xe s
def PW.pt {X:Cx} {e:Expr} {t:TT} (h:PW X e t):PT X e t:=h _
def PA (X:Cx) (es:Yi) (t:TA):Prop :=
 ∀ (pos:Pos) (zB:Yd) (s:Yl) (Y:St) (H:Hp) (Q:List V->Hp->Prop),Inv X zB Y H s->t Y H Q->wpAny (model X.prog X.w) X.A (spliced (backTo pos (starEach es X.env))) (AP X zB Y Q) X.xe s
def PS (X:Cx) (st:Stmt) (t:TS):Prop :=
 ∀ (zB:Yd) (s:Yl) (Y:St) (H:Hp) (D:Ends),Inv X zB Y H s->t D Y H->wpAny (model X.prog X.w) X.A (exec st X.env) (SP X zB D) X.xe s
def PSs (X:Cx) (st:Yy) (t:TS):Prop :=
 ∀ (zB:Yd) (s:Yl) (Y:St) (H:Hp) (D:Ends),Inv X zB Y H s->t D Y H->wpAny (model X.prog X.w) X.A (execs st X.env) (SP X zB D) X.xe s
def thn {α:Type} {t:Sem α} {Q Q':α->Shared->Prop} {M:Model} {A:Yn} {E:Yc} {s:Yl} (h:wpAny M A t Q E s) (hQ:∀ a s,Q a s->Q' a s):wpAny M A t Q' E s:=Ar h hQ λ_ _ x=>x
section
variable {X:Cx}
noncomputable def Lp (i:Nat):TE:=λY H Q=>∃ v,Y[i]?=some (some v)/\Q v H
noncomputable def tC (v:V):TE:=λ_ H Q=>Q v H
def Nk {i:Nat} {x:Str} {pos:Pos} (hN:X.N[i]?=some x) (hv:Vis X.env.scope x) (hd:(x==("__debug__" : Str))=false:=by decide) (hcd:(x==("__classdict__" : Str))=false:=by decide):PE X (.Name x pos) (Lp i):=by
 intro zB s Y H Q I h;obtain ⟨v,e,h⟩:=h;obtain ⟨m,hn,hl⟩:=I.loc;obtain ⟨u,r,l⟩:=hl i x v hN e hv;have fin:EP X zB Y Q u s:=⟨v,H,I,r,h⟩;rcases l with ⟨hk,hm⟩|⟨hk,c,hc,hcell⟩
 .exact wpAny_Name (wpAny_loadName_local I.ok.kind hk hn hm fin) hd
 .rcases hk with hk|hk
  .exact wpAny_Name (wpAny_loadName_cell I.ok.kind hk hc hcell fin) hd
  .exact wpAny_Name (wpAny_loadName_free I.ok.kind hk hc hcell fin hcd) hd
def Ry {i j pos}:PE X (.Constant (.int i) j pos) (tC (.int i)):=λ_ _ _ H _ I h=>wpAny_Constant_int ⟨.int i,H,I.tok _,⟨_,rfl⟩,h⟩
def cX {b j pos}:PE X (.Constant (.bool b) j pos) (tC (.bl b)):=λ_ _ _ H _ I h=>Constant_bool ⟨.bl b,H,I,rfl,h⟩
def Xo {j pos}:PE X (.Constant .none j pos) (tC .non):=λ_ _ _ H _ I h=>Constant_none ⟨.non,H,I,rfl,h⟩
def UI {x j pos}:PE X (.Constant (.str x) j pos) (tC (.str x)):=λ_ _ _ H _ I h=>Calls.Constant_str ⟨.str x,H,I.tok _,⟨_,rfl⟩,h⟩
def Gl (X:Cx) (x:Str):Prop:=X.env.kindOf x=some .globalImplicit
def OS {E:Yc} {zB:Yd} {s:Yl} {Y:St} {H:Hp} {x:Str} {u:Yu} {pos:Pos} {Q:Yc} (I:Inv X zB Y H s) (hg:Gl X x) (hm:X.mg x=some u) (h:Q u s)
  (hd:(x==("__debug__" : Str))=false:=by decide):wpAny (model X.prog X.w) X.A (eval (.Name x pos) X.env) Q E s :=
 Calls.Name_function_global I.ok.kind hg (Calls.loadGlobal_global (by rw[I.ok.glob];exact I.mod.glob.keeps I.bk) hm h) hd
def Fb {E:Yc} {zB:Yd} {s:Yl} {Y:St} {H:Hp} {x:Str} {u:Yu} {pos:Pos} {Q:Yc} (I:Inv X zB Y H s) (hg:Gl X x) (hm:X.mg x=none) (hv:bootBuiltins x=some u) (h:Q u s)
  (hn:x ≠ "__name__" := by decide) (hd:(x==("__debug__" : Str))=false:=by decide):wpAny (model X.prog X.w) X.A (eval (.Name x pos) X.env) Q E s:=by
 obtain ⟨mb,h1,h2⟩:=I.mod.blt;exact Calls.Name_function_global I.ok.kind hg (Calls.loadGlobal_builtin (by rw[I.ok.glob];exact I.mod.glob.keeps I.bk) hm (by rw[I.ok.blt];exact h1.keeps I.bk) ((h2 x hn).trans hv) h) hd
def RY {x:Str} {v:V} {u:Value} {pos:Pos} (hg:Gl X x) (hm:X.mg x=none) (hv:bootBuiltins x=some u) (r:zc v u) (hn:x ≠ "__name__" := by decide) (hd:(x==("__debug__" : Str))=false:=by decide):PE X (.Name x pos) (tC v) :=
 λ_ _ _ H _ I h=>Fb I hg hm hv ⟨v,H,I,r,h⟩ hn hd
variable {a b:Expr} {ta tb:TE} {pos:Pos}
def PC (X:Cx) (op:CmpOp) (a b:Expr) (t:TE):Prop :=
 ∀ (zB:Yd) (s:Yl) (Y:St) (H:Hp) (Q:VK),Inv X zB Y H s->t Y H Q ->
  wpAny (model X.prog X.w) X.A (eval a X.env) (λv s₁=>wpAny (model X.prog X.w) X.A (eval b X.env) (λu s₂=>wpAny (model X.prog X.w) X.A (compareOp op v u) (EP X zB Y Q) X.xe s₂) X.xe s₁) X.xe s
noncomputable def tB (t:TE):TT:=λY H Q=>t Y H λx H1=>∃ c,x=.bl c/\Q c H1
def Wr {op:CmpOp} {t:TE} (h:PC X op a b t) (h1:behindInMarks op b=false:=by first|exact nobehind _ (by decide) (by decide)|rfl):PT X (.Compare a [op] [b] pos) (tB t):=by
 intro zB s Y H Q I hw;refine wpAny_isTrue_Compare1 (thn (h zB s Y H _ I hw) λv s1 h1=>thn h1 λu s2 h2=>thn h2 λc s3 ⟨x,H1,I1,r1,q1⟩=>?_) h1;obtain ⟨d,rfl,q⟩:=q1;cases r1;exact EL ⟨H1,I1,q⟩
def cE {e:Expr} {t:TE} (h:PE X e t) (he:∀ whole,isTrue e X.env whole=(do let v <- whole;standAt e.pos;holding [v] (truthy v)):=by intro _;rfl):PT X e (tB t):=by
 intro zB s Y H Q I hw;refine isTrue_plain (thn (h zB s Y H _ I hw) λv s1 ⟨x,H1,I1,r1,q1⟩=>?_) (he _);obtain ⟨d,rfl,q⟩:=q1;cases r1;exact EL ⟨H1,I1,q⟩
variable {tA tB':TT} {rest:Yi}
noncomputable def tOr (t u:TT):TT:=λY H Q=>t Y H λc H1=>if c=true then Q true H1 else u Y H1 Q
noncomputable def Qz (t:TT):TT:=λY H Q=>t Y H λc H1=>Q (!c) H1
def UM (ha:PT X a tA):PW X (.BoolOp .Or [a] pos) tA:=by
 intro wh zB s Y H Q I h;refine isTrue_or (thn (ha zB s Y H Q I h) λc s1 e=>?_);cases c with
 |false=>exact isTrue_or_nil e
 |true=>exact e
def Zs (ha:PT X a tA) (hb:PW X (.BoolOp .Or (b::rest) pos) tB'):PW X (.BoolOp .Or (a::b::rest) pos) (tOr tA tB'):=by
 intro wh zB s Y H Q I h;refine isTrue_or (thn (ha zB s Y H _ I h) λc s1 ⟨H1,I1,q1⟩=>?_);cases c with
 |true=>exact ⟨H1,I1,q1⟩
 |false=>exact hb wh zB s1 Y H1 Q I1 q1
def T6 (ha:PT X a tA):PT X (.UnaryOp .Not a pos) (Qz tA):=by
 intro zB s Y H Q I h;exact isTrue_not (ha zB s Y H (λc H1=>Q (!c) H1) I h)
noncomputable def SX (ta tb:TE):TE:=λY H Q=>ta Y H λx H1=>∃ c,x=.bl c/\if c=true then tb Y H1 Q else Q (.bl false) H1
noncomputable def bZ (ta:TE):TE:=λY H Q=>ta Y H λx H1=>∃ c,x=.bl c/\Q (.bl (!c)) H1
def ZL {op} {t:TE} (h:PE X a t):PE X (.BoolOp op [a] pos) t:=λzB s Y H Q I hw=>BoolOp_one (h zB s Y H Q I hw)
def X4 (ha:PE X a ta) (hb:PE X (.BoolOp .And (b::rest) pos) tb):PE X (.BoolOp .And (a::b::rest) pos) (SX ta tb):=by
 intro zB s Y H Q I h;refine BoolOp_and (thn (ha zB s Y H _ I h) λv s1 ⟨x,H1,I1,r1,q1⟩=>?_);obtain ⟨c,rfl,q1⟩:=q1;cases r1;refine EL ?_;cases c with
 |true=>exact hb zB s1 Y H1 Q I1 q1
 |false=>exact ⟨.bl false,H1,I1,rfl,q1⟩
def Tq (ha:PE X a ta):PE X (.UnaryOp .Not a pos) (bZ ta):=by
 intro zB s Y H Q I h;refine UnaryOp_ (thn (ha zB s Y H _ I h) λv s1 ⟨x,H1,I1,r1,q1⟩=>?_);obtain ⟨c,rfl,q1⟩:=q1;cases r1;exact not_of (EL ⟨.bl (!c),H1,I1,rfl,q1⟩)
end
def SqL (K:Yb) (H:Hp) (a:Yt) (xs:List V):Prop :=
 Rd H a (.lst xs) \/
  ∃ (o:Obj) (its:Array Value) (n:Nat),K.lookup a=some o/\o.cls=.type "list" /\ o.dict=none/\o.data=.seq its n/\its.size<=sizeLine/\zX xs its.toList
def SqT (K:Yb) (H:Hp) (a:Yt) (xs:List V):Prop :=
 Rd H a (.tup xs) \/
  ∃ (o:Obj) (its:Array Value) (n:Nat),K.lookup a=some o/\o.cls=.type "tuple" /\ o.data=.seq its n/\its.size<=sizeLine/\zX xs its.toList
noncomputable def bJ:Value->Option V
 |.none=>some .non
 |.bool b=>some (.bl b)
 |.int i _=>some (.int i)
 |.str x _=>some (.str x)
 |.bytes b _=>some (.byt b)
 |.float b _=>some (.flt b)
 |.ref a=>some (.ref a)
 |.type n=>some (.ty n)
 |_=>none
def zc.abs {x:V} {u:Yu} (r:zc x u):bJ u=some x:=by
 cases x with
 |non=>cases r;rfl
 |bl _=>cases r;rfl
 |int _=>obtain ⟨t,rfl⟩:=r;rfl
 |str _=>obtain ⟨t,rfl⟩:=r;rfl
 |byt _=>obtain ⟨t,rfl⟩:=r;rfl
 |flt _=>obtain ⟨t,rfl⟩:=r;rfl
 |ref _=>cases r;rfl
 |ty _=>cases r;rfl
def zc.inj {x y:V} {u:Yu} (r:zc x u) (q:zc y u):x=y:=Bc (r.abs.symm.trans q.abs)
def zX.inj:∀ {xs ys:List V} {us:Yf},zX xs us->zX ys us->xs=ys
 |_,_,_,.nil,.nil=>rfl
 |_,_,_,.cons r t,.cons r' t'=>by rw[r.inj r',zX.inj t t']
section
variable {X:Cx} {zB:Yd} {Y:St} {H:Hp} {s:Yl} {a:Yt} {xs ys:List V}
def SqL.of {K:Yb} (h:H a=some (.lst xs)):SqL K H a xs:=.inl (.inl h)
def SqT.of {K:Yb} (h:H a=some (.tup xs)):SqT K H a xs:=.inl (.inl h)
def Inv.list (I:Inv X zB Y H s) (h:SqL X.K H a xs):∃ its:List Value,zX xs its/\PlainL s.heap a its.toArray/\xs.length<=sizeLine:=by
 rcases h with h|⟨o,its,n,hk,hc,hd,hs,hz,r⟩
 .obtain ⟨z,its,n,r,e⟩:=h.ok I.hok;exact ⟨its,r,⟨_,n,e,rfl,rfl,rfl⟩,z⟩
 .refine ⟨its.toList,r,⟨o,n,I.kIn a o hk,hc,hd,by simpa using hs⟩,?_⟩;have e:=r.length;simp only[BD]at e;omega
def Inv.tuple (I:Inv X zB Y H s) (h:SqT X.K H a xs):∃ its:List Value,zX xs its/\IsTup s.heap a its.toArray/\xs.length<=sizeLine:=by
 rcases h with h|⟨o,its,n,hk,hc,hs,hz,r⟩
 .obtain ⟨z,its,r,p⟩:=h.ok I.hok;exact ⟨its,r,p.tup,z⟩
 .refine ⟨its.toList,r,⟨o,I.kIn a o hk,hc,n,by simpa using hs⟩,?_⟩;have e:=r.length;simp only[BD]at e;omega
def Inv.list_inj (I:Inv X zB Y H s) (h:SqL X.K H a xs) (h':SqL X.K H a ys):xs=ys:=by
 obtain ⟨its,r,⟨o,n,e,_,_,d⟩,_⟩:=I.list h;obtain ⟨its',r',⟨o',n',e',_,_,d'⟩,_⟩:=I.list h';rw[e]at e';cases e';rw[d]at d';injection d' with d1 _
 have:its=its':=by simpa using BV Array.toList d1
 subst this;exact r.inj r'
def Inv.tuple_inj (I:Inv X zB Y H s) (h:SqT X.K H a xs) (h':SqT X.K H a ys):xs=ys:=by
 obtain ⟨its,r,⟨o,e,_,n,d⟩,_⟩:=I.tuple h;obtain ⟨its',r',⟨o',e',_,n',d'⟩,_⟩:=I.tuple h';rw[e]at e';cases e';rw[d]at d';injection d' with d1 _
 have:its=its':=by simpa using BV Array.toList d1
 subst this;exact r.inj r'
end
noncomputable abbrev Cx.wish (X:Cx) (E:Yc):Cx:={ X with xe:=E }
noncomputable abbrev Cx.nox (X:Cx):Cx:=X.wish λ_ _=>False
def Cx.Ok.wish {X:Cx} (ok:X.Ok) (E:Yc):(X.wish E).Ok :=
 ⟨ok.mod,ok.kind,ok.glob,ok.blt,ok.above,ok.inj,ok.has,ok.cab,ok.hd,ok.frames,ok.stk,ok.exf,ok.bs,ok.bsz,ok.noex,ok.exfs,ok.funs,ok.frf⟩
def Cx.Ok.unwish {X:Cx} {E:Yc} (ok:(X.wish E).Ok):X.Ok :=
 ⟨ok.mod,ok.kind,ok.glob,ok.blt,ok.above,ok.inj,ok.has,ok.cab,ok.hd,ok.frames,ok.stk,ok.exf,ok.bs,ok.bsz,ok.noex,ok.exfs,ok.funs,ok.frf⟩
section
variable {X:Cx} {zB:Yd} {Y:St} {H:Hp} {s:Yl} {E:Yc}
def Inv.wish (I:Inv X zB Y H s) (E:Yc):Inv (X.wish E) zB Y H s:=⟨I.ok.wish E,I.os,I.bare,I.base,I.loc,I.cell,I.free,I.freeC,I.pin,I.hok,I.len⟩
def Inv.unwish (I:Inv (X.wish E) zB Y H s):Inv X zB Y H s:=⟨I.ok.unwish,I.os,I.bare,I.base,I.loc,I.cell,I.free,I.freeC,I.pin,I.hok,I.len⟩
def SP.unwish {D:Ends} {f:Flow} {s':Yl} (h:SP (X.wish E) zB D f s'):SP X zB D f s':=by
 cases f with
 |next=>obtain ⟨Y',H',I,q⟩:=h;exact ⟨Y',H',I.unwish,q⟩
 |brk=>obtain ⟨Y',H',I,q⟩:=h;exact ⟨Y',H',I.unwish,q⟩
 |cont=>obtain ⟨Y',H',I,q⟩:=h;exact ⟨Y',H',I.unwish,q⟩
 |ret u=>obtain ⟨v,Y',H',I,r,q⟩:=h;exact ⟨v,Y',H',I.unwish,r,q⟩
def PSs.nox {st:Yy} {t:TS} (h:PSs X.nox st t):PSs X st t:=λzB s Y H D I hw=>
 Ar (h zB s Y H D (I.wish _) hw) (λ_ _ q=>q.unwish) λ_ _ z=>False.elim z
end
section
variable {X:Cx} {st:Stmt} {rest:Yy} {t u:TS} {e:Expr} {te:TE} {pos:Pos}
noncomputable def UK:TS:=λD Y H=>D.nx Y H
noncomputable def Z7 (t u:TS):TS:=λD Y H=>t { D with nx:=u D } Y H
def XW:PSs X [] UK:=λ_ _ Y H _ I h=>wpAny_execs_nil ⟨Y,H,I,h⟩
def SF (h1:PS X st t) (h2:PSs X rest u):PSs X (st::rest) (Z7 t u):=by
 intro zB s Y H D I h;refine wpAny_execs_cons (thn (h1 zB s Y H { D with nx:=u D } I h) λf s1 q=>?_);cases f with
 |next=>
  obtain ⟨Y',H',I',q⟩:=q;exact h2 zB s1 Y' H' D I' q
 |ret v=>exact q
 |brk=>exact q
 |cont=>exact q
def bP (h1:PS X st t):PSs X [st] t:=by
 intro zB s Y H D I h;refine wpAny_execs_cons (thn (h1 zB s Y H D I h) λf s1 q=>?_);cases f with
 |next=>exact wpAny_execs_nil q
 |ret v=>exact q
 |brk=>exact q
 |cont=>exact q
def Inv.quiet {zB:Yd} {Y:St} {H:Hp} {s:Yl} (I:Inv X zB Y H s):interactive X.env=false:=by simp[interactive,I.ok.kind]
noncomputable def YU (te:TE):TS:=λD Y H=>te Y H λ_ H1=>D.nx Y H1
def RB (he:PE X e te) (hs:swapsWith e none pos.line X.env=pure false:=by rfl):PS X (.Expr e pos) (YU te):=by
 intro zB s Y H D I h;exact wpAny_Expr_any (thn (he zB s Y H _ I h) λv s1 ⟨x,H1,I1,r1,q1⟩=>⟨Y,H1,I1,q1⟩) I.quiet hs
noncomputable def WW (te:TE):TS:=λD Y H=>te Y H D.rt
def Zp (he:PE X e te):PS X (.Return (some e) pos) (WW te):=by
 intro zB s Y H D I h;exact wpAny_Return_some (thn (he zB s Y H _ I h) λv s1 ⟨x,H1,I1,r1,q1⟩=>⟨x,Y,H1,I1,r1,q1⟩)
noncomputable def S4 (c:TT) (t u:TS):TS:=λD Y H=>c Y H λb H1=>if b=true then t D Y H1 else u D Y H1
def dM {c:Expr} {a b:Yy} {tc:TT} (hc:PT X c tc) (ha:PSs X a t) (hb:PSs X b u):PS X (.If c a b pos) (S4 tc t u):=by
 intro zB s Y H D I h;refine wpAny_If (thn (hc zB s Y H _ I h) λd s1 ⟨H1,I1,q1⟩=>?_);cases d with
 |true=>exact ha zB s1 Y H1 D I1 q1
 |false=>exact hb zB s1 Y H1 D I1 q1
end
noncomputable abbrev TG:=V->St->Hp->(St->Hp->Prop)->Prop
noncomputable abbrev TGs:=List V->St->Hp->(St->Hp->Prop)->Prop
def PG (X:Cx) (target:Expr) (t:TG):Prop :=
 ∀ (zB:Yd) (s:Yl) (Y:St) (H:Hp) (v:V) (u:Yu) (Q:St->Hp->Prop),Inv X zB Y H s->zc v u->t v Y H Q ->
  wpAny (model X.prog X.w) X.A (assign target X.env u) (λ_ s'=>∃ Y' H',Inv X zB Y' H' s'/\Q Y' H') X.xe s
def PGs (X:Cx) (ts:Yi) (t:TGs):Prop :=
 ∀ (zB:Yd) (s:Yl) (Y:St) (H:Hp) (vs:List V) (us:Yf) (Q:St->Hp->Prop),Inv X zB Y H s->zX vs us->t vs Y H Q ->
  wpAny (model X.prog X.w) X.A (assignInOrder ((assignEach ts X.env).map (·.2)) us) (λ_ s'=>∃ Y' H',Inv X zB Y' H' s'/\Q Y' H') X.xe s
noncomputable abbrev Le:=V->V->V->Hp->(Hp->Prop)->Prop
def PD (X:Cx) (t:Le):Prop :=
 ∀ (zB:Yd) (s:Yl) (Y:St) (H:Hp) (o i v:V) (ov iv u:Yu) (Q:Hp->Prop),Inv X zB Y H s->zc o ov->zc i iv->zc v u->t o i v H Q ->
  wpAny (model X.prog X.w) X.A (setItem ov iv u) (λ_ s'=>∃ H',Inv X zB Y H' s'/\Q H') X.xe s
section
variable {X:Cx} {pos:Pos}
noncomputable def Cz (i:Nat):TG:=λv Y H Q=>Q (Y.set i (some v)) H
def Mo {i:Nat} {x:Str} (hN:X.N.Nodup) (hi:X.N[i]?=some x) (hx:Loc X.env.scope x) (hf:X.fn x=true\/X.env.scope.names.lookup x=some .local:=by first|exact .inl rfl|exact .inr rfl|assumption):PG X (.Name x pos) (Cz i):=by
 intro zB s Y H v u Q I r h;exact wpAny_assign_Name (Pn I hN hi hx r (λs' I'=>⟨_,H,I',h⟩) hf)
noncomputable def KP:TGs:=λvs Y H Q=>vs=[]/\Q Y H
noncomputable def G2 (t:TG) (u:TGs):TGs:=λvs Y H Q=>∃ v r,vs=v::r/\t v Y H λY' H'=>u r Y' H' Q
def SY:PGs X [] KP:=by
 intro zB s Y H vs us Q I r h;obtain ⟨e,h⟩:=h;subst e;cases r;exact assignInOrder_nil ⟨Y,H,I,h⟩
def UU {e:Expr} {es:Yi} {t:TG} {u:TGs} (h1:PG X e t) (h2:PGs X es u)
  (hs:(assignEach (e::es) X.env).map (·.2)=assign e X.env::(assignEach es X.env).map (·.2):=by rfl):PGs X (e::es) (G2 t u):=by
 intro zB s Y H vs us Q I r h;obtain ⟨v,vr,e1,h⟩:=h;subst e1;cases r with
 |cons r rr=>
  rw[hs];refine assignInOrder_cons (thn (h1 zB s Y H _ _ _ I r h) λ_ s1 ⟨σ1,H1,I1,q1⟩=>?_);exact h2 zB s1 σ1 H1 _ _ Q I1 rr q1
noncomputable def Lu (K:Yb) (n:Nat) (t:TGs):TG:=λv Y H Q=>∃ a xs,v=.ref a/\SqT K H a xs/\xs.length=n/\t xs Y H Q
def Za {es:Yi} {k:Nat} {t:TGs} {n:Nat} (hc:X.calm=true) (h:PGs X es t)
  (hn:(assignEach es X.env).length=n:=by rfl) (hst:(assignEach es X.env).findIdx? (·.1)=none:=by rfl):PG X (.Tuple es k pos) (Lu X.K n t):=by
 intro zB s Y H v u Q I r hw;obtain ⟨a,xs,e1,hq,hl,hw⟩:=hw;subst e1;cases r;obtain ⟨its,rv,ht,hz⟩:=I.tuple hq;refine assign_Tuple_tuple (I.ok.hd hc) ht (by simp[hn,<-hl,rv.length]) hst λh' hx=>?_;have I1:Inv X zB Y H { s with heap:=h' }:=I.kept (t':=s.toks) λb o e=>hx b o (AX (AI e)) e;exact h zB _ Y H xs _ Q I1 (by simpa using rv) hw
noncomputable def Y3 (to ti:TE) (t:Le):TG:=λv Y H Q=>to Y H λo H1=>ti Y H1 λi H2=>t o i v H2 λH3=>Q Y H3
def Rg {o i:Expr} {to ti:TE} {t:Le} (ho:PE X o to) (hi:PE X i ti) (hs:PD X t)
  (ha:∀ v,assign (.Subscript o i pos) X.env v=(do
   let ov <- holding [v] (eval o X.env);let iv <- holding [v,ov] (eval i X.env);standAt pos;holding [v,ov,iv] (setItem ov iv v);release [v,ov,iv] []):=by intro _;rfl):PG X (.Subscript o i pos) (Y3 to ti t):=by
 intro zB s Y H v u Q I r h;rw[ha];refine AA (Bw (thn (ho zB s Y H _ I h) λov s1 ⟨x,H1,I1,r1,q1⟩=>?_));refine AA (Bw (thn (hi zB s1 Y H1 _ I1 q1) λiv s2 ⟨y,H2,I2,r2,q2⟩=>?_));refine AA (wpAny_standAt (AA (Bw (thn (hs zB s2 Y H2 x y v ov iv u _ I2 r1 r2 r q2) λ_ s3 ⟨H3,I3,q3⟩=>?_))));exact wpAny_release ⟨Y,H3,I3,q3⟩
noncomputable def IK (te:TE) (g:TG):TS:=λD Y H=>te Y H λx H1=>g x Y H1 D.nx
def MF {tg e:Expr} {te:TE} {g:TG} (he:PE X e te) (hg:PG X tg g) (hs:swapsWithSole [tg] e pos.line X.env=pure false:=by rfl) (hw:swappedStores [tg] e X.env=pure none:=by rfl)
  (h1:(assignEach [tg] X.env).map (·.2)=[assign tg X.env]:=by rfl):PS X (.Assign [tg] e pos) (IK te g):=by
 intro zB s Y H D I h;refine wpAny_Assign_stores (thn (he zB s Y H _ I h) λv s1 ⟨x,H1,I1,r1,q1⟩=>?_) hs hw;rw[h1];exact thn (hg zB s1 Y H1 x v _ I1 r1 q1) λ_ s2 q=>q
def Us {i:Nat} {x:Str} {e:Expr} {te:TE} {pos':Pos} (hN:X.N.Nodup) (hi:X.N[i]?=some x) (hx:Loc X.env.scope x) (he:PE X e te) (hs:swapsWith e (some (.Name x pos')) pos.line X.env=pure false:=by rfl) (hf:X.fn x=true\/X.env.scope.names.lookup x=some .local:=by first|exact .inl rfl|exact .inr rfl|assumption) :
  PS X (.Assign [.Name x pos'] e pos) (IK te (Cz i)):=by
 intro zB s Y H D I h;refine wpAny_Assign_Name (thn (he zB s Y H _ I h) λv s1 ⟨y,H1,I1,r1,q1⟩=>?_) hs;exact Pn I1 hN hi hx r1 (λs2 I2=>⟨_,H1,I2,q1⟩) hf
noncomputable def Oi (c:TT) (tb:TS):TS:=λD Y H=>∃ W:Nat->St->Hp->Prop,(∃ m,W m Y H) /\ ∀ m Y H,W m Y H ->
 c Y H λb H1=>if b=true then ∃ N:St->Hp->Prop,(∀ Y' H',N Y' H' -> ∃ m',m'<m/\W m' Y' H')/\tb { D with nx:=N,ct:=N,bk:=D.nx } Y H1 else D.nx Y H1
def SH {c:Expr} {body:Yy} {tc:TT} {tb:TS} (hp:PassesOwn (model X.prog X.w) X.A X.env X.xe) (hc:PT X c tc) (hb:PSs X body tb):PS X (.While c body [] pos) (Oi tc tb):=by
 intro zB s Y H D I h;obtain ⟨W,⟨m0,w0⟩,turn⟩:=h;refine wpAny_While (codeAny_whileLoop (λn s'=>∃ Y' H',Inv X zB Y' H' s'/\W n Y' H') ?_ m0 ⟨Y,H,I,w0⟩);rintro n s1 ⟨σ1,H1,I1,w1⟩;refine wpAny_passesOwn hp (thn (hc zB s1 σ1 H1 _ I1 (turn n σ1 H1 w1)) λb s2 ⟨H2,I2,q2⟩=>?_);cases b with
 |true=>
  obtain ⟨N,hN,q2⟩:=q2;rw[AD rfl];refine wpAny_passesOwn hp (thn (hb zB s2 σ1 H2 _ I2 q2) λf s3 q3=>?_);cases f with
  |next=>
   obtain ⟨σ3,H3,I3,n3⟩:=q3;obtain ⟨m',hm,w3⟩:=hN σ3 H3 n3;exact ⟨m',hm,σ3,H3,I3,w3⟩
  |cont=>
   obtain ⟨σ3,H3,I3,n3⟩:=q3;obtain ⟨m',hm,w3⟩:=hN σ3 H3 n3;exact ⟨m',hm,σ3,H3,I3,w3⟩
  |brk=>exact q3
  |ret v=>exact q3
 |false=>
  rw[AE AY];exact wpAny_execs_nil ⟨σ1,H2,I2,q2⟩
end
structure It where
 go:Nat->Hp->Prop
 yld:Nat->Hp->V->Hp->Prop
 stop:Nat->Hp->Prop
def B0 (X:Cx) (zB:Yd) (H:Hp) (b:Yt):Prop :=
 H b=none/\b≠X.env.locals/\b∉X.fs/\(b∈X.ex\/X.s₀.heap.objs.size<=b)/\(∀ x c,X.env.cells.lookup x=some c->c≠b) /\ ∀ p∈X.pn++zB,p.1≠b
def Inv.fpOk {X:Cx} {zB:Yd} {Y:St} {H H':Hp} {s:Yl} {b:Yt} (I:Inv X zB Y H s) (hb:s.heap.objs.size<=b) (hn:H' b=none):B0 X zB H' b:=by
 refine ⟨hn,Dc (Az I.lt hb),I.nofs hb,.inr (Ak I.sz hb),λx c e z=>?_,λp hp z=>?_⟩
 .obtain ⟨v,q⟩:=I.cell x c e;exact absurd (Az q.lt (by rw[z];exact hb)) (Bh _)
 .exact absurd (Az (AI (I.pin p hp).1) (by rw[z];exact hb)) (Bh _)
structure Turn (P:Ym) (w:Yo) (K:Yb) (tg:Expr) (J:It) (fp:Yg) (it:Yt) (tn:Nat->Heap->Prop):Prop where
 mem:it∈fp
 obj:∀ i h,tn i h -> ∀ b∈fp,∃ o,h.get? b=some o /\ ∀ v,o.data≠.cell v
 keep:∀ i h h',tn i h->(∀ b∈fp,∀ o,h.get? b=some o->h'.get? b=some o)->tn i h'
 item:∀ (X:Cx),X.prog=P->X.w=w->X.K=K->X.calm=true -> ∀ (i:Nat) (zB:Yd) (s:Yl) (Y:St) (H:Hp) (E:Yc),Inv X zB Y H s->(∀ b∈fp,B0 X zB H b)->tn i s.heap->J.go i H ->
  wpAny (model P w) X.A (pyNext (.ref it)) (λr s1=>∃ u,r=some u /\
   wpAny (model P w) X.A (letOwnedTupleGo tg (.ref it) u) (λ_ s2=>∃ x H',Inv X zB Y H' s2/\zc x u/\J.yld i H x H'/\tn (i+1) s2.heap /\ ∀ b∈fp,H' b=none) E s1) E s
 done:∀ (X:Cx),X.prog=P->X.w=w->X.K=K->X.calm=true -> ∀ (i:Nat) (zB:Yd) (s:Yl) (Y:St) (H:Hp) (E:Yc),Inv X zB Y H s->(∀ b∈fp,B0 X zB H b)->tn i s.heap->J.stop i H ->
  wpAny (model P w) X.A (pyNext (.ref it)) (λr s1=>r=none/\Inv X zB Y H s1) E s
 self:∀ (A:Yn) (i:Nat) (s:Yl) (Q:Yc) (E:Yc),tn i s.heap->Q (.ref it) s->wpAny (model P w) A (pyIter (.ref it)) Q E s
noncomputable abbrev TI:=St->Hp->(It->Hp->Prop)->Prop
def PIE (X:Cx) (zB:Yd) (Y:St) (tg:Expr) (R:It->Hp->Prop) (itv:Yu) (s2:Yl):Prop :=
 ∃ (it:Yt) (fp:Yg) (tn:Nat->Heap->Prop) (J:It) (H':Hp),itv=.ref it/\Inv X zB Y H' s2/\Turn X.prog X.w X.K tg J fp it tn/\tn 0 s2.heap/\(∀ b∈fp,B0 X zB H' b)/\R J H'
def PI (X:Cx) (tg iter:Expr) (wi:TI):Prop :=
  ∀ (zB:Yd) (s:Yl) (Y:St) (H:Hp) (R:It->Hp->Prop),Inv X zB Y H s->wi Y H R ->
    wpAny (model X.prog X.w) X.A (eval iter X.env) (λv s1=>wpAny (model X.prog X.w) X.A (pyIter v) (PIE X zB Y tg R) X.xe s1) X.xe s
def L7 {M:Model} {A:Yn} {E:Yc} {s:Yl} {tg:Expr} {it:Yt} {u:Yu} {o:Obj} {n:String} {vs:Yp} {Q:Unit->Shared->Prop} (ho:s.heap.get? it=some o) (hc:o.cls=.type n) (hd:o.data=.fields vs)
    (hn:["enumerate", "zip", "dict_itemiterator", "dict_reverseitemiterator", "odict_iterator", "itertools.zip_longest", "itertools.pairwise"].contains n=false) (hQ:Q () s):wpAny M A (letOwnedTupleGo tg (.ref it) u) Q E s:=by
  unfold letOwnedTupleGo
  cases tg <;> first
    |exact AB hQ
    | (cases u <;> first
        |exact AB hQ
        | (refine AA (wpAny_load ho ?_)
           rw[hc,hd];show wpAny M A (if (["enumerate", "zip", "dict_itemiterator", "dict_reverseitemiterator", "odict_iterator", "itertools.zip_longest", "itertools.pairwise"].contains n&&vs[0]?==some (rawInt _))=true then _ else _) Q E s;rw[AE (by intro h;rw[hn,Bool.false_and]at h;cases h)];exact AB hQ))
noncomputable def Itl (K:Yb) (a:Yt):It :=
 ⟨λi H=>∃ xs x,SqL K H a xs/\xs[i]?=some x,λi H x H'=>H'=H /\ ∀ xs,SqL K H a xs->xs[i]?=some x,λi H=>∃ xs,SqL K H a xs/\xs.length<=i⟩
noncomputable def Itt (K:Yb) (a:Yt):It :=
 ⟨λi H=>∃ xs x,SqT K H a xs/\xs[i]?=some x,λi H x H'=>H'=H /\ ∀ xs,SqT K H a xs->xs[i]?=some x,λi H=>∃ xs,SqT K H a xs/\xs.length<=i⟩
noncomputable def Itr (lo:Int) (n:Nat):It:=⟨λi _=>i<n,λi H x H'=>H'=H/\x=.int (lo+i),λi _=>n<=i⟩
def Te {P:Ym} {w:Yo} {K:Yb} {tg:Expr} (a it:Yt):Turn P w K tg (Itl K a) [it] it (λi h=>h.IsListIter it a i) where
 mem:=by simp
 obj:=λi h st b hb=>by
  have e:b=it:=by simpa using hb
  subst e;obtain ⟨o,e,c,d⟩:=st;exact ⟨o,e,λv z=>by rw[d]at z;cases z⟩
 keep:=λi h h' st k=>st.at λo e=>k it (by simp) o e;item:=by
  intro X hP hw hK hc i zB s Y H E I hf st hg;subst hP hw hK;obtain ⟨xs,x,hq,hx⟩:=hg;obtain ⟨its,rv,p,hz⟩:=I.list hq;obtain ⟨u,hu,ru⟩:=rv.get hx;obtain ⟨f0,f1,f2,f3,f4,f5⟩:=hf it (by simp);refine wpAny_pyNext_list_item st p.isList (x:=u) (by simpa using hu) λh' st' sb=>?_;have I1:Inv X zB Y H { s with heap:=h' }:=I.turned (t':=s.toks) (λb o hb e=>(sb.2 b hb).trans e) f0 f1 f3 f4 f5;obtain ⟨o,e,c,d⟩:=id st';exact ⟨u,rfl,L7 (s:={ s with heap:=h' }) e c d (by decide) ⟨x,H,I1,ru,⟨rfl,λys hy=>by rw[I.list_inj hy hq];exact hx⟩,st',λb hb=>(hf b hb).1⟩⟩
 done:=by
  intro X hP hw hK hc i zB s Y H E I hf st hg;subst hP hw hK;obtain ⟨xs,hq,hx⟩:=hg;obtain ⟨its,rv,p,hz⟩:=I.list hq;obtain ⟨f0,f1,f2,f3,f4,f5⟩:=hf it (by simp);have hl:=rv.length;exact wpAny_pyNext_list_end (I.ok.hd hc) st p.isList (by simp;omega) λh' eb=>⟨rfl,I.turned (t':=s.toks) (λb o hb e=>eb b o hb e) f0 f1 f3 f4 f5⟩
 self:=λ_ _ _ _ _ st h=>wpAny_pyIter_listiter st h
def eM {P:Ym} {w:Yo} {K:Yb} {tg:Expr} (a it:Yt):Turn P w K tg (Itt K a) [it] it (λi h=>h.IsTupleIter it a i) where
 mem:=by simp
 obj:=λi h st b hb=>by
  have e:b=it:=by simpa using hb
  subst e;obtain ⟨o,e,c,d⟩:=st;exact ⟨o,e,λv z=>by rw[d]at z;cases z⟩
 keep:=λi h h' st k=>st.at λo e=>k it (by simp) o e;item:=by
  intro X hP hw hK hc i zB s Y H E I hf st hg;subst hP hw hK;obtain ⟨xs,x,hq,hx⟩:=hg;obtain ⟨its,rv,p,hz⟩:=I.tuple hq;obtain ⟨u,hu,ru⟩:=rv.get hx;obtain ⟨f0,f1,f2,f3,f4,f5⟩:=hf it (by simp);refine wpAny_pyNext_tuple_item st (show s.heap.IsTuple a its.toArray from p) (x:=u) (by simpa using hu) λh' st' sb=>?_;have I1:Inv X zB Y H { s with heap:=h' }:=I.turned (t':=s.toks) (λb o hb e=>(sb.2 b hb).trans e) f0 f1 f3 f4 f5;obtain ⟨o,e,c,d⟩:=id st';exact ⟨u,rfl,L7 (s:={ s with heap:=h' }) e c d (by decide) ⟨x,H,I1,ru,⟨rfl,λys hy=>by rw[I.tuple_inj hy hq];exact hx⟩,st',λb hb=>(hf b hb).1⟩⟩
 done:=by
  intro X hP hw hK hc i zB s Y H E I hf st hg;subst hP hw hK;obtain ⟨xs,hq,hx⟩:=hg;obtain ⟨its,rv,p,hz⟩:=I.tuple hq;obtain ⟨f0,f1,f2,f3,f4,f5⟩:=hf it (by simp);have hl:=rv.length;exact wpAny_pyNext_tuple_end (I.ok.hd hc) st (show s.heap.IsTuple a its.toArray from p) (by simp;omega) λh' eb=>⟨rfl,I.turned (t':=s.toks) (λb o hb e=>eb b o hb e) f0 f1 f3 f4 f5⟩
 self:=λ_ _ _ _ _ st h=>wpAny_pyIter_tupleiter st h
def T9 {P:Ym} {w:Yo} {K:Yb} {tg:Expr} (it:Yt) (lo:Int) (n:Nat):Turn P w K tg (Itr lo n) [it] it (λi h=>IsRangeIter h it (lo+(i:Nat)*1) ((n:Int)-(i:Nat)) 1) where
 mem:=by simp
 obj:=λi h st b hb=>by
  have e:b=it:=by simpa using hb
  subst e;exact ⟨_,st,λv z=>by
   have z':Data.fields _=Data.cell v:=z;cases z'⟩
 keep:=λi h h' st k=>k it (by simp) _ st;item:=by
  intro X hP hw hK hc i zB s Y H E I hf st hg;subst hP hw hK;obtain ⟨f0,f1,f2,f3,f4,f5⟩:=hf it (by simp);have W:=Walks.range (prog:=X.prog) (w:=X.w) (I.ok.hd hc) it lo 1 n;refine W.item i s _ _ hg st λv h' tk hv st' kk=>?_;obtain ⟨t,rfl⟩:=hv;have I1:Inv X zB Y H { s with heap:=h',toks:=tk }:=I.turned (λb o hb e=>kk b o (by simpa using hb) e) f0 f1 f3 f4 f5;refine ⟨_,rfl,L7 (s:={ s with heap:=h',toks:=tk }) (n := "range_iterator") st' rfl rfl (by decide) ⟨.int (lo+i),H,I1,⟨t,?_⟩,⟨rfl,rfl⟩,st',λb hb=>(hf b hb).1⟩⟩;rw[Int.mul_one]
 done:=by
  intro X hP hw hK hc i zB s Y H E I hf st hg;subst hP hw hK;obtain ⟨f0,f1,f2,f3,f4,f5⟩:=hf it (by simp);exact wpAny_pyNext_range_end (I.ok.hd hc) st (by have:n<=i:=hg;omega) λh' eb=>⟨rfl,I.turned (t':=s.toks) (λb o hb e=>eb b o hb e) f0 f1 f3 f4 f5⟩
 self:=λ_ _ _ _ _ st h=>wpAny_pyIter_rangeiter st h
section
variable {X:Cx} {tg:Expr}
def Xu {zB:Yd} {Y:St} {H:Hp} {s:Yl} {R:It->Hp->Prop} {E:Yc} {lo hi:Int} {t u v:Tok} {tk:Nat} (I:Inv X zB Y H s) (h1 : -(2 ^ 62)<=lo) (h2:lo<2 ^ 62) (h3 : -(2 ^ 62)<=hi) (h4:hi<2 ^ 62)
  (q:R (Itr lo (hi-lo).toNat) H):wpAny (model X.prog X.w) X.A (pyIter (.ref s.heap.objs.size)) (PIE X zB Y tg R) E { s with heap:=s.heap.push { cls:=.type "range", data:=.fields #[.int lo t,.int hi u,.int 1 v] },toks:=tk }:=by
 refine wpAny_pyIter_range (IsRange.new ..) (small_one h1 h2 h3 h4) ?_;have I1:Inv X zB Y H { s with heap:=s.heap.push { cls:=.type "range", data:=.fields #[.int lo t,.int hi u,.int 1 v] },toks:=tk }:=I.kept λb o e=>AH _ e
 refine ⟨(s.heap.push { cls:=.type "range", data:=.fields #[.int lo t,.int hi u,.int 1 v] }).objs.size,[(s.heap.push { cls:=.type "range", data:=.fields #[.int lo t,.int hi u,.int 1 v] }).objs.size],_,_,H,rfl,
  I1.kept (t':=tk) λb o e=>AH _ e,T9 _ lo (hi-lo).toNat,?_,λb hb=>?_,q⟩
 .have e1:lo+((0:Nat):Int)*1=lo:=by simp
  have e2:(((hi-lo).toNat:Nat):Int)-((0:Nat):Int)=Builtin.Range.rangeSize lo hi 1:=by rw[rangeSize_one];split <;> omega
  show IsRangeIter _ _ (lo+((0:Nat):Int)*1) ((((hi-lo).toNat:Nat):Int)-((0:Nat):Int)) 1;rw[e1,e2];exact AN _ rfl
 .have e:b=(s.heap.push { cls:=.type "range", data:=.fields #[.int lo t,.int hi u,.int 1 v] }).objs.size:=by simpa using hb
  subst e;exact I1.fpOk (AF _) (I1.hok.fresh (AF _))
noncomputable def WZ (ta:TA):TI:=λY H R=>ta Y H λvs H1=>∃ j:Int,vs=[.int j] /\ -(2 ^ 62)<=j/\j<2 ^ 62/\R (Itr 0 j.toNat) H1
def RL {a:Expr} {ta:TA} {p pos:Pos} (hg:Gl X "range") (hm:X.mg "range" = none) (ha:PA X [a] ta) (hs:starEach [a] X.env=[(false,eval a X.env)]:=by rfl):PI X tg (.Call (.Name "range" p) [a] [] pos) (WZ ta):=by
 intro zB s Y H R I h;refine Call_ (Fb I hg hm boot_range (PyProof.Rows.callWith_type1 (thn (ha pos zB s Y H _ I h) λus s1 ⟨vs,H1,I1,r1,q1⟩=>?_) hs rfl));obtain ⟨j,e,q1,q2,q⟩:=q1;subst e;cases r1 with
 |cons r rr=>
  cases rr;obtain ⟨t,rfl⟩:=r;exact call_range_1 (Xu I1 (by omega) (by omega) q1 q2 (by simpa using q))
noncomputable def Qd (wi:TI) (g:TG) (tb:TS):TS:=λD Y H=>wi Y H λJ H1=>∃ W:Nat->Nat->St->Hp->Prop,(∃ m,W 0 m Y H1) /\ ∀ i m Y H,W i m Y H ->
 (J.stop i H/\D.nx Y H)\/(J.go i H /\ ∃ N:St->Hp->Prop,(∀ Y' H',N Y' H' -> ∃ m',m'<m/\W (i+1) m' Y' H') /\ ∀ x H',J.yld i H x H'->g x Y H' λσ2 H2=>tb { D with nx:=N,ct:=N,bk:=D.nx } σ2 H2)
noncomputable def Gq (fp:Yg) (h:Heap):List (Addr × Obj):=fp.filterMap λb=>(h.get? b).map λo=>(b,o)
def Gw {fp:Yg} {h:Heap} {b:Yt} {o:Obj} (hb:b∈fp) (e:h.get? b=some o):(b,o)∈Gq fp h:=List.mem_filterMap.mpr ⟨b,hb,by rw[e];rfl⟩
def bL {fp:Yg} {h:Heap} {p:Addr × Obj} (hp:p∈Gq fp h):p.1∈fp/\h.get? p.1=some p.2:=by
 obtain ⟨b,hb,e⟩:=List.mem_filterMap.mp hp;cases q:h.get? b with
 |none=>rw[q]at e;cases e
 |some o=>
  rw[q]at e;have e':(b,o)=p:=Bc e;subst e';exact ⟨hb,q⟩
def Inv.pinned {zB:Yd} {Y:St} {H:Hp} {s:Yl} {fp:Yg} (I:Inv X zB Y H s) (hf:∀ b∈fp,B0 X zB H b) (ho:∀ b∈fp,∃ o,s.heap.get? b=some o /\ ∀ v,o.data≠.cell v):Inv X (zB++Gq fp s.heap) Y H s :=
 I.pins_of λp hp=>(AV.mp hp).elim (λz=>I.pin p (Bg _ z)) λz=>by
  obtain ⟨hb,e⟩:=bL z;obtain ⟨f0,f1,f2,_⟩:=hf p.1 hb;obtain ⟨o,e',d⟩:=ho p.1 hb;rw[e]at e';cases e';exact ⟨e,f0,f1,f2,d⟩
def Inv.unpinned {zB pl:Yd} {Y:St} {H:Hp} {s:Yl} (I:Inv X (zB++pl) Y H s):Inv X zB Y H s:=I.pins_of λp hp=>I.pin p (Bg _ (E4 _ hp))
def aH {iter:Expr} {body:Yy} {wi:TI} {g:TG} {tb:TS} {pos:Pos} (hp:PassesOwn (model X.prog X.w) X.A X.env X.xe) (hc:X.calm=true) (hi:PI X tg iter wi) (hg:PG X tg g) (hb:PSs X body tb)
  (hs:∀ x,foldedSetIterable iter X.env x=pure x:=by intro _;rfl):PS X (.For tg iter body [] pos) (Qd wi g tb):=by
 intro zB s Y H D I h;refine wpAny_For (thn (hi zB s Y H _ I h) λv s1 h1=>thn h1 λitv s2 h2=>?_) hs;obtain ⟨it,fp,tn,J,H2,e,I2,T,st2,f2,W,⟨m0,w0⟩,turn⟩:=h2;subst e;have stat:∀ {H':Hp},(∀ b∈fp,H' b=none) -> ∀ b∈fp,B0 X zB H' b:=λhn b hb=>⟨hn b hb,(f2 b hb).2⟩;refine codeAny_forLoop_any (λn s'=>∃ i Y' H',Inv X zB Y' H' s'/\tn i s'.heap/\(∀ b∈fp,H' b=none)/\W i n Y' H') ?_ m0 ⟨0,Y,H2,I2,st2,λb hb=>(f2 b hb).1,w0⟩;rintro n s3 ⟨i,σ3,H3,I3,st3,fr3,w3⟩;rcases turn i n σ3 H3 w3 with ⟨stop,qn⟩|⟨go,N,hN,step⟩
 .refine wpAny_passesOwn hp (thn (T.done X rfl rfl rfl hc i zB s3 σ3 H3 X.xe I3 (stat fr3) st3 stop) λr s4 ⟨hr,I4⟩=>?_);subst hr;exact wpAny_execs_nil ⟨σ3,H3,I4,qn⟩
 .refine wpAny_passesOwn hp (thn (T.item X rfl rfl rfl hc i zB s3 σ3 H3 X.xe I3 (stat fr3) st3 go) λr s4 ⟨u,hr,h4⟩=>?_);subst hr;refine wpAny_passesOwn hp (thn h4 λ_ s5 ⟨x,H5,I5,r5,y5,st5,fr5⟩=>?_);have I5':=I5.pinned (stat fr5) (T.obj _ _ st5);refine wpAny_passesOwn hp (thn (hg _ s5 σ3 H5 x u _ I5' r5 (step x H5 y5)) λ_ s6 ⟨σ6,H6,I6,q6⟩=>?_);refine wpAny_passesOwn hp (thn (hb _ s6 σ6 H6 _ I6 q6) λf s7 q7=>?_);have again:∀ {σ7:St} {H7:Hp},Inv X (zB++Gq fp s5.heap) σ7 H7 s7->N σ7 H7 -> ∃ m,m<n /\ ∃ i Y' H',Inv X zB Y' H' s7/\tn i s7.heap/\(∀ b∈fp,H' b=none)/\W i m Y' H':=λ{σ7 H7} I7 n7=>by
   obtain ⟨m',hm,w7⟩:=hN σ7 H7 n7;refine ⟨m',hm,i+1,σ7,H7,I7.unpinned,T.keep _ _ _ st5 λb hb o e=>(I7.pin (b,o) (Bg _ (Bg _ (Gw hb e)))).1,λb hb=>?_,w7⟩;obtain ⟨o,e,d⟩:=T.obj _ _ st5 b hb;exact (I7.pin (b,o) (Bg _ (Bg _ (Gw hb e)))).2.1
  cases f with
  |next=>obtain ⟨σ7,H7,I7,n7⟩:=q7;exact again I7 n7
  |cont=>obtain ⟨σ7,H7,I7,n7⟩:=q7;exact again I7 n7
  |brk=>obtain ⟨σ7,H7,I7,q7⟩:=q7;exact ⟨σ7,H7,I7.unpinned,q7⟩
  |ret v=>obtain ⟨x7,σ7,H7,I7,r7,q7⟩:=q7;exact ⟨x7,σ7,H7,I7.unpinned,r7,q7⟩
end
noncomputable abbrev R2:=V->V->Hp->VK->Prop
def OpR (X:Cx) (f:Y2) (r:R2):Prop :=
 ∀ (zB:Yd) (s:Yl) (Y:St) (H:Hp) (x y:V) (v u:Yu) (Q:VK),Inv X zB Y H s->zc x v->zc y u->r x y H Q ->
  wpAny (model X.prog X.w) X.A (f v u) (EP X zB Y Q) X.xe s
def B9 (X:Cx) (f:Yu) (r:List V->Hp->VK->Prop):Prop :=
 ∀ (zB:Yd) (s:Yl) (Y:St) (H:Hp) (xs:List V) (us:Yf) (Q:VK),Inv X zB Y H s->zX xs us->r xs H Q ->
  wpAny (model X.prog X.w) X.A (call f us) (EP X zB Y Q) X.xe s
noncomputable def tOp (r:R2) (ta tb:TE):TE:=λY H Q=>ta Y H λx H1=>tb Y H1 λy H2=>r x y H2 Q
noncomputable def rI (C:Int->Int->Prop) (g:Int->Int->V):R2:=λx y H Q=>∃ i j,x=.int i/\y=.int j/\C i j/\Q (g i j) H
noncomputable def rI0 (g:Int->Int->V):R2:=λx y H Q=>∃ i j,x=.int i/\y=.int j/\Q (g i j) H
section
variable {X:Cx} {a b c:Expr} {ta tb tc:TE} {pos:Pos}
def Jc (ha:PE X a ta) (hb:PE X b tb) {zB:Yd} {s:Yl} {Y:St} {H:Hp} {R:V->V->Hp->Prop} (I:Inv X zB Y H s)
  (h:ta Y H λx H1=>tb Y H1 λy H2=>R x y H2) {Q:Yc} {f:Y2}
  (hf:∀ v u s2 x y H2,Inv X zB Y H2 s2->zc x v->zc y u->R x y H2->wpAny (model X.prog X.w) X.A (f v u) Q X.xe s2) :
  wpAny (model X.prog X.w) X.A (eval a X.env) (λv s₁=>wpAny (model X.prog X.w) X.A (eval b X.env) (λu s₂=>wpAny (model X.prog X.w) X.A (f v u) Q X.xe s₂) X.xe s₁) X.xe s:=by
 refine thn (ha zB s Y H _ I h) λv s1 ⟨x,H1,I1,r1,q1⟩=>?_;refine thn (hb zB s1 Y H1 _ I1 q1) λu s2 ⟨y,H2,I2,r2,q2⟩=>?_;exact hf v u s2 x y H2 I2 r1 r2 q2
def RP {op:Operator} {r:R2} (ho:OpR X (binaryOp op) r) (ha:PE X a ta) (hb:PE X b tb):PE X (.BinOp a op b pos) (tOp r ta tb):=by
 intro zB s Y H Q I h;exact wpAny_BinOp (Jc ha hb I h λv u s2 x y H2 I2 rx ry q=>ho zB s2 Y H2 x y v u Q I2 rx ry q)
def opI {f:Y2} {C:Int->Int->Prop} {g:Int->Int->Int}
  (rule:∀ (i j:Int) (t u:Tok) (s:Yl) (Q:Yc) (E:Yc),C i j->Q (.int (g i j) s.toks) { s with toks:=s.toks+1 }->wpAny (model X.prog X.w) X.A (f (.int i t) (.int j u)) Q E s) :
  OpR X f (rI C λi j=> .int (g i j)):=by
 intro zB s Y H x y v u Q I rx ry h;obtain ⟨i,j,rfl,rfl,hc,q⟩:=h;obtain ⟨t,rfl⟩:=rx;obtain ⟨t',rfl⟩:=ry;exact rule i j t t' s _ _ hc ⟨.int (g i j),H,I.tok _,⟨_,rfl⟩,q⟩
def Qi {f:Y2} {g:Int->Int->Int}
  (rule:∀ (i j:Int) (t u:Tok) (s:Yl) (Q:Yc) (E:Yc),Q (.int (g i j) s.toks) { s with toks:=s.toks+1 }->wpAny (model X.prog X.w) X.A (f (.int i t) (.int j u)) Q E s) :
  OpR X f (rI0 λi j=> .int (g i j)):=by
 intro zB s Y H x y v u Q I rx ry h;obtain ⟨i,j,rfl,rfl,q⟩:=h;obtain ⟨t,rfl⟩:=rx;obtain ⟨t',rfl⟩:=ry;exact rule i j t t' s _ _ ⟨.int (g i j),H,I.tok _,⟨_,rfl⟩,q⟩
def Li {f:Y2} {g:Int->Int->Bool}
  (rule:∀ (i j:Int) (t u:Tok) (s:Yl) (Q:Yc) (E:Yc),Q (.bool (g i j)) s->wpAny (model X.prog X.w) X.A (f (.int i t) (.int j u)) Q E s) :
  OpR X f (rI0 λi j=> .bl (g i j)):=by
 intro zB s Y H x y v u Q I rx ry h;obtain ⟨i,j,rfl,rfl,q⟩:=h;obtain ⟨t,rfl⟩:=rx;obtain ⟨t',rfl⟩:=ry;exact rule i j t t' s _ _ ⟨.bl (g i j),H,I,rfl,q⟩
def V5 (i j:Int):Prop:=0<j/\j<1073741824
def dZ (i j:Int):Prop:=0<=j/\j<=1000000/\i.natAbs<2 ^ 64
def KW (i j:Int):Prop:=(-(2 ^ 64)<i/\i<2 ^ 64)\/(-(2 ^ 64)<j/\j<2 ^ 64)
def KW.ok {i j:Int} (h:KW i j):IntMulOk i j:=by
 rcases h with ⟨h1,h2⟩|⟨h1,h2⟩
 .exact .of_left (intBits_le_64 h1 h2)
 .exact .of_right (intBits_le_64 h1 h2)
def Rx:OpR X (binaryOp .Add) (rI0 λi j=> .int (i+j)):=Qi λ_ _ _ _ _ _ _ q=>add_int q
def dP:OpR X (binaryOp .Sub) (rI0 λi j=> .int (i-j)):=Qi λ_ _ _ _ _ _ _ q=>sub_int q
def V4:OpR X (binaryOp .Mult) (rI KW λi j=> .int (i*j)):=opI λ_ _ _ _ _ _ _ hc q=>mul_int q hc.ok
def Ui:OpR X (binaryOp .FloorDiv) (rI V5 λi j=> .int (i / j)):=opI λi j _ _ _ _ _ hc q=>by
 have h1:(0:Int)<j:=hc.1;have h2:j<1073741824:=hc.2;exact floordiv_int (by omega) (by rw[Int.fdiv_eq_ediv_of_nonneg i (by omega)];exact q) (.inl (PyProof.noPylong_small (by omega)))
def YM:OpR X (binaryOp .Mod) (rI (λ_ j=>0<j) λi j=> .int (i % j)):=opI λi j _ _ _ _ _ hc q=>by
 have h1:(0:Int)<j:=hc;exact mod_int' (by omega) (by rw[Int.fmod_eq_emod_of_nonneg i (by omega)];exact q)
def Y4:OpR X (binaryOp .Pow) (rI dZ λi j=> .int (i ^ j.toNat)):=opI λ_ _ _ _ _ _ _ hc q=>pow_int_small hc.1 hc.2.1 hc.2.2 q
end
noncomputable def Iv:V->V->Bool
 |.non,.non=>true|.non,.int _=>true|.int _,.non=>true|.non,.bl _=>true|.bl _,.non=>true|.non,.str _=>true|.str _,.non=>true
 |.int _,.int _=>true|.bl _,.bl _=>true|.str _,.str _=>true|.byt _,.byt _=>true
 |.int _,.str _=>true|.str _,.int _=>true|.bl _,.str _=>true|.str _,.bl _=>true
 |_,_=>false
noncomputable def rEq:R2:=λx y H Q=>Iv x y=true/\Q (.bl (decide (x=y))) H
noncomputable def rNe:R2:=λx y H Q=>Iv x y=true/\Q (.bl (!decide (x=y))) H
def O4 {i j:Int}:decide (V.int i=V.int j)=(i==j):=by
 rw[Dt];simp
def P5 {i j:Bool}:decide (V.bl i=V.bl j)=(i==j):=by
 rw[Dt];simp
def Mt {i j:Str}:decide (V.str i=V.str j)=(i==j):=by
 rw[Dt];simp
def PR {i j:Array UInt8}:decide (V.byt i=V.byt j)=(i.toList==j.toList):=by
 rw[Dt];cases i;cases j;simp
section
variable {X:Cx} {a b c:Expr} {ta tb tc:TE} {pos:Pos}
def zm {zB:Yd} {Y:St} {H:Hp} {s:Yl} {Q:VK} {k k':Bool} (I:Inv X zB Y H s) (q:Q (.bl k) H) (e:k=k'):EP X zB Y Q (.bool k') s:=by
 subst e;exact ⟨.bl k,H,I,rfl,q⟩
def Ph:OpR X (compareOp .Eq) rEq:=by
 intro zB s Y H x y v u Q I rx ry h;obtain ⟨hs,q⟩:=h;cases x with
 |non=>
  cases rx;cases y with
  |non=>cases ry;exact PySem.EqNone.eq_none_none (zm I q (by simp))
  |bl j=>cases ry;exact PySem.EqNone.eq_none_bool (zm I q (by simp))
  |int j=>obtain ⟨t',rfl⟩:=ry;exact PySem.EqNone.eq_none_int (zm I q (by simp))
  |str j=>obtain ⟨t',rfl⟩:=ry;exact PySem.EqNone.eq_none_str (zm I q (by simp))
  |_=>exact absurd (show false=true from hs) AY
 |bl i=>
  cases rx;cases y with
  |non=>cases ry;exact PySem.EqNone.eq_bool_none (zm I q (by simp))
  |bl j=>cases ry;exact eq_bool (zm I q P5)
  |str j=>obtain ⟨t',rfl⟩:=ry;exact PySem.EqMixed.eq_bool_str (zm I q (by simp))
  |_=>exact absurd (show false=true from hs) AY
 |int i=>
  obtain ⟨t,rfl⟩:=rx;cases y with
  |non=>cases ry;exact PySem.EqNone.eq_int_none (zm I q (by simp))
  |int j=>obtain ⟨t',rfl⟩:=ry;exact eq_int (zm I q O4)
  |str j=>obtain ⟨t',rfl⟩:=ry;exact PySem.EqMixed.eq_int_str (zm I q (by simp))
  |_=>exact absurd (show false=true from hs) AY
 |str i=>
  obtain ⟨t,rfl⟩:=rx;cases y with
  |non=>cases ry;exact PySem.EqNone.eq_str_none (zm I q (by simp))
  |bl j=>cases ry;exact PySem.EqMixed.eq_str_bool (zm I q (by simp))
  |int j=>obtain ⟨t',rfl⟩:=ry;exact PySem.EqMixed.eq_str_int (zm I q (by simp))
  |str j=>obtain ⟨t',rfl⟩:=ry;exact eq_str (zm I q Mt)
  |_=>exact absurd (show false=true from hs) AY
 |byt i=>
  obtain ⟨t,rfl⟩:=rx;cases y with
  |byt j=>obtain ⟨t',rfl⟩:=ry;exact PySem.W.eq_bytes (zm I q PR)
  |_=>exact absurd (show false=true from hs) AY
 |_=>cases y <;> exact absurd (show false=true from hs) AY
def Uc:OpR X (compareOp .NotEq) rNe:=by
 intro zB s Y H x y v u Q I rx ry h;obtain ⟨hs,q⟩:=h;cases x with
 |non=>
  cases rx;cases y with
  |non=>cases ry;exact PySem.EqNone.ne_none_none (zm I q (by simp))
  |bl j=>cases ry;exact PySem.EqNone.ne_none_bool (zm I q (by simp))
  |int j=>obtain ⟨t',rfl⟩:=ry;exact PySem.EqNone.ne_none_int (zm I q (by simp))
  |str j=>obtain ⟨t',rfl⟩:=ry;exact PySem.EqNone.ne_none_str (zm I q (by simp))
  |_=>exact absurd (show false=true from hs) AY
 |bl i=>
  cases rx;cases y with
  |non=>cases ry;exact PySem.EqNone.ne_bool_none (zm I q (by simp))
  |bl j=>cases ry;exact ne_bool (zm I q (BV not P5))
  |str j=>obtain ⟨t',rfl⟩:=ry;exact PySem.EqMixed.ne_bool_str (zm I q (by simp))
  |_=>exact absurd (show false=true from hs) AY
 |int i=>
  obtain ⟨t,rfl⟩:=rx;cases y with
  |non=>cases ry;exact PySem.EqNone.ne_int_none (zm I q (by simp))
  |int j=>obtain ⟨t',rfl⟩:=ry;exact ne_int (zm I q (BV not O4))
  |str j=>obtain ⟨t',rfl⟩:=ry;exact PySem.EqMixed.ne_int_str (zm I q (by simp))
  |_=>exact absurd (show false=true from hs) AY
 |str i=>
  obtain ⟨t,rfl⟩:=rx;cases y with
  |non=>cases ry;exact PySem.EqNone.ne_str_none (zm I q (by simp))
  |bl j=>cases ry;exact PySem.EqMixed.ne_str_bool (zm I q (by simp))
  |int j=>obtain ⟨t',rfl⟩:=ry;exact PySem.EqMixed.ne_str_int (zm I q (by simp))
  |str j=>obtain ⟨t',rfl⟩:=ry;exact ne_str (zm I q (BV not Mt))
  |_=>exact absurd (show false=true from hs) AY
 |byt i=>
  obtain ⟨t,rfl⟩:=rx;cases y with
  |byt j=>obtain ⟨t',rfl⟩:=ry;exact PySem.W.ne_bytes (zm I q (BV not PR))
  |_=>exact absurd (show false=true from hs) AY
 |_=>cases y <;> exact absurd (show false=true from hs) AY
def Ko:OpR X (compareOp .Lt) (rI0 λi j=> .bl (decide (i<j))):=Li λ_ _ _ _ _ _ _ q=>lt_int q
def PK:OpR X (compareOp .LtE) (rI0 λi j=> .bl (decide (i<=j))):=Li λ_ _ _ _ _ _ _ q=>le_int q
def Z2:OpR X (compareOp .Gt) (rI0 λi j=> .bl (decide (j<i))):=Li λ_ _ _ _ _ _ _ q=>gt_int q
def OpR.or {f:Y2} {r r':R2} (h:OpR X f r) (h':OpR X f r'):OpR X f (λx y H Q=>r x y H Q\/r' x y H Q):=by
 intro zB s Y H x y v u Q I rx ry q;rcases q with q|q
 .exact h zB s Y H x y v u Q I rx ry q
 .exact h' zB s Y H x y v u Q I rx ry q
def E1 (b:Expr) {op:CmpOp} (h:op≠.In:=by decide) (h2:op≠.NotIn:=by decide):behindInMarks op b=false:=by
 have e1:(op==CmpOp.In)=false:=by cases op <;> first|rfl|exact absurd rfl h
 have e2:(op==CmpOp.NotIn)=false:=by cases op <;> first|rfl|exact absurd rfl h2
 cases b <;> simp[behindInMarks,e1,e2]
def SD {op:CmpOp} {r:R2} (ho:OpR X (compareOp op) r) (ha:PE X a ta) (hb:PE X b tb) (hm:behindInMarks op b=false):PE X (.Compare a [op] [b] pos) (tOp r ta tb):=by
 intro zB s Y H Q I h;exact wpAny_Compare1 (Jc ha hb I h λv u s2 x y H2 I2 rx ry q=>ho zB s2 Y H2 x y v u Q I2 rx ry q) hm
noncomputable def IV (t:TE):TT:=λY H Q=>t Y H λx H'=>∃ k,x=.bl k/\Q k H'
def Ve {op:CmpOp} {r:R2} (ho:OpR X (compareOp op) r) (ha:PE X a ta) (hb:PE X b tb) (hm:behindInMarks op b=false):PT X (.Compare a [op] [b] pos) (IV (tOp r ta tb)):=by
 intro zB s Y H Q I h;refine wpAny_isTrue_Compare1 (thn (ha zB s Y H _ I h) λv s1 ⟨x,H1,I1,r1,q1⟩=>thn (hb zB s1 Y H1 _ I1 q1) λu s2 ⟨y,H2,I2,r2,q2⟩=>
  thn (ho zB s2 Y H2 x y v u _ I2 r1 r2 q2) λc s3 ⟨z,H3,I3,r3,k,e,q3⟩=>?_) hm
 subst e;cases r3;exact EL ⟨H3,I3,q3⟩
noncomputable def NZ (r r':R2) (ta tb tc:TE):TE:=λY H Q=>ta Y H λx H1=>tb Y H1 λy H2=>r x y H2 λz H3=>∃ k,z=.bl k /\
 (if k=true then tc Y H3 λw' H4=>r' y w' H4 Q else Q (.bl false) H3)
def dR {op op':CmpOp} {r r':R2} (ho:OpR X (compareOp op) r) (ho':OpR X (compareOp op') r') (ha:PE X a ta) (hb:PE X b tb) (hc:PE X c tc)
  (hm:lastMarks [op,op'] [b,c]=false:=by with_unfolding_all rfl):PE X (.Compare a [op,op'] [b,c] pos) (NZ r r' ta tb tc):=by
 intro zB s Y H Q I h;refine Compare_chain (thn (ha zB s Y H _ I h) λv s1 ⟨x,H1,I1,r1,q1⟩=>chain_link (thn (hb zB s1 Y H1 _ I1 q1) λu s2 ⟨y,H2,I2,r2,q2⟩=>
  thn (ho zB s2 Y H2 x y v u _ I2 r1 r2 q2) λd s3 ⟨z,H3,I3,r3,k,e,q3⟩=>?_)) hm
 subst e;cases r3;refine EL ?_;cases k with
 |false=>exact ite_ff ⟨.bl false,H3,I3,rfl,q3⟩
 |true=>exact ite_tt (chain_last (thn (hc zB s3 Y H3 _ I3 q3) λw' s4 ⟨z',H4,I4,r4,q4⟩=>ho' zB s4 Y H4 y z' u w' Q I4 r2 r4 q4))
def GQ:(sizeLine:Nat)<2 ^ 63:=by rw[sizeLine_eq];decide
def D5 {x:V} {us:Yf} (r:zX [x] us):∃ u,us=[u]/\zc x u:=by
 cases r with
 |cons r1 r2=>cases r2;exact ⟨_,rfl,r1⟩
def Xq {x y:V} {us:Yf} (r:zX [x,y] us):∃ u w',us=[u,w']/\zc x u/\zc y w':=by
 cases r with
 |cons r1 r2=>
  cases r2 with
  |cons r3 r4=>cases r4;exact ⟨_,_,rfl,r1,r3⟩
def Ws (hc:X.calm=true):B9 X (.builtin "min") (λxs H Q=>∃ i j,xs=[.int i,.int j]/\Q (.int (if j<i then j else i)) H):=by
 intro zB s Y H xs us Q I r h;obtain ⟨i,j,rfl,q⟩:=h;obtain ⟨u,w',rfl,⟨t,rfl⟩,⟨t',rfl⟩⟩:=Xq r;refine min_two_ints (I.ok.hd hc) λh' tk k=>⟨_,H,I.kept k,?_,q⟩;by_cases hj:j<i
 .rw[AD hj,AD hj];exact ⟨_,rfl⟩
 .rw[AE hj,AE hj];exact ⟨_,rfl⟩
def Uy:B9 X (.type "int") (λxs H Q=>(∃ i,xs=[.int i]/\Q (.int i) H) \/ ∃ k,xs=[.bl k]/\Q (.int (if k then 1 else 0)) H):=by
 intro zB s Y H xs us Q I r h;rcases h with ⟨i,rfl,q⟩|⟨k,rfl,q⟩
 .obtain ⟨u,rfl,t,rfl⟩:=D5 r;exact call_int_int ⟨.int i,H,I,⟨_,rfl⟩,q⟩
 .obtain ⟨u,rfl,r1⟩:=D5 r;cases r1;exact call_int_bool ⟨.int (if k then 1 else 0),H,I.tok _,⟨_,rfl⟩,q⟩
end
structure ObjM (h:Heap) (x dx C:Yt) (mA:Yh):Prop where
 obj:h.get? x=some (PySem.W.instObj C dx)
 ns:h.Ns1 dx mA
 ne:dx≠x
def Vf {h:Heap} {dx:Yt} {mA:Yh} (n:h.Ns1 dx mA):∃ od,h.get? dx=some od /\ ∀ name,PySem.W.lookIn name od=some (mA name):=by
 obtain ⟨o,es,ep,ho,hd,hk,_,hm⟩:=n;refine ⟨o,ho,λname=>?_⟩;have e:=hm name;unfold nsFind findBy at e;rw[<-Array.find?_toList]at e;unfold PySem.W.lookIn;rw[hd];dsimp only;split
 .rename_i y q;rw[q]at e;exact BV some e
 .rename_i q;rw[q]at e;have a:es.toList.any (·.refKey)=false:=by
   rw[List.any_eq_false];intro y hy;obtain ⟨z,t,hkey⟩:=hk y (Array.mem_toList_iff.mp hy);simp[DictEntry.refKey,hkey]
  have a':¬ es.toList.any (·.refKey)=true:=by rw[a];exact AY
  rw[AE a'];exact BV some e
def ObjM.look {h:Heap} {x dx C:Yt} {mA:Yh} (I:ObjM h x dx C mA):∃ od,PySem.W.InstAt h x (PySem.W.instObj C dx) C (some od) /\ ∀ name,PySem.W.lookIn name od=some (mA name) :=
 let ⟨od,ho,hl⟩:=Vf I.ns
 ⟨od,⟨I.obj,rfl,rfl,ho⟩,hl⟩
def Cq.some_of {v:V} {o:Option Value} (r:Cq (some v) o):∃ u,o=some u/\zc v u:=by
 cases o with
 |none=>exact (show False from r).elim
 |some u=>exact ⟨u,rfl,r⟩
section
variable {P:Ym} {w:Yo} {H H':Hp} {h h':Heap} {a C dx:Yt} {fs fs':List (Str × V)}
def UN (hok:HOk P w H h) (e:H a=some (.ins C dx fs)):∃ mA,ObjM h a dx C mA/\(∀ f,Cq (fs.lookup f) (mA f))/\PySem.Within mA (fs.map (·.1))/\fs.length<=1000/\H dx=some (.own a):=by
 obtain ⟨d,z,ne,ob,mA,n,r,q⟩:=(show zr P w H h a (.ins C dx fs)from hok a _ e);exact ⟨mA,⟨ob,n,ne⟩,r,q,z,d⟩
end
structure Cls (K:Yb) (C:Yt):Prop where
 pg:PySem.W.plainGet K C Str.empty=true
 hd:PySem.W.hasDictIn K C=true
 po:PySem.W.plainOver K C=true
 sa:PySem.W.findIn K (.ref C) "__setattr__" = some (some (.builtin "object.__setattr__"))
def Cls.get {K:Yb} {C:Yt} (c:Cls K C) (f:Str):PySem.W.plainGet K C f=true:=c.pg
section
variable {X:Cx} {zB:Yd} {Y:St} {H:Hp} {s:Yl} {A:Yn} {E:Yc} {Q:Yc} {c:Yu} {b:Bool}
set_option genInjectivity true in
inductive TyOf (K:Yb) (H:Hp):V->Value->Prop where
 |non:TyOf K H .non (.type "NoneType")
 |bl (x:Bool):TyOf K H (.bl x) (.type "bool")
 |int (i:Int):TyOf K H (.int i) (.type "int")
 |str (x:Str):TyOf K H (.str x) (.type "str")
 |flt (x:UInt64):TyOf K H (.flt x) (.type "float")
 |lst {a:Addr} {xs:List V} (e:H a=some (.lst xs)):TyOf K H (.ref a) (.type "list")
 |frz {a:Addr} {o:Obj} {xs:List V} (e:H a=some (.frz o (.lst xs))):TyOf K H (.ref a) (.type "list")
 |tup {a:Addr} {xs:List V} (e:H a=some (.tup xs)):TyOf K H (.ref a) (.type "tuple")
 |dK {a:Addr} {kvs:List (Key × V)} (e:H a=some (.dK kvs)):TyOf K H (.ref a) (.type "dict")
 |dT {a:Addr} {kvs:List (List Key × V)} (e:H a=some (.dT kvs)):TyOf K H (.ref a) (.type "dict")
 |ins {a C dx:Addr} {fs:List (Str × V)} (e:H a=some (.ins C dx fs)) (cl:Cls K C) (ha:PySem.W.findIn K (.ref C) "__class__" = some (some (.builtin "object.__class__")))
   (hn:PySem.W.specialIn K (.builtin "object.__class__") "__get__" = some (some (.builtin "getset_descriptor.__get__"))) (htk:PySem.W.takesIn K (.builtin "object.__class__")=some true)
   (hm:PySem.W.mroIn K C (.type "object")=some true):TyOf K H (.ref a) (.ref C)
def RK {x:V} {u t:Yu} (I:Inv X zB Y H s) (rx:zc x u) (ty:TyOf X.K H x t) (e:PySem.W.kitOne X.K t c=some b) (h:∀ tk,Q (.bool b) { s with toks:=tk }) :
  wpAny (model X.prog X.w) A (call (.builtin "isinstance") [u,c]) Q E s:=by
 cases ty with
 |non=>cases (show u=Value.none from rx);exact DX PySem.W.kitx_none I.kIn True.intro e (λz=>nomatch z) h
 |bl y=>cases (show u=Value.bool y from rx);exact DX PySem.W.kitx_bool I.kIn True.intro e (λz=>nomatch z) h
 |int i=>obtain ⟨t,q⟩:=(show ∃ t,u=Value.int i t from rx);cases q;exact DX PySem.W.kitx_int I.kIn True.intro e (λz=>nomatch z) h
 |str y=>obtain ⟨t,q⟩:=(show ∃ t,u=Value.str y t from rx);cases q;exact DX PySem.W.kitx_str I.kIn True.intro e (λz=>nomatch z) h
 |flt y=>obtain ⟨t,q⟩:=(show ∃ t,u=Value.float y t from rx);cases q;exact DX PySem.W.kitx_float I.kIn True.intro e (λz=>nomatch z) h
 | @lst a xs ea=>
  cases (show u=Value.ref a from rx);obtain ⟨_,_,n,_,h1⟩:=(show zr X.prog X.w H s.heap a (.lst xs)from I.hok a _ ea);exact DX PySem.W.kitx_list I.kIn ⟨_,h1,rfl⟩ e (λz=>nomatch z) h
 | @frz a ob xs ea=>
  cases (show u=Value.ref a from rx);obtain ⟨_,_,_,n,_,h1⟩:=(show zr X.prog X.w H s.heap a (.frz ob (.lst xs))from I.hok a _ ea);exact DX PySem.W.kitx_list I.kIn ⟨_,h1,rfl⟩ e (λz=>nomatch z) h
 | @tup a xs ea=>
  cases (show u=Value.ref a from rx);obtain ⟨_,_,_,p⟩:=(show zr X.prog X.w H s.heap a (.tup xs)from I.hok a _ ea);obtain ⟨o,h1,h2,_⟩:=p;exact DX PySem.W.kitx_tuple I.kIn ⟨o,h1,h2⟩ e (λz=>nomatch z) h
 | @dK a kvs ea=>
  cases (show u=Value.ref a from rx);obtain ⟨_,_,vs,_,p⟩:=(show zr X.prog X.w H s.heap a (.dK kvs)from I.hok a _ ea);obtain ⟨o,es,ep,h1,h2,_⟩:=p;exact DX PySem.W.kitx_dict I.kIn ⟨o,h1,h2.1⟩ e (λz=>nomatch z) h
 | @dT a kvs ea=>
  cases (show u=Value.ref a from rx);obtain ⟨_,_,xs,_,o,es,ep,h1,h2,_⟩:=(show zr X.prog X.w H s.heap a (.dT kvs)from I.hok a _ ea);exact DX PySem.W.kitx_dict I.kIn ⟨o,h1,h2.1⟩ e (λz=>nomatch z) h
 | @ins a C dx fs ea cl ha hn htk hm=>
  cases (show u=Value.ref a from rx);obtain ⟨mA,O,_⟩:=UN I.hok ea;obtain ⟨od,J,_⟩:=O.look;exact DX (PySem.W.kitx_own (cl.get _) cl.hd ha hn htk hm) I.kIn J e (λz=>nomatch z) h
end
structure Room (k:Nat) (A:Yn):Prop where
 hd:A.handled=none
 dp:A.depth+3*k+5<recursionLimit
 un:A.units+16*k+200<cLine
def Room.mono {j k:Nat} {A:Yn} (r:Room k A) (h:j<=k):Room j A:=⟨r.hd,by have:=r.dp;omega,by have:=r.un;omega⟩
def Room.deeper {k:Nat} {A:Yn} (r:Room (k+1) A) (env:Env):Room k (A.deeper env) :=
 ⟨r.hd,by have:=r.dp;show A.depth+1+3*k+5<_;omega,by have:=r.un;show A.units+3+16*k+200<_;omega⟩
def Room.depth {k:Nat} {A:Yn} (r:Room k A):A.depth<recursionLimit:=by have:=r.dp;omega
def Room.units {k:Nat} {A:Yn} (r:Room k A):A.units+64<cLine:=by have:=r.un;omega
def Room.units0 {k:Nat} {A:Yn} (r:Room k A):A.units<cLine:=by have:=r.un;omega
noncomputable def cO:TA:=λ_ H Q=>Q [] H
noncomputable def RZ (ta:TE) (tr:TA):TA:=λY H Q=>ta Y H λx H1=>tr Y H1 λxs H2=>Q (x::xs) H2
section
variable {X:Cx} {e:Expr} {es:Yi} {te:TE} {t:TA} {pos:Pos}
def Hy:PA X [] cO:=λ_ _ _ _ H Q I h=>Calls.spliced_nil ⟨[],H,I,.nil,h⟩
def Ek (ha:PE X e te) (hr:PA X es t) (hs:starEach (e::es) X.env=(false,eval e X.env)::starEach es X.env:=by rfl):PA X (e::es) (RZ te t):=by
 intro pos zB s Y H Q I h;rw[hs];show wpAny _ _ (spliced ((false,eval e X.env)::backTo pos (starEach es X.env))) _ _ s;refine Calls.spliced_cons (thn (ha zB s Y H _ I h) λu s1 ⟨x,H1,I1,r1,q1⟩=>?_);exact thn (hr pos zB s1 Y H1 _ I1 q1) λus s2 ⟨xs,H2,I2,r2,q2⟩=>⟨x::xs,H2,I2,.cons r1 r2,q2⟩
noncomputable def W9 (t:TA):TE:=λY H Q=>t Y H λxs H1=>xs.length<=sizeLine /\ ∀ p,H1 p=none->Q (.ref p) (upd H1 p (.tup xs))
noncomputable def aY (t:TA):TE:=λY H Q=>t Y H λxs H1=>xs.length<=sizeLine /\ ∀ p,H1 p=none->Q (.ref p) (upd H1 p (.lst xs))
def bC {x1} (h:PA X es t):PE X (.Tuple es x1 pos) (W9 t):=by
 intro zB s Y H Q I hq;refine wpAny_Tuple_spliced (thn (h pos zB s Y H _ I hq) λus s1 ⟨xs,H1,I1,r,z,q⟩=>⟨by rw[<-r.length];exact z,?_⟩);have hf:H1 s1.heap.objs.size=none:=I1.hok.fresh (AF _);refine ⟨.ref s1.heap.objs.size,upd H1 s1.heap.objs.size (.tup xs),I1.laid (t':=s1.toks) (λb u e=>AH _ e) (AF _) ?_,rfl,q _ hf⟩;exact ⟨z,us,r,⟨_,AN _ rfl,rfl,⟨_,rfl⟩,rfl⟩⟩
def Zj (h:PA X es t):PE X (.List es pos) (aY t):=by
 intro zB s Y H Q I hq;refine wpAny_List_spliced (thn (h pos zB s Y H _ I hq) λus s1 ⟨xs,H1,I1,r,z,q⟩=>⟨by rw[<-r.length];exact z,?_⟩);have hf:H1 s1.heap.objs.size=none:=I1.hok.fresh (AF _);refine ⟨.ref s1.heap.objs.size,upd H1 s1.heap.objs.size (.lst xs),I1.laid (t':=s1.toks) (λb u e=>AH _ e) (AF _) ?_,rfl,q _ hf⟩;exact ⟨z,us,0,r,AN _ rfl⟩
end
noncomputable abbrev Sp:=List V->Hp->VK->XK->Prop
noncomputable abbrev CXT:=List Env->Hp->Shared->XK->Value->Shared->Prop
structure Env0 (P:Ym) (w:Yo) (K:Yb) (mg:Yh) (base:Heap) (A:Yn) (outer:List Env) (s:Yl) (H:Hp):Prop where
 frames:A.frames=some outer
 mod:Mod K mg base
 bs:∀ b o,base.get? b=some o->s.heap.get? b=some o/\H b=none
 bsz:base.objs.size<=s.heap.objs.size
 funs:s.heap.FunFrames base outer
 frf:∀ b∈frs outer,H b=none
 hok:HOk P w H s.heap
 bare:AllBare s.gens
def CE (outer:List Env) (P:Ym) (w:Yo) (H:Hp) (s:Yl) (Q:VK) (u:Yu) (s':Yl):Prop :=
 ∃ v H',s'.os=s.os/\AllBare s'.gens/\Un (frs outer) [] H H' s.heap s'.heap/\HOk P w H' s'.heap/\zc v u/\Q v H'
def CR (CX:CXT) (outer:List Env) (P:Ym) (w:Yo) (H:Hp) (s:Yl) (Q:VK) (E:XK) (r:Result) (s':Yl):Prop :=
 match r with
 |.ok (.ret u)=>CE outer P w H s Q u s'
 |.ok _=>False
 |.error e=>CX outer H s E e s'
structure FnOk (P:Ym) (w:Yo) (K:Yb) (mg:Yh) (base:Heap) (CX:CXT) (k:Nat) (f:Yt) (fd:Yz) (ps:Yk) (sp:Sp):Prop where
 len:∀ vs H Q E,sp vs H Q E->vs.length=ps.length
 run:∀ (A:Yn) (outer:List Env) (s:Yl) (H:Hp) (args:Args) (us:Yf) (vs:List V) (Q:VK) (E:XK),Room k A->Env0 P w K mg base A outer s H->BindsTo s fd args (ps.zip us)->zX vs us->sp vs H Q E ->
  codeAny (model P w) A (.call (.ref f) args) (CR CX outer P w H s Q E) s
def FnOk.mono {P:Ym} {w:Yo} {K:Yb} {mg:Yh} {base:Heap} {CX:CXT} {j k:Nat} {f:Yt} {fd:Yz} {ps:Yk} {sp:Sp} (F:FnOk P w K mg base CX j f fd ps sp) (h:j<=k) :
  FnOk P w K mg base CX k f fd ps sp:=⟨F.len,λA outer s H args us vs Q E hr=>F.run A outer s H args us vs Q E (hr.mono h)⟩
def FnOk.imp {P:Ym} {w:Yo} {K:Yb} {mg:Yh} {base:Heap} {CX:CXT} {k:Nat} {f:Yt} {fd:Yz} {ps:Yk} {sp sp':Sp} (F:FnOk P w K mg base CX k f fd ps sp)
  (h:∀ vs H Q E,sp' vs H Q E->sp vs H Q E):FnOk P w K mg base CX k f fd ps sp' :=
 ⟨λvs H Q E q=>F.len vs H Q E (h _ _ _ _ q),λA outer s H args us vs Q E hr he hb hv hs=>F.run A outer s H args us vs Q E hr he hb hv (h _ _ _ _ hs)⟩
section
variable {X:Cx} {zB:Yd} {Y:St} {H:Hp} {s s':Yl}
def Inv.env0 (I:Inv X zB Y H s):Env0 X.prog X.w X.K X.mg X.base X.A X.stack s H :=
 ⟨I.ok.frames,I.ok.mod,I.bs,Ak I.ok.bsz I.sz,I.stack,I.stkFree,I.hok,I.bare⟩
def Inv.after {Q:VK} {u:Yu} (I:Inv X zB Y H s) (h:CE X.stack X.prog X.w H s Q u s'):EP X zB Y Q u s':=by
 obtain ⟨v,H',os,bare,un,hok,r,q⟩:=h;obtain ⟨hh,g,d,t,os'⟩:=s';obtain rfl:os'=s.os:=os;exact ⟨v,H',I.call (h':=hh) (g':=g) (d':=d) (t':=t) (ch:=[]) un hok bare (λb z=>absurd z (by simp)),r,q⟩
end
noncomputable def ZU (sp:Sp) (dvs:List V) (E:XK) (t:TA):TE:=λY H Q=>t Y H λvs H1=>sp (vs++dvs) H1 Q E
def D3 (K:Yb) (fd:Yz) (ps:Yk) (ds:Yf):Prop :=
 ∀ (s:Yl) (us:Yf),K.In s.heap->(us++ds).length=ps.length->BindsTo s fd ⟨us,[]⟩ (ps.zip (us++ds))
def D3.all {K:Yb} {fd:Yz} {ps:Yk} (h:∀ us:List Value,us.length=ps.length->bindArgs fd ⟨us,[]⟩=pure (ps.zip us)):D3 K fd ps []:=λs us _ hl=>by
 rw[CG]at hl ⊢;exact .of_eq (h us hl)
def Ji (CX:CXT) (X:Cx) (E:XK):Prop:=∀ (zB:Yd) (Y:St) (H:Hp) (s:Yl) (e:Yu) (s':Yl),Inv X zB Y H s->CX X.stack H s E e s'->X.xe e s'
section
variable {X:Cx} {CX:CXT} {k:Nat} {f C:Yt} {fd:Yz} {ps:Yk} {sp:Sp} {dvs:List V} {ds:Yf} {E:XK} {x m:Str} {p pos apos:Pos} {e o:Expr} {es:Yi} {ta:TE} {t:TA}
def NW {zB:Yd} {Y:St} {H:Hp} {s:Yl} {Q:VK} {us:Yf} {vs:List V} (F:FnOk X.prog X.w X.K X.mg X.base CX k f fd ps sp) (hr:Room k X.A) (hb:D3 X.K fd ps ds) (hd:zX dvs ds) (hx:Ji CX X E)
  (I:Inv X zB Y H s) (r:zX vs us) (h:sp (vs++dvs) H Q E):wpAny (model X.prog X.w) X.A (call (.ref f) us) (EP X zB Y Q) X.xe s:=by
 have r2:zX (vs++dvs) (us++ds):=r.append hd;have hl:(us++ds).length=ps.length:=by rw[<-r2.length];exact F.len _ _ _ _ h
 refine wpAny_call (codeAny_mono (F.run X.A X.stack s H ⟨us,[]⟩ (us++ds) (vs++dvs) Q E hr I.env0 (hb s us I.kIn hl) r2 h) λr s' hq=>?_);cases r with
 |error e=>exact hx zB Y H s e s' I hq
 |ok fl=>
  cases fl with
  |ret u=>exact I.after hq
  |next=>exact False.elim hq
  |brk=>exact False.elim hq
  |cont=>exact False.elim hq
def Si (F:FnOk X.prog X.w X.K X.mg X.base CX k f fd ps sp) (hr:Room k X.A) (hg:Gl X x) (hm:X.mg x=some (.ref f)) (hk:PySem.W.keepIn X.K (.ref f)=true) (hb:D3 X.K fd ps ds) (hd:zX dvs ds) (hx:Ji CX X E)
  (ha:PA X (e::es) t) (hdb:(x==("__debug__" : Str))=false:=by decide) (he:starEach (e::es) X.env=(false,eval e X.env)::starEach es X.env:=by rfl) (hpl:(backTo pos (starEach es X.env)).any (·.1)=false:=by rfl) :
  PE X (.Call (.Name x p) (e::es) [] pos) (ZU sp dvs E t):=by
 intro zB s Y H Q I h;refine Eu (OS I hg hm ?_ hdb);refine PySem.W.callWith_K (h₀:=X.base) I.ok.mod.kin hk (thn (ha pos zB s Y H _ I h) λus s1 ⟨vs,H1,I1,r,q⟩=>⟨I1.kIn,?_⟩) he hpl;exact NW F hr hb hd hx I1 r q
end
structure FnScope (N P:Yk) (sc:Y0):Prop where
 kind:sc.kind=.function
 co:sc.isCoroutine=false
 gen:sc.isGenerator=false
 nd:N.Nodup
 pre:N.take P.length=P
 par:∀ x∈P,sc.names.lookup x=some .local\/sc.names.lookup x=some .cell
 nofree:∀ y∈sc.names,y.2≠.free
theorem PN {kindOf:Str->Option NameKind} {x:Str}:∀ {binds:List (Str × Value)} {m:Yh},(∀ v,(x,v)∉binds)->bindL kindOf binds m x=m x
 |[],_,_=>rfl
 | (n,v)::r,m,h=>by
  unfold bindL;rw[PN λw hw=>h w (Am _ hw)];split
  .have:x≠n:=by rintro rfl;exact h v AW
   simp[this]
  .rfl
theorem NL {kindOf:Str->Option NameKind} {x:Str}:∀ {binds:List (Str × Value)} {m:Yh},(∀ v,(x,v)∉binds)->bindC kindOf binds m x=m x
 |[],_,_=>rfl
 | (n,v)::r,m,h=>by
  unfold bindC;rw[NL λw hw=>h w (Am _ hw)];split
  .rfl
  .have:x≠n:=by rintro rfl;exact h v AW
   simp[this]
theorem Oj {kindOf:Str->Option NameKind} {x:Str} {v:Yu}:∀ {P:Yk} {vs:Yf} {i:Nat} {m:Yh},P.Nodup->P[i]?=some x->vs[i]?=some v->kindOf x=some .local ->
  bindL kindOf (P.zip vs) m x=some v
 |[],_,_,_,_,h,_,_=>by simp at h
 |_::_,[],_,_,_,_,h,_=>by simp at h
 |p::P,w::vs,0,m,nd,h1,h2,hk=>by
  simp at h1 h2;subst h1;subst h2;show bindL kindOf ((p,w)::P.zip vs) m p=_;unfold bindL;rw[PN λv hv=>(ET.mp nd).1 (List.of_mem_zip hv).1,AD hk];simp
 |p::P,w::vs,i+1,m,nd,h1,h2,hk=>by
  show bindL kindOf ((p,w)::P.zip vs) m x=_;unfold bindL;exact Oj (i:=i) (ET.mp nd).2 (by simpa using h1) (by simpa using h2) hk
theorem OH {kindOf:Str->Option NameKind} {x:Str} {v:Yu}:∀ {P:Yk} {vs:Yf} {i:Nat} {m:Yh},P.Nodup->P[i]?=some x->vs[i]?=some v->kindOf x≠some .local ->
  bindC kindOf (P.zip vs) m x=some v
 |[],_,_,_,_,h,_,_=>by simp at h
 |_::_,[],_,_,_,_,h,_=>by simp at h
 |p::P,w::vs,0,m,nd,h1,h2,hk=>by
  simp at h1 h2;subst h1;subst h2;show bindC kindOf ((p,w)::P.zip vs) m p=_;unfold bindC;rw[NL λv hv=>(ET.mp nd).1 (List.of_mem_zip hv).1,AE hk];simp
 |p::P,w::vs,i+1,m,nd,h1,h2,hk=>by
  show bindC kindOf ((p,w)::P.zip vs) m x=_;unfold bindC;exact OH (i:=i) (ET.mp nd).2 (by simpa using h1) (by simpa using h2) hk
noncomputable def D0 (N:Yk) (vs:List V):St:=vs.map some++List.replicate (N.length-vs.length) none
noncomputable def FK (CX:CXT) (P:Ym) (w:Yo) (K:Yb) (mg:Yh) (base:Heap) (N:Yk) (qual:Str) (scope:Y0) (f:Yt) (cd:Yu) (A:Yn) (outer:List Env) (s:Yl) (H:Hp) (E:XK):Cx where
 prog:=P
 w:=w
 K:=K
 mg:=mg
 base:=base
 A:=A.deeper (envOfC qual scope s.heap.objs.size f cd)
 N:=N
 s₀:=s
 H₀:=H
 env:=envOfC qual scope s.heap.objs.size f cd
 outer:=outer
 stack:=envOfC qual scope s.heap.objs.size f cd::outer
 ex:=[]
 calm:=true
 fn:=λ_=>true
 pn:=[]
 xe:=λe s'=>wpAny (model P w) (A.deeper (envOfC qual scope s.heap.objs.size f cd)) (leaving (envOfC qual scope s.heap.objs.size f cd) e) (λ_ s''=>CX outer H s E e s'') (λe' s''=>CX outer H s E e' s'') s'
def J7 {sc:Y0} {n:Nat} {x:Str} (h:sc.names.lookup x=some .cell):∃ c,(cellsFrom n sc.names []).lookup x=some c:=by
 have q:=PySem.W.cellsFrom_some sc.names n [] (.inl h);exact Option.isSome_iff_exists.mp q
def YI {CX:CXT} {P:Ym} {w:Yo} {K:Yb} {mg:Yh} {base:Heap} {N ps:Yk} {qual:Str} {scope:Y0} {f:Yt} {cd:Yu} {A:Yn} {outer:List Env} {s s1:Yl} {H:Hp} {E:XK} {us:Yf} {vs:List V}
  (S:FnScope N ps scope) (hd:A.handled=none) (e0:Env0 P w K mg base A outer s H) (hl:vs.length=ps.length) (r:zX vs us)
  (x:InCallC s s.heap.objs.size (bindL (envOfC qual scope s.heap.objs.size f cd).kindOf (ps.zip us) λ_=>none) (cellsFrom (s.heap.objs.size+1) scope.names []) (bindC (envOfC qual scope s.heap.objs.size f cd).kindOf (ps.zip us) λ_=>none) s1) :
  Inv (FK CX P w K mg base N qual scope f cd A outer s H E) [] (D0 N vs) H s1:=by
 have hpl:ps.length<=N.length:=by have:=BV List.length S.pre;rw[BN]at this;omega
 obtain ⟨h1,tk,rfl,hk⟩:=x.done;have noA:∀ b:Addr,b∉(FK CX P w K mg base N qual scope f cd A outer s H E).ex:=λb z=>absurd (show b∈([]:List Addr)from z) (by simp)
 refine ⟨⟨e0.mod,S.kind,rfl,rfl,AF _,λy z c h1 h2=>?_,λy hy=>?_,λy c _ h=>?_,λ_=>hd,Around.frames_deeper e0.frames,.inr ⟨rfl,rfl⟩,λb z=>absurd z (noA b),e0.bs,e0.bsz,λb _ _=>noA b,λb z=>absurd z (noA b),e0.funs,e0.frf⟩,
  rfl,e0.bare,Un.kept hk,⟨_,x.toInCall.ns,λi y v h1 h2 h3=>?_⟩,λy c h=>⟨_,x.cell y c h⟩,e0.hok.fresh (AF _),λy c h=>?_,λp hp=>absurd (show p∈([]:List (Addr × Obj))from hp) (by simp),e0.hok.kept hk,?_⟩
 .exact name_of_addr x.apart (Bx h1) (Bx h2)
 .have hy:scope.names.lookup y=some .cell\/scope.names.lookup y=some .free:=hy;rcases hy with hy|hy
  .exact J7 hy
  .exact absurd rfl (S.nofree _ (Bx hy))
 .exact CP (x.above y c (Bx h))
 .have hi:i<vs.length:=by
   unfold D0 at h2;by_cases hi:i<vs.length
   .exact hi
   .rw[Cn (by simpa using hi)]at h2;rw[List.getElem?_replicate]at h2;split at h2 <;> cases h2
  have ha:vs[i]?=some v:=by
   unfold D0 at h2;rw[Ag (by simpa using hi),AR]at h2;cases e:vs[i]? with
   |none=>rw[e]at h2;cases h2
   |some a=>rw[e]at h2;cases h2;rfl
  obtain ⟨u,hu,rv⟩:=r.get ha;have hp:ps[i]?=some y:=by
   rw[<-S.pre,Gj (by omega)];exact h1
  have ndP:ps.Nodup:=by rw[<-S.pre];exact S.nd.sublist (List.take_sublist _ _)
  refine ⟨u,rv,?_⟩;rcases S.par y (Ba hp)with k|k
  .exact .inl ⟨k,Oj ndP hp hu k⟩
  .obtain ⟨c,e⟩:=J7 (n:=s.heap.objs.size+1) k;refine .inr ⟨.inl k,c,e,?_⟩;have q:=x.cell y c e;rw[OH ndP hp hu (by show scope.names.lookup y≠_;rw[k];decide)]at q;exact q
 .exact e0.hok.fresh (CP (x.above y c (Bx h)))
 .unfold D0;show _=N.length;rw[Ae,AG,List.length_replicate];omega
def MT {CX:CXT} {P:Ym} {w:Yo} {K:Yb} {mg:Yh} {base:Heap} {k:Nat} {f:Yt} {name qual:Str} {params:Arguments} {body:Yy} {scope:Y0} {dV kV doc pm cdv ct oc:Yu} {an od:Option Addr}
  {osl:Array (Option Value)} {N ps:Yk} {sp:Sp} (lk:K.lookup f=some ⟨oc,od,.func (PySem.W.fnOf name qual params body scope dV kV doc pm an cdv ct),osl⟩) (hcd:PySem.W.codeIn K cdv qual=true) (S:FnScope N ps scope)
  (len:∀ vs H Q E,sp vs H Q E->vs.length=ps.length)
  (hbody:∀ (A:Yn) (outer:List Env) (s:Yl) (H:Hp) (vs:List V) (Q:VK) (E:XK),Room k (A.deeper (envOfC qual scope s.heap.objs.size f cdv))->sp vs H Q E ->
   ∃ t,PSs (FK CX P w K mg base N qual scope f cdv A outer s H E) body t/\t { nx:=λ_ H'=>Q .non H',rt:=Q } (D0 N vs) H) :
  FnOk P w K mg base CX (k+1) f (PySem.W.fnOf name qual params body scope dV kV doc pm an cdv ct) ps sp:=by
 refine ⟨len,λA outer s H args us vs Q E hr e0 hb r hsp=>?_⟩;have hl:=len _ _ _ _ hsp;have KX:K.In s.heap:=e0.mod.kin.keeps λb o e=>(e0.bs b o e).1;have lim:s.heap.NoLimit:=e0.mod.nolimit.keeps λb o e=>(e0.bs b o e).1;have hkind:∀ y∈ps.zip us,scope.names.lookup y.1=some .local\/(scope.names.lookup y.1=some .cell/\((cellsFrom (s.heap.objs.size+1) scope.names []).lookup y.1).isSome=true):=λ⟨n,v⟩ hy=>by
  rcases S.par n (List.of_mem_zip hy).1 with q|q
  .exact .inl q
  .exact .inr ⟨q,PySem.W.cellsFrom_some _ _ _ (.inl q)⟩
 refine codeAny_call_function hr.depth (KX _ _ lk) rfl S.co S.gen rfl (PySem.W.codeRec_of KX hcd) (hb _ _ _ _ ?_);refine wpAny_newFunctionEnv_cells S.kind hkind λenv he s1 x=>?_;subst he;refine ⟨lim.keeps x.toInCall.keep,codeAny_func ?_⟩;obtain ⟨t,ht,hq⟩:=hbody A outer s H vs Q E (hr.deeper _) hsp;have I:Inv (FK CX P w K mg base N qual scope f cdv A outer s H E) [] (D0 N vs) H s1:=YI S hr.hd e0 hl r x;refine Ar (ht [] s1 (D0 N vs) H _ I hq) (λfl s' hs=>?_) λe s' hs=>hs;have fin:∀ {Y':St} {H':Hp} {v:V} {u:Yu},Inv (FK CX P w K mg base N qual scope f cdv A outer s H E) [] Y' H' s'->zc v u->Q v H'->CE outer P w H s Q u s' :=
  λ{Y' H' v u} J rv q=>⟨v,H',J.os,J.bare,J.base,J.hok,rv,q⟩
 cases fl with
 |ret u=>
  obtain ⟨v,Y',H',J,rv,q⟩:=hs;exact fin J rv q
 |next=>
  obtain ⟨Y',H',J,q⟩:=hs;exact fin (v:=V.non) (u:=Value.none) J rfl q
 |brk=>
  obtain ⟨_,_,_,q⟩:=hs;exact False.elim q
 |cont=>
  obtain ⟨_,_,_,q⟩:=hs;exact False.elim q
section
variable {X:Cx} {x:Str} {p pos:Pos} {e:Expr} {es:Yi} {t:TA} {id T:String} {r:List V->Hp->VK->Prop}
noncomputable def tCB (r:List V->Hp->VK->Prop) (t:TA):TE:=λY H Q=>t Y H λvs H1=>r vs H1 Q
def Og (hc:B9 X (.builtin id) r) (hg:Gl X x) (hm:X.mg x=none) (hv:bootBuiltins x=some (.builtin id)) (ha:PA X (e::es) t) (hn:x ≠ "__name__" := by decide) (hdb:(x==("__debug__" : Str))=false:=by decide)
  (he:starEach (e::es) X.env=(false,eval e X.env)::starEach es X.env:=by rfl) (hpl:(backTo pos (starEach es X.env)).any (·.1)=false:=by rfl):PE X (.Call (.Name x p) (e::es) [] pos) (tCB r t):=by
 intro zB s Y H Q I h;refine Eu (Fb I hg hm hv ?_ hn hdb);exact PyProof.Rows.callWith_builtin1 (thn (ha pos zB s Y H _ I h) λus s1 ⟨vs,H1,I1,r1,q1⟩=>hc zB s1 Y H1 vs us Q I1 r1 q1) he hpl
def J1 (hc:B9 X (.type T) r) (hg:Gl X x) (hm:X.mg x=none) (hv:bootBuiltins x=some (.type T)) (ha:PA X (e::es) t) (hn:x ≠ "__name__" := by decide) (hdb:(x==("__debug__" : Str))=false:=by decide)
  (he:starEach (e::es) X.env=(false,eval e X.env)::starEach es X.env:=by rfl) (hpl:(backTo pos (starEach es X.env)).any (·.1)=false:=by rfl):PE X (.Call (.Name x p) (e::es) [] pos) (tCB r t):=by
 intro zB s Y H Q I h;refine Eu (Fb I hg hm hv ?_ hn hdb);exact PyProof.Rows.callWith_type1 (thn (ha pos zB s Y H _ I h) λus s1 ⟨vs,H1,I1,r1,q1⟩=>hc zB s1 Y H1 vs us Q I1 r1 q1) he hpl
end
end L2
namespace HT
open PySem PyProof.Rows
section
variable {prog:Ym} {w:Yo} {A:Yn} {E:Yc} {s:Yl}
def TH {t b:Yt} {vs ws:Yf} {Q:Yc} (ht:IsTup s.heap t vs.toArray) (hb:IsTup s.heap b ws.toArray) (hv:vs≠[])
  (h1:ws=[]->Q (.ref t) s) (h2:ws≠[]->Q (.ref s.heap.objs.size) { s with heap:=s.heap.push { cls:=.type "tuple", data:=.seq (vs++ws).toArray } })
  (hsz:vs.length+ws.length<=sizeLine):wpAny (model prog w) A (binaryOp .Add (.ref t) (.ref b)) Q E s:=by
 obtain ⟨⟨cls,dd,data,sl⟩,ho,hc,n,hd⟩:=id ht;obtain ⟨⟨cls2,dd2,data2,sl2⟩,ho2,hc2,n2,hd2⟩:=id hb;simp only at hc hd hc2 hd2;subst hc hd hc2 hd2;have e:vs.toArray++ws.toArray=(vs++ws).toArray:=by simp
 by_cases hw:ws=[]
 .exact concat_meets ⟨_,ho,rfl⟩ ⟨_,ho2,rfl⟩ noFill_tuple_add seq_tuple_add PySem.F.slot_tuple_add PySem.F.entry_tuple_add (PySem.F.args_tuple_add_2 _ _)
   (tuple_addW1 t b vs.toArray ws.toArray n n2 dd dd2 sl sl2 (by simpa using hv) (by simp[hw])) ⟨ho,ho2,h1 hw⟩
 .refine concat_meets ⟨_,ho,rfl⟩ ⟨_,ho2,rfl⟩ noFill_tuple_add seq_tuple_add PySem.F.slot_tuple_add PySem.F.entry_tuple_add (PySem.F.args_tuple_add_2 _ _)
   (tuple_addW2 t b vs.toArray ws.toArray n n2 dd dd2 sl sl2 (by simpa using hv) (by simpa using hw) (by rw[AZ,AZ];exact hsz)) ⟨ho,ho2,?_⟩
  rw[e];exact h2 hw
noncomputable def sIx (n d:Nat):Option Int->Nat
 |none=>d
 |some v=>if v<0 then (v+(n:Int)).toNat else min v.toNat n
def S3 (n d:Nat):sIx n d none=d:=rfl
def Qb (n d k:Nat):sIx n d (some (k:Int))=min k n:=by
 show (if (k:Int)<0 then ((k:Int)+(n:Int)).toNat else min (k:Int).toNat n)=min k n;rw[AE (by omega),BG]
def X1 (n d:Nat) (hd:d<=n) (o:Ys):sIx n d o<=n:=by
 cases o with
 |none=>exact hd
 |some v=>
  show (if v<0 then (v+(n:Int)).toNat else min v.toNat n)<=n;by_cases hv:v<0
  .rw[AD hv];omega
  .rw[AE hv];exact Nat.min_le_right _ _
def Nr (v:Int) (n d:Nat):(if v<0 then max (v+(n:Int)) 0 else min v (n:Int))=((sIx n d (some v):Nat):Int):=by
 show (if v<0 then max (v+(n:Int)) 0 else min v (n:Int))=(((if v<0 then (v+(n:Int)).toNat else min v.toNat n):Nat):Int);by_cases hv:v<0
 .simp only[AD hv];omega
 .simp only[AE hv];omega
def VT (lo hi:Ys) (n:Nat):Builtin.Slice.sliceAdjust lo hi 1 (n:Int)=(((sIx n 0 lo:Nat):Int),((sIx n n hi:Nat):Int)):=by
 have h1:¬ ((1:Int)<0):=by omega
 unfold Builtin.Slice.sliceAdjust;simp only[h1,if_false];refine Prod.ext ?_ ?_
 .cases lo with
  |none=>rfl
  |some v=>exact Nr v n 0
 .cases hi with
  |none=>rfl
  |some v=>exact Nr v n n
def ZJ (i j:Nat):Builtin.Slice.slicePlaces (i:Int) (j:Int) 1=j-i:=by
 unfold Builtin.Slice.slicePlaces;have h1:(1:Int)>0:=by omega
 simp only[h1,if_true,Int.ediv_one];split <;> omega
def Pw {v:Yu} {o:Ys} {Q:Option Int->Shared->Prop} (p:IsPart v o) (h:Q o s):wpAny (model prog w) A (Builtin.Slice.slicePartIndex v) Q E s:=by
 cases p with
 |none=>exact slicePart_none h
 |int i t=>exact slicePart_int h
def P8 {sl:Yt} {vl vu:Yu} {lo hi:Ys} {n:Nat} {Q:Int × Int × Nat->Shared->Prop} (hs:s.heap.IsSliceOf sl vl vu .none) (pl:IsPart vl lo) (pu:IsPart vu hi)
  (h:Q (((sIx n 0 lo:Nat):Int),1,sIx n n hi-sIx n 0 lo) s):wpAny (model prog w) A (Builtin.Slice.sliceApplied (.ref sl) (pure (n:Int))) Q E s:=by
 obtain ⟨os,hos,hcs,hds⟩:=id hs;unfold Builtin.Slice.sliceApplied Builtin.Slice.sliceFields;refine AA (AA (Cm hos hds (x:=vl) rfl (AA (Cm hos hds (x:=vu) rfl (AA (Cm hos hds (x:=.none) rfl (AB ?_)))))));refine AA (slicePart_none ?_);show wpAny _ _ (if ((1:Int)==0)=true then _ else _) _ _ s;rw[AE (by decide)];refine AA (Pw pl (AA (Pw pu (AA (AB ?_)))));show wpAny _ _ (match Builtin.Slice.sliceAdjust lo hi 1 (n:Int) with|(lo,hi)=>pure (lo,(1:Int),Builtin.Slice.slicePlaces lo hi 1)) _ _ s;rw[VT lo hi n];show wpAny _ _ (pure (((sIx n 0 lo:Nat):Int),(1:Int),Builtin.Slice.slicePlaces ((sIx n 0 lo:Nat):Int) ((sIx n n hi:Nat):Int) 1)) _ _ s;rw[ZJ];exact AB h
def cQ (xs:Yp) (i k:Nat):((List.range k).filterMap λ(m:Nat)=>xs[((i:Int)+(m:Int)*1).toNat]?).toArray=((xs.toList.drop i).take k).toArray:=by
 have e:(λ(m:Nat)=>xs[((i:Int)+(m:Int)*1).toNat]?)=λm=>xs[i+m]?:=by
  funext m;have:((i:Int)+(m:Int)*1).toNat=i+m:=by omega
  rw[this]
 rw[e];have:=pick_run xs i k;rw[List.filterMap_map]at this;have e2:((λx=>xs[x]?)∘λx=>i+x)=λm=>xs[i+m]?:=rfl;rw[e2]at this;rw[this]
def Uk {t sl:Yt} {items:Yp} {vl vu:Yu} {lo hi:Ys} {Q:Yc} (ht:IsTup s.heap t items) (hs:s.heap.IsSliceOf sl vl vu .none) (pl:IsPart vl lo) (pu:IsPart vu hi)
  (hw:¬ (sIx items.size 0 lo=0/\sIx items.size items.size hi=items.size))
  (h:Q (.ref s.heap.objs.size) { s with heap:=s.heap.push { cls:=.type "tuple", data:=.seq ((items.toList.drop (sIx items.size 0 lo)).take (sIx items.size items.size hi-sIx items.size 0 lo)).toArray } })
  (hsz:items.size<=sizeLine):wpAny (model prog w) A (getItem (.ref t) (.ref sl)) Q E s:=by
 have htake:sizeOk (.seq ((items.toList.drop (sIx items.size 0 lo)).take (sIx items.size items.size hi-sIx items.size 0 lo)).toArray):=by
  show ((items.toList.drop (sIx items.size 0 lo)).take (sIx items.size items.size hi-sIx items.size 0 lo)).toArray.size<=sizeLine;rw[AZ,BN,Ea,BD];omega
 have hj:sIx items.size items.size hi<=items.size:=X1 _ _ (AF _) hi;obtain ⟨os,hos,hcs,hds⟩:=id hs;have hTs:s.TypeIs (.ref sl) "slice" := ⟨os,hos,hcs⟩;unfold getItem;try with_reducible refine Bw ?_
 first|refine AA (AB ?_)|skip
 refine AA (wpAny_sequenceKey ht.typeIs (by decide) ?_)
 refine AA (CY (name:=Str.ofString "__getitem__") ht.typeIs Gv
  (BY Gv ht.typeIs entry_tuple_getitem ?_ (args_tuple_getitem _ _)))
 show wpAny _ _ (Builtin.Tuple.tupleItemsOf (.ref t) >>= _) _ _ s;refine AA (tupleItemsOf_ ht ?_);refine AA (wpAny_typeOf hTs ?_);rw[AD (by decide)];refine AA (P8 hs pl pu ?_);have hno:¬ ((((sIx items.size 0 lo:Nat):Int)==0&&(1:Int)==1&&(sIx items.size items.size hi-sIx items.size 0 lo)==items.size)=true):=by
  intro q;rw[Ap,Ap]at q;have q1:((sIx items.size 0 lo:Nat):Int)=0:=eq_of_beq q.1.1;have q2:sIx items.size items.size hi-sIx items.size 0 lo=items.size:=eq_of_beq q.2;exact hw ⟨by omega,by omega⟩
 show wpAny _ _ (if (((sIx items.size 0 lo:Nat):Int)==0&&(1:Int)==1&&(sIx items.size items.size hi-sIx items.size 0 lo)==items.size)=true then _ else _) _ _ s;rw[AE hno,cQ]
 first
  |exact AA (m:=Builtin.Tuple.tupleExact _) (BI (AB ⟨_,rfl,AB h⟩) htake)
  |exact AA (m:=Builtin.Tuple.tupleExact _) (BI (AA (AB (AB ⟨_,rfl,AB h⟩))) htake)
  |exact AA (AA (m:=Builtin.Tuple.tupleExact _) (BI (AB (AB ⟨_,rfl,AB h⟩)) htake))
  |exact AA (AA (m:=Builtin.Tuple.tupleExact _) (BI (AB ⟨_,rfl,AB h⟩) htake))
end
end HT
namespace L2
noncomputable abbrev TO:=St->Hp->(Option Int->Hp->Prop)->Prop
def PO (X:Cx) (e:Option Expr) (t:TO):Prop :=
 ∀ (zB:Yd) (s:Yl) (Y:St) (H:Hp) (Q:Option Int->Hp->Prop),Inv X zB Y H s->t Y H Q ->
  wpAny (model X.prog X.w) X.A (evalPart e X.env) (λu s'=>∃ o H',Inv X zB Y H' s'/\IsPart u o/\Q o H') X.xe s
noncomputable def W8:TO:=λ_ H Q=>Q none H
noncomputable def eA (t:TE):TO:=λY H Q=>t Y H λx H1=>∃ i,x=.int i/\Q (some i) H1
section
variable {X:Cx} {e:Expr} {te:TE} {lo hi:Option Expr} {tl th:TO} {pos p2:Pos}
def Ze:PO X none W8:=by
 intro zB s Y H Q I h;rw[evalPart_none];exact AB ⟨none,H,I,.none,h⟩
def Sx (h:PE X e te):PO X (some e) (eA te):=by
 intro zB s Y H Q I hw;rw[evalPart_some];refine thn (h zB s Y H _ I hw) λu s1 ⟨x,H1,I1,r1,q1⟩=>?_;obtain ⟨i,rfl,q⟩:=q1;obtain ⟨t,rfl⟩:=r1;exact ⟨some i,H1,I1,.int i t,q⟩
def SlR (X:Cx) (r:V->Option Int->Option Int->Hp->VK->Prop):Prop :=
 ∀ (zB:Yd) (s:Yl) (Y:St) (H:Hp) (x:V) (v vl vu:Yu) (lo hi:Ys) (sl:Yt) (Q:VK),Inv X zB Y H s->zc x v->s.heap.IsSliceOf sl vl vu .none->IsPart vl lo->IsPart vu hi->r x lo hi H Q ->
  ∃ T id,typeLookup (.type T) "__getitem__" = pure (some (.builtin id))/\s.TypeIs v T/\wpAny (model X.prog X.w) X.A (getItem v (.ref sl)) (EP X zB Y Q) X.xe s
def SlR.or {r r':V->Option Int->Option Int->Hp->VK->Prop} (h:SlR X r) (h':SlR X r'):SlR X (λx lo hi H Q=>r x lo hi H Q\/r' x lo hi H Q):=by
 intro zB s Y H x v vl vu lo hi sl Q I rx hs pl pu q;rcases q with q|q
 .exact h zB s Y H x v vl vu lo hi sl Q I rx hs pl pu q
 .exact h' zB s Y H x v vl vu lo hi sl Q I rx hs pl pu q
noncomputable def tSl (r:V->Option Int->Option Int->Hp->VK->Prop) (te:TE) (tl th:TO):TE:=λY H Q=>te Y H λx H1=>tl Y H1 λl H2=>th Y H2 λu H3=>r x l u H3 Q
def YK {r:V->Option Int->Option Int->Hp->VK->Prop} (hr:SlR X r) (he:PE X e te) (hl:PO X lo tl) (hu:PO X hi th):PE X (.Subscript e (.Slice lo hi none p2) pos) (tSl r te tl th):=by
 intro zB s Y H Q I h;refine Subscript_ (thn (he zB s Y H _ I h) λv s1 ⟨x,H1,I1,r1,q1⟩=>?_);refine wpAny_Slice (thn (hl zB s1 Y H1 _ I1 q1) λvl s2 ⟨l,H2,I2,pl,q2⟩=>thn (hu zB s2 Y H2 _ I2 q2) λvu s3 ⟨u,H3,I3,pu,q3⟩=>?_);rw[evalPart_none];refine AB ?_;have I4:Inv X zB Y H3 { s3 with heap:=s3.heap.push { cls:=.type "slice", data:=.fields #[vl,vu,.none] } }:=I3.kept (t':=s3.toks) λb ob q=>AH _ q;obtain ⟨T,id,hT,ht,hg⟩:=hr zB { s3 with heap:=s3.heap.push { cls:=.type "slice", data:=.fields #[vl,vu,.none] } } Y H3 x v vl vu l u s3.heap.objs.size Q I4 r1 (Heap.IsSliceOf.new ..) pl pu q3;show wpAny (model X.prog X.w) X.A (subscriptTail e (.Slice lo hi none p2) v (.ref s3.heap.objs.size)) (EP X zB Y Q) X.xe { s3 with heap:=s3.heap.push { cls:=.type "slice", data:=.fields #[vl,vu,.none] } };exact tail_any (ops:=[.ref s3.heap.objs.size,v]) ht hT hg (by with_unfolding_all rfl)
noncomputable def E2 (xs:List V) (lo hi:Ys):List V:=(xs.drop (HT.sIx xs.length 0 lo)).take (HT.sIx xs.length xs.length hi-HT.sIx xs.length 0 lo)
def OJ (xs:List V) (lo hi:Ys):(E2 xs lo hi).length<=xs.length:=by
 unfold E2;rw[BN,Ea];omega
def VW (K:Yb):V->Option Int->Option Int->Hp->VK->Prop:=λx lo hi H Q=>∃ a xs,x=.ref a/\SqT K H a xs /\
 ¬ (HT.sIx xs.length 0 lo=0/\HT.sIx xs.length xs.length hi=xs.length) /\ ∀ p,H p=none->Q (.ref p) (upd H p (.tup (E2 xs lo hi)))
def YR:SlR X (VW X.K):=by
 intro zB s Y H x v vl vu lo hi sl Q I rx hs pl pu h;obtain ⟨a,xs,rfl,hx,hw,q⟩:=h;cases rx;obtain ⟨its,r,ht,hz⟩:=I.tuple hx;have hlen:its.toArray.size=xs.length:=by rw[AZ];exact r.length.symm
 refine ⟨"tuple", _,Gv.lookup,ht.typeIs,?_⟩;refine HT.Uk ht hs pl pu (by rw[hlen];exact hw) ?_ (by rw[hlen];exact hz);rw[hlen];refine ⟨.ref s.heap.objs.size,_,I.laid (t':=s.toks) (o:=.tup (E2 xs lo hi)) (λb ob q=>AH _ q) (AF _) ?_,rfl,q _ (I.hok.fresh (AF _))⟩;exact ⟨Ak (OJ xs lo hi) hz,_,(r.drop (HT.sIx xs.length 0 lo)).take (HT.sIx xs.length xs.length hi-HT.sIx xs.length 0 lo),C7.new _ _⟩
noncomputable def NP (K:Yb):R2:=λx y H Q=>∃ a b xs ys,x=.ref a/\y=.ref b/\SqT K H a xs/\SqT K H b ys/\xs≠[]/\xs.length+ys.length<=sizeLine /\
 (ys=[]->Q (.ref a) H)/\(ys≠[] -> ∀ p,H p=none->Q (.ref p) (upd H p (.tup (xs++ys))))
def zX.nil_iff {xs:List V} {us:Yf} (r:zX xs us):us=[] ↔ xs=[]:=by
 cases r with
 |nil=>simp
 |cons _ _=>simp
def Xm:OpR X (binaryOp .Add) (NP X.K):=by
 intro zB s Y H x y v u Q I rx ry h;obtain ⟨a,b,xs,ys,rfl,rfl,ha,hb,hx,hz,q1,q2⟩:=h;cases rx;cases ry;obtain ⟨its,r1,p1,_⟩:=I.tuple ha;obtain ⟨its2,r2,p2,_⟩:=I.tuple hb;refine HT.TH p1 p2 (λz=>hx (r1.nil_iff.mp z)) (λz=>⟨.ref a,H,I,rfl,q1 (r2.nil_iff.mp z)⟩) (λz=>?_) (by rw[<-r1.length,<-r2.length];exact hz);refine ⟨.ref s.heap.objs.size,_,I.laid (t':=s.toks) (o:=.tup (xs++ys)) (λb ob q=>AH _ q) (AF _) ?_,rfl,q2 (λw=>z (r2.nil_iff.mpr w)) _ (I.hok.fresh (AF _))⟩;exact ⟨by rw[Ae];exact hz,_,r1.append r2,C7.new _ _⟩
end
noncomputable def ixN (n:Nat) (i:Int):Option Nat:=if 0<=i then (if i<n then some i.toNat else none) else if -(n:Int)<=i then some (i+n).toNat else none
noncomputable def atI {α:Type} (xs:List α) (i:Int):Option α:=(ixN xs.length i).bind λj=>xs[j]?
def Ql {n:Nat} {i:Int} {j:Nat} (h:ixN n i=some j):seqIndex? i n=some j/\j<n /\ -(n:Int)<=i/\i<n:=by
 unfold ixN at h;by_cases h0:0<=i
 .rw[AD h0]at h;by_cases h1:i<n
  .rw[AD h1]at h;have e:i.toNat=j:=Bc h;exact ⟨by rw[seqIndex_of h0 h1,e],by omega,by omega,h1⟩
  .rw[AE h1]at h;cases h
 .rw[AE h0]at h;by_cases h1 : -(n:Int)<=i
  .rw[AD h1]at h;have e:(i+n).toNat=j:=Bc h;exact ⟨by rw[seqIndex_neg (by omega) h1,e],by omega,h1,by omega⟩
  .rw[AE h1]at h;cases h
def Kd {α:Type} {xs:List α} {i:Int} {v:α} (h:atI xs i=some v):∃ j,seqIndex? i xs.length=some j/\xs[j]?=some v/\j<xs.length /\ -(xs.length:Int)<=i/\i<xs.length:=by
 unfold atI at h;cases e:ixN xs.length i with
 |none=>rw[e]at h;cases h
 |some j=>
  rw[e]at h;obtain ⟨h1,h2,h3,h4⟩:=Ql e;exact ⟨j,h1,h,h2,h3,h4⟩
def DL {α:Type} {xs:List α} {j:Nat} {v:α} (h:xs[j]?=some v):atI xs (j:Int)=some v:=by
 have hj:j<xs.length:=(AK.mp h).1;have e:ixN xs.length (j:Int)=some j:=by
  unfold ixN;rw[AD (by omega),AD (by omega)];simp
 unfold atI;rw[e];exact h
def Pg (b:Expr):Prop:=∀ o i,subscripted b false o i=operate [o,i] (getItem o i)
def IxR (X:Cx) (r:R2):Prop :=
 ∀ (value slice:Expr) (zB:Yd) (s:Yl) (Y:St) (H:Hp) (x y:V) (v u:Yu) (Q:VK),Inv X zB Y H s->zc x v->zc y u->r x y H Q ->
  subscripted slice false v u=operate [v,u] (getItem v u)->wpAny (model X.prog X.w) X.A (subscriptTail value slice v u) (EP X zB Y Q) X.xe s
def MtR (X:Cx) (id:String) (r:V->List V->Hp->VK->Prop):Prop :=
 ∀ (zB:Yd) (s:Yl) (Y:St) (H:Hp) (x:V) (xs:List V) (v:Yu) (us:Yf) (Q:VK),Inv X zB Y H s->zc x v->zX xs us->r x xs H Q ->
  wpAny (model X.prog X.w) X.A (call (.builtin id) (v::us)) (EP X zB Y Q) X.xe s
section
variable {X:Cx} {a b:Expr} {ta tb:TE} {pos:Pos}
def IxR.or {r r':R2} (h:IxR X r) (h':IxR X r'):IxR X (λx y H Q=>r x y H Q\/r' x y H Q):=by
 intro value slice zB s Y H x y v u Q I rx ry q hs;rcases q with q|q
 .exact h value slice zB s Y H x y v u Q I rx ry q hs
 .exact h' value slice zB s Y H x y v u Q I rx ry q hs
def R3 {r:R2} (hr:IxR X r) (ha:PE X a ta) (hb:PE X b tb) (hs:Pg b):PE X (.Subscript a b pos) (tOp r ta tb):=by
 intro zB s Y H Q I h;exact Subscript_ (Jc ha hb I h λv u s2 x y H2 I2 rx ry q=>hr a b zB s2 Y H2 x y v u Q I2 rx ry q (hs _ _))
noncomputable def N6 (K:Yb):R2:=λx y H Q=>∃ p xs i v,x=.ref p/\y=.int i/\SqL K H p xs/\atI xs i=some v/\Q v H
noncomputable def Mk (K:Yb):R2:=λx y H Q=>∃ p xs i v,x=.ref p/\y=.int i/\SqT K H p xs/\atI xs i=some v/\Q v H
noncomputable def Oq:R2:=λx y H Q=>∃ z i c,x=.str z/\y=.int i/\z.length<=sizeLine/\atI z.cps.toList i=some c/\Q (.str ⟨#[c]⟩) H
def Uu:IxR X (N6 X.K):=by
 intro value slice zB s Y H x y v u Q I rx ry h hs;obtain ⟨p,xs,i,z,rfl,rfl,hq,he,q⟩:=h;cases rx;obtain ⟨t,rfl⟩:=ry;obtain ⟨its,r,pl,hz⟩:=I.list hq;obtain ⟨j,h1,h2,h3,h4,h5⟩:=Kd he;obtain ⟨w,ew,rw'⟩:=r.get h2;have hl:=r.length;have hn:=GQ;have fin:EP X zB Y Q w s:=⟨z,H,I,rw',q⟩;by_cases h0:0<=i
 .have hj:i.toNat=j:=by
   rw[seqIndex_of h0 h5]at h1;exact Bc h1
  exact item_listR pl.isList h0 (by omega) (by rw[hj];simpa using ew) fin hs
 .have hj:(i+(its.toArray.size:Int)).toNat=j:=by
   rw[seqIndex_neg (by omega) h4]at h1;rw[AZ,<-hl];exact Bc h1
  exact subscriptTail_builtinR (x:=w) pl.isList.typeIs slot_list_getitem.lookup
   (wpAny_getItem_list_neg (Q:=λr s'=>r=w/\EP X zB Y Q r s') pl.isList (by omega) (by rw[AZ] <;> omega) (by omega) (by rw[hj];simpa using ew) ⟨rfl,fin⟩) hs
def UL:IxR X (Mk X.K):=by
 intro value slice zB s Y H x y v u Q I rx ry h hs;obtain ⟨p,xs,i,z,rfl,rfl,hq,he,q⟩:=h;cases rx;obtain ⟨t,rfl⟩:=ry;obtain ⟨its,r,pl,hz⟩:=I.tuple hq;obtain ⟨j,h1,h2,h3,h4,h5⟩:=Kd he;obtain ⟨w,ew,rw'⟩:=r.get h2;have hl:=r.length;have hn:=GQ;have fin:EP X zB Y Q w s:=⟨z,H,I,rw',q⟩
 exact subscriptTail_builtinR (x:=w) pl.typeIs slot_tuple_getitem.lookup
  (getItem_tuple (j:=j) (Q:=λr s'=>r=w/\EP X zB Y Q r s') pl (by omega) (by omega) (by rw[AZ,<-hl];exact h1) (by simpa using ew) ⟨rfl,fin⟩) hs
def Sn:IxR X Oq:=by
 intro value slice zB s Y H x y v u Q I rx ry h hs;obtain ⟨z,i,c,rfl,rfl,hz,he,q⟩:=h;obtain ⟨t,rfl⟩:=rx;obtain ⟨t',rfl⟩:=ry;obtain ⟨j,h1,h2,h3,h4,h5⟩:=Kd he;have hl:z.cps.toList.length=z.length:=by simp[Str.length]
 rw[hl]at h1 h4 h5;have hn:=GQ;exact tail_any (typeIs_str s z t) slot_str_getitem.lookup (getItem_str (c:=c) (by
  have e1:decide (i < -(2 ^ 63:Int))=false:=AS (by omega);have e2:decide (i≥2 ^ 63)=false:=AS (by omega);rw[e1,e2,Bool.or_false]) (by rw[h1];simpa using h2) ⟨.str ⟨#[c]⟩,H,I.tok _,⟨_,rfl⟩,q⟩) hs
noncomputable def rIx (K:Yb):R2:=λx y H Q=>N6 K x y H Q\/Mk K x y H Q\/Oq x y H Q
def d7:IxR X (rIx X.K):=Uu.or (UL.or Sn)
def VR (its:List Value) (n j:Nat) (u:Value):Obj.mapSeq (·.setIfInBounds j u) { cls:=.type "list", data:=.seq its.toArray n }={ cls:=.type "list", data:=.seq (its.set j u).toArray n }:=by
 simp[Obj.mapSeq]
def Inv.lst {zB:Yd} {Y:St} {H:Hp} {s:Yl} {p:Yt} {xs:List V} (I:Inv X zB Y H s) (h:H p=some (.lst xs)) :
  ∃ (its:List Value) (n:Nat),zX xs its/\s.heap.get? p=some { cls:=.type "list", data:=.seq its.toArray n }/\xs.length<=sizeLine:=by
 obtain ⟨z,its,n,r,e⟩:=I.hok p _ h;exact ⟨its,n,r,e,z⟩
def Inv.lstUpd {zB:Yd} {Y:St} {H:Hp} {s:Yl} {p:Yt} {xs ys:List V} {its its':Yf} {n n':Nat} {f:Obj->Obj} (I:Inv X zB Y H s) (h:H p=some (.lst xs))
  (ho:s.heap.get? p=some { cls:=.type "list", data:=.seq its.toArray n }) (hf:f { cls:=.type "list", data:=.seq its.toArray n }={ cls:=.type "list", data:=.seq its'.toArray n' }) (r:zX ys its') (hz:ys.length<=sizeLine) (t:Nat) :
  Inv X zB Y (upd H p (.lst ys)) { s with heap:=s.heap.update p f,toks:=t }:=by
 have e:(s.heap.update p f).get? p=some { cls:=.type "list", data:=.seq its'.toArray n' }:=by
  rw[EF f ho (by rw[hf] <;> rfl),hf]
 refine I.write (x:=p) (e:=p) (by rw[h];trivial) (.inl rfl) (λb u hb q=>(EC _ _ (Ne.symm hb)).trans q) ⟨_,e⟩ ?_;exact ⟨hz,its',n',r,e⟩
def TQ:V->V->V->Hp->(Hp->Prop)->Prop:=λo i v H Q=>∃ p xs k j,o=.ref p/\i=.int k/\H p=some (.lst xs)/\ixN xs.length k=some j/\Q (upd H p (.lst (xs.set j v)))
def Zl:PD X TQ:=by
 intro zB s Y H o i v ov iv u Q I ro ri rv h;obtain ⟨p,xs,k,j,rfl,rfl,hp,hj,q⟩:=h;cases ro;obtain ⟨t,rfl⟩:=ri;obtain ⟨its,n,r,ho,hz⟩:=I.lst hp;obtain ⟨h1,h2,h3,h4⟩:=Ql hj;have hl:=r.length;have hn:=GQ;have I':Inv X zB Y (upd H p (.lst (xs.set j v))) { s with heap:=s.heap.update p (Obj.mapSeq (·.setIfInBounds j u)) } :=
  I.lstUpd hp ho (VR its n j u) (r.set rv j) (by rw[C8];exact hz) s.toks
 by_cases h0:0<=k
 .have hk:k.toNat=j:=by
   rw[seqIndex_of h0 h4]at h1;exact Bc h1
  exact PySem.W.ki_setAt ho h0 (by omega) (by rw[AZ,<-hl];exact h4) (by rw[hk];exact ⟨_,I',q⟩)
 .have hk:(k+(its.toArray.size:Int)).toNat=j:=by
   rw[seqIndex_neg (by omega) h3]at h1;rw[AZ,<-hl];exact Bc h1
  exact PySem.W.ki_setBack ho (by omega) (by rw[AZ,<-hl];exact h3) (by omega) (by rw[hk];exact ⟨_,I',q⟩)
def cY (lo hi:Ys) (n:Nat):(sliceBounds lo hi none n).1=((HT.sIx n 0 lo:Nat):Int)/\(sliceBounds lo hi none n).2.1=((HT.sIx n n hi:Nat):Int)/\(sliceBounds lo hi none n).2.2=1:=by
 refine ⟨?_,?_,rfl⟩
 .cases lo with
  |none=>simp[sliceBounds,HT.sIx]
  |some i=>
   simp only[sliceBounds,HT.sIx,Option.getD_none,show (1:Int)>0 by decide,if_true];by_cases h:i<0
   .simp only[h,if_true] <;> omega
   .simp only[h,if_false] <;> omega
 .cases hi with
  |none=>simp[sliceBounds,HT.sIx]
  |some i=>
   simp only[sliceBounds,HT.sIx,Option.getD_none,show (1:Int)>0 by decide,if_true];by_cases h:i<0
   .simp only[h,if_true] <;> omega
   .simp only[h,if_false] <;> omega
def Xs (its:Yf) (lo hi:Ys):slicePick its.toArray lo hi none=((its.drop (HT.sIx its.length 0 lo)).take (HT.sIx its.length its.length hi-HT.sIx its.length 0 lo)).toArray:=by
 obtain ⟨h1,h2,h3⟩:=cY lo hi its.toArray.size;unfold slicePick;rw[h1,h2,h3];simp only[sliceRange_one,pick_run,AZ] <;> rfl
def R8 (K:Yb):V->Option Int->Option Int->Hp->VK->Prop:=λx lo hi H Q=>∃ a xs,x=.ref a/\SqL K H a xs /\ ∀ p,H p=none->Q (.ref p) (upd H p (.lst (E2 xs lo hi)))
def dX:SlR X (R8 X.K):=by
 intro zB s Y H x v vl vu lo hi sl Q I rx hs pl pu h;obtain ⟨a,xs,rfl,hx,q⟩:=h;cases rx;obtain ⟨its,r,ht,hz⟩:=I.list hx;have hlen:=r.length;refine ⟨"list", _,slot_list_getitem.lookup,ht.isList.typeIs,?_⟩;refine wpAny_getItem_list_slice ht.isList hs pl pu .none (by simp) ?_ (by rw[AZ] <;> omega);rw[Xs,<-hlen];refine ⟨.ref s.heap.objs.size,_,I.laid (t':=s.toks) (o:=.lst (E2 xs lo hi)) (λb ob q=>AH _ q) (AF _) ?_,rfl,q _ (I.hok.fresh (AF _))⟩;exact ⟨Ak (OJ xs lo hi) hz,_,0,(r.drop (HT.sIx xs.length 0 lo)).take (HT.sIx xs.length xs.length hi-HT.sIx xs.length 0 lo),AN _ rfl⟩
noncomputable def EI:V->Bool
 |.non=>true
 |.bl _=>true
 |.int _=>true
 |.str _=>true
 |_=>false
noncomputable def eqV:V->V->Bool
 |.non,.non=>true
 |.bl a,.bl b=>a==b
 |.bl a,.int b=>(if a then 1 else 0)==b
 |.int a,.bl b=>a==(if b then 1 else 0)
 |.int a,.int b=>a==b
 |.str a,.str b=>a==b
 |_,_=>false
def W2 {A:Yn} {s:Yl} {y x:V} {u v:Yu} (ry:zc y u) (rx:zc x v) (fy:EI y=true) (fx:EI x=true):SeqAt.EqAt A s u v (eqV y x):=by
 cases y with
 |non=>
  cases ry;cases x with
  |non=>cases rx;exact SeqAt.EqAt.same _
  |bl b=>cases rx;exact SeqAt.EqAt.none_bool b
  |int b=>obtain ⟨t,rfl⟩:=rx;exact SeqAt.EqAt.none_int b t
  |str b=>obtain ⟨t,rfl⟩:=rx;exact SeqAt.EqAt.none_str b t
  |_=>exact absurd (show false=true from fx) AY
 |bl a=>
  cases ry;cases x with
  |non=>cases rx;exact SeqAt.EqAt.bool_none a
  |bl b=>cases rx;exact SeqAt.EqAt.bool_bool a b
  |int b=>obtain ⟨t,rfl⟩:=rx;exact SeqAt.EqAt.bool_int a b t
  |str b=>obtain ⟨t,rfl⟩:=rx;exact SeqAt.EqAt.bool_str a b t
  |_=>exact absurd (show false=true from fx) AY
 |int a=>
  obtain ⟨t',rfl⟩:=ry;cases x with
  |non=>cases rx;exact SeqAt.EqAt.int_none a t'
  |bl b=>cases rx;exact SeqAt.EqAt.int_bool a t' b
  |int b=>obtain ⟨t,rfl⟩:=rx;exact SeqAt.EqAt.int_int a t' b t
  |str b=>obtain ⟨t,rfl⟩:=rx;exact SeqAt.EqAt.int_str a t' b t
  |_=>exact absurd (show false=true from fx) AY
 |str a=>
  obtain ⟨t',rfl⟩:=ry;cases x with
  |non=>cases rx;exact SeqAt.EqAt.str_none a t'
  |bl b=>cases rx;exact SeqAt.EqAt.str_bool a t' b
  |int b=>obtain ⟨t,rfl⟩:=rx;exact SeqAt.EqAt.str_int a t' b t
  |str b=>obtain ⟨t,rfl⟩:=rx;exact SeqAt.EqAt.str_str a t' b t
  |_=>exact absurd (show false=true from fx) AY
 |_=>exact absurd (show false=true from fy) AY
noncomputable def eqU (x:V) (u:Yu):Bool:=match u with
 |.none=>eqV .non x
 |.bool b=>eqV (.bl b) x
 |.int i _=>eqV (.int i) x
 |.str z _=>eqV (.str z) x
 |_=>false
def Mw {x y:V} {u:Yu} (r:zc y u) (f:EI y=true):eqU x u=eqV y x:=by
 cases y with
 |non=>cases r;rfl
 |bl b=>cases r;rfl
 |int i=>obtain ⟨t,rfl⟩:=r;rfl
 |str z=>obtain ⟨t,rfl⟩:=r;rfl
 |_=>exact absurd (show false=true from f) AY
theorem He {x:V}:∀ {xs:List V} {us:Yf},zX xs us->xs.all EI=true->us.any (eqU x)=xs.any λy=>eqV y x
 |_,_,.nil,_=>rfl
 |y::xs,u::us,.cons r t,f=>by
  rw[List.all_cons,Ap]at f;rw[List.any_cons,List.any_cons,Mw r f.1,He t f.2]
theorem HR {A:Yn} {s:Yl} {x:V} {v:Yu} (rx:zc x v) (fx:EI x=true):∀ {xs:List V} {us:Yf},zX xs us->xs.all EI=true -> ∀ u∈us,SeqAt.EqAt A s u v (eqU x u)
 |_,_,.nil,_=>λu hu=>by cases hu
 |y::xs,u::us,.cons r t,f=>λu' hu=>by
  rw[List.all_cons,Ap]at f;rcases AL.mp hu with rfl|hu
  .rw[Mw r f.1];exact W2 r rx f.1 fx
  .exact HR rx fx t f.2 u' hu
noncomputable def inV (x:V) (xs:List V):Bool:=xs.any λy=>eqV y x
noncomputable def rIn (K:Yb) (neg:Bool):R2:=λx y H Q=>∃ p xs,y=.ref p/\(SqL K H p xs\/SqT K H p xs)/\EI x=true/\xs.all EI=true/\Q (.bl (if neg then !inV x xs else inV x xs)) H
def ZP:OpR X (compareOp .In) (rIn X.K false):=by
 intro zB s Y H x y v u Q I rx ry h;obtain ⟨p,xs,rfl,hq,fx,fs,q⟩:=h;cases ry;rcases hq with hq|hq
 .obtain ⟨its,r,pl,hz⟩:=I.list hq;refine SeqAt.in_listAt (eqU x) pl.isList (λw hw=>HR rx fx r fs w (by simpa using hw)) ⟨.bl _,H,I,rfl,?_⟩;rw[show its.toArray.any (eqU x)=its.any (eqU x) by simp,He r fs];exact q
 .obtain ⟨its,r,pl,hz⟩:=I.tuple hq;refine SeqAt.in_tupleAt (eqU x) pl (λw hw=>HR rx fx r fs w (by simpa using hw)) ⟨.bl _,H,I,rfl,?_⟩;rw[show its.toArray.any (eqU x)=its.any (eqU x) by simp,He r fs];exact q
def Ro:OpR X (compareOp .NotIn) (rIn X.K true):=by
 intro zB s Y H x y v u Q I rx ry h;obtain ⟨p,xs,rfl,hq,fx,fs,q⟩:=h;cases ry;rcases hq with hq|hq
 .obtain ⟨its,r,pl,hz⟩:=I.list hq;refine SeqAt.notIn_listAt (eqU x) pl.isList (λw hw=>HR rx fx r fs w (by simpa using hw)) ⟨.bl _,H,I,rfl,?_⟩;rw[show its.toArray.any (eqU x)=its.any (eqU x) by simp,He r fs];exact q
 .obtain ⟨its,r,pl,hz⟩:=I.tuple hq;refine SeqAt.notIn_tupleAt (eqU x) pl (λw hw=>HR rx fx r fs w (by simpa using hw)) ⟨.bl _,H,I,rfl,?_⟩;rw[show its.toArray.any (eqU x)=its.any (eqU x) by simp,He r fs];exact q
def UD:B9 X (.builtin "len") (λxs H Q=>∃ p ys,xs=[.ref p]/\(SqL X.K H p ys\/SqT X.K H p ys)/\Q (.int ys.length) H):=by
 intro zB s Y H xs us Q I r h;obtain ⟨p,ys,rfl,hq,q⟩:=h;obtain ⟨u,rfl,rx⟩:=D5 r;cases rx;have hn:=GQ;rcases hq with hq|hq
 .obtain ⟨its,r',pl,hz⟩:=I.list hq;have hlen:=r'.length;exact Calls.call_len_list pl.isList (by simp only[AZ] <;> omega) ⟨.int ys.length,H,I.tok _,⟨s.toks+1,by rw[AZ,hlen]⟩,q⟩
 .obtain ⟨its,r',pl,hz⟩:=I.tuple hq;have hlen:=r'.length;exact len_tuple pl (by simp only[AZ] <;> omega) ⟨.int ys.length,H,I.tok _,⟨s.toks+1,by rw[AZ,hlen]⟩,q⟩
def d8:B9 X (.type "list") (λxs H Q=>∃ p ys,xs=[.ref p]/\(SqL X.K H p ys\/SqT X.K H p ys) /\ ∀ l,H l=none->Q (.ref l) (upd H l (.lst ys))):=by
 intro zB s Y H xs us Q I r h;obtain ⟨p,ys,rfl,hq,q⟩:=h;obtain ⟨u,rfl,rx⟩:=D5 r;cases rx
 have fin:∀ (its:Yf),zX ys its->ys.length<=sizeLine -> ∀ (h':Heap) (c':Nat),(∀ b o',s.heap.get? b=some o'->h'.get? b=some o') ->
   h'.get? s.heap.objs.size=some { cls:=.type "list", dict:=none,data:=.seq its.toArray c',slots:=#[] }->EP X zB Y Q (.ref s.heap.objs.size) { s with heap:=h' }:=λits r' hz h' c' kp e=>
  ⟨.ref s.heap.objs.size,_,I.laid (t':=s.toks) kp (AF _) (show zr X.prog X.w _ h' _ (.lst ys)from ⟨hz,its,c',r',e⟩),rfl,q _ (I.hok.fresh (AF _))⟩
 rcases hq with hq|hq
 .obtain ⟨its,r',pl,hz⟩:=I.list hq;have hlen:=r'.length;obtain ⟨o,ho,hc,n,hd⟩:=pl.isList;exact call_list_seq p (.inl rfl) ho hc hd (λh' c' kp e=>fin its r' hz h' c' kp e) (by simp only[AZ] <;> omega)
 .obtain ⟨its,r',pl,hz⟩:=I.tuple hq;have hlen:=r'.length;obtain ⟨o,ho,hc,n,hd⟩:=pl;exact call_list_seq p (.inr rfl) ho hc hd (λh' c' kp e=>fin its r' hz h' c' kp e) (by simp only[AZ] <;> omega)
def V8:B9 X (.type "tuple") (λxs H Q=>∃ p ys,xs=[.ref p]/\((SqL X.K H p ys /\ ∀ l,H l=none->Q (.ref l) (upd H l (.tup ys)))\/(SqT X.K H p ys/\Q (.ref p) H))):=by
 intro zB s Y H xs us Q I r h;obtain ⟨p,ys,rfl,h⟩:=h;obtain ⟨u,rfl,rx⟩:=D5 r;cases rx;rcases h with ⟨hq,q⟩|⟨hq,q⟩
 .obtain ⟨its,r',pl,hz⟩:=I.list hq;have hlen:=r'.length;refine call_tuple_list pl.isList (λh' kp=>?_) (by simp only[AZ] <;> omega);have I1:Inv X zB Y H { s with heap:=h' }:=I.kept (t':=s.toks) kp;have I2:Inv X zB Y (upd H h'.objs.size (.tup ys)) { s with heap:=h'.push { cls:=.type "tuple", data:=.seq its.toArray } } :=
   I1.laid (t':=s.toks) (λb o e=>AH _ e) (AF _) (show zr X.prog X.w _ _ _ (.tup ys)from ⟨hz,its,r',C7.new _ _⟩)
  exact ⟨.ref h'.objs.size,_,I2,rfl,q _ (I1.hok.fresh (AF _))⟩
 .obtain ⟨its,r',pl,hz⟩:=I.tuple hq;exact call_tuple_same pl ⟨.ref p,H,I,rfl,q⟩
def tyV (K:Yb) (T:String) (x:V) (H:Hp):Prop:=match x with
 |.str _=>T = "str"
 |.int _=>T = "int"
 |.ref p=>(T = "list" /\ ∃ xs,SqL K H p xs)\/(T = "tuple" /\ ((∃ o,K.lookup p=some o/\o.cls=.type "tuple" /\ o.dict=none) \/ ∃ xs,H p=some (.tup xs))) \/
   (T = "dict" /\ ((∃ kvs,H p=some (.dK kvs)) \/ ∃ kvs,H p=some (.dT kvs)))\/(T = "set" /\ ∃ S n,H p=some (.set S n))
 |_=>False
def R7 {zB:Yd} {Y:St} {H:Hp} {s:Yl} {T:String} {x:V} {v:Yu} (I:Inv X zB Y H s) (r:zc x v) (ty:tyV X.K T x H) :
  s.TypeIs v T /\ ∀ a,v=.ref a -> ∃ ob,s.heap.get? a=some ob/\ob.dict=none:=by
 cases x with
 |str z=>
  obtain ⟨t,rfl⟩:=r;cases (show T = "str" from ty);exact ⟨typeIs_str s z t,λ_ e=>nomatch e⟩
 |int i=>
  obtain ⟨t,rfl⟩:=r;cases (show T = "int" from ty);exact ⟨typeIs_int s i t,λ_ e=>nomatch e⟩
 |ref p=>
  cases r;rcases ty with ⟨rfl,xs,hq⟩|⟨rfl,⟨o,hk,hc,hd⟩|⟨xs,hq⟩⟩|⟨rfl,hk⟩|⟨rfl,S,n,hk⟩
  .obtain ⟨its,_,pl,_⟩:=I.list hq;refine ⟨pl.isList.typeIs,λa e=>?_⟩;cases e;obtain ⟨o,n,e,c,hd,_⟩:=pl;exact ⟨o,e,hd⟩
  .refine ⟨⟨o,I.kIn p o hk,hc⟩,λa e=>?_⟩;cases e;exact ⟨o,I.kIn _ o hk,hd⟩
  .obtain ⟨_,its,_,o,e,c,_,hd⟩:=I.hok p _ hq;refine ⟨⟨o,e,c⟩,λa e2=>?_⟩;cases e2;exact ⟨o,e,hd⟩
  .have z:∃ o,s.heap.get? p=some o/\o.ExactDict:=by
    rcases hk with ⟨kvs,hk⟩|⟨kvs,hk⟩
    .obtain ⟨_,_,_,_,o,_,_,e,ex,_⟩:=I.hok p _ hk;exact ⟨o,e,ex⟩
    .obtain ⟨_,_,_,_,o,_,_,e,ex,_⟩:=I.hok p _ hk;exact ⟨o,e,ex⟩
   obtain ⟨o,e,ex⟩:=z;refine ⟨⟨o,e,ex.1⟩,λa e2=>?_⟩;cases e2;exact ⟨o,e,ex.2.1⟩
  .obtain ⟨o,_,_,_,e,ex,_⟩:=I.hok p _ hk;refine ⟨⟨o,e,ex.1⟩,λa e2=>?_⟩;cases e2;exact ⟨o,e,ex.2.1⟩
 |_=>exact False.elim ty
noncomputable def tBM (K:Yb) (T:String) (r:V->List V->Hp->VK->Prop) (to:TE) (t:TA):TE:=λY H Q=>to Y H λx H1=>tyV K T x H1/\t Y H1 λxs H2=>r x xs H2 Q
variable {o e:Expr} {es:Yi} {to:TE} {t:TA} {name:Str} {apos cpos:Pos} {T id:String} {r:V->List V->Hp->VK->Prop}
def OA (pa:PlainAttrs T) (slot:Slot T name id) (hty:typeOf (.builtin id)=pure (.type "method_descriptor")) (hm:MtR X id r) (ho:PE X o to) (ha:PA X (e::es) t)
  (hbase:attributeBase o name X.env (eval o X.env)=eval o X.env:=by rfl)
  (hfew:((backTo cpos (starEach (e::es) X.env)).all (λx=> !x.1)&&(backToKw cpos (keywordEach [] X.env)).all (λx=>x.1.isSome)
   && decide ((e::es).length+([]:List Keyword).length+(if ([]:List Keyword).isEmpty then 0 else 1)<30))=true:=by rfl)
  (hline:(apos.endLine==cpos.line)=true:=by rfl) (hs:starEach (e::es) X.env=(false,eval e X.env)::starEach es X.env:=by rfl) (hplain:(backTo cpos (starEach es X.env)).any (·.1)=false:=by rfl) :
  PE X (.Call (.Attribute o name apos) (e::es) [] cpos) (tBM X.K T r to t):=by
 intro zB s Y H Q I h;refine wpAny_Call_method_late hbase hfew hline rfl (thn (ho zB s Y H _ I h) λv s1 ⟨x,H1,I1,r1,ty,q1⟩=>?_);obtain ⟨h1,h2⟩:=R7 I1 r1 ty;refine ⟨T,id,pa,slot,hty,h1,h2,?_⟩;have hA:=ha cpos zB s1 Y H1 _ I1 q1;rw[hs]at hA ⊢;refine Calls.callWith_builtin (by show (false||(backTo cpos (starEach es X.env)).any (·.1))=false;rw[hplain] <;> rfl) (Calls.evalArgs_plain ?_);exact thn hA λus s2 ⟨vs,H2,I2,r2,q2⟩=>hm zB s2 Y H2 x vs v us Q I2 r1 r2 q2
end
def MtM (X:Cx) (id:String) (r:V->List V->Hp->VK->Prop):Prop :=
 ∀ (zB:Yd) (s:Yl) (Y:St) (H:Hp) (x:V) (xs:List V) (v:Yu) (us:Yf) (Q:VK),Inv X zB Y H s->zc x v->zX xs us->r x xs H Q ->
  wpAny (model X.prog X.w) X.A (call (.builtin id) (v::us)) (EP X zB Y Q) X.xe s
def zX.one:∀ {x:V} {us:Yf},zX [x] us -> ∃ u,us=[u]/\zc x u
 |_,_,.cons r .nil=>⟨_,rfl,r⟩
def zX.two:∀ {x y:V} {us:Yf},zX [x,y] us -> ∃ u v,us=[u,v]/\zc x u/\zc y v
 |_,_,_,.cons r (.cons q .nil)=>⟨_,_,rfl,r,q⟩
def zX.rep {xs:List V} {us:Yf} (h:zX xs us):∀ k:Nat,zX (List.replicate k xs).flatten (List.replicate k us).flatten
 |0=> .nil
 |k+1=>by
  rw[Ei,Ei,De,De];exact zX.append h (zX.rep h k)
theorem KG (its:Yf):∀ (k:Nat) (acc:Yf),
  List.foldl (λx1 x2=>x1++x2) acc.toArray (List.replicate k its.toArray)=(acc++(List.replicate k its).flatten).toArray
 |0,acc=>by simp
 |k+1,acc=>by
  have e:acc.toArray++its.toArray=(acc++its).toArray:=by simp
  have e2:(acc++its)++(List.replicate k its).flatten=acc++(List.replicate (k+1) its).flatten:=by
   rw[Ei,De,Bu]
  rw[<-e2,<-KG its k (acc++its),<-e,Ei,List.foldl_cons]
section
variable {X:Cx} {zB:Yd} {Y:St} {H:Hp} {s:Yl} {l b:Yt} {xs ys zs:List V}
def Inv.lset {its its':Yf} {n:Nat} {f:Array Value->Array Value} {t':Nat} (I:Inv X zB Y H s) (hH:H l=some (.lst xs))
  (e:s.heap.get? l=some { cls:=.type "list", data:=.seq its.toArray n }) (hf:f its.toArray=its'.toArray) (hv:zX ys its') (hz:ys.length<=sizeLine) :
  Inv X zB Y (upd H l (.lst ys)) { s with heap:=s.heap.update l (Obj.mapSeq f),toks:=t' }:=by
 have q:=PySem.IsL.update e f;rw[hf]at q;refine I.write (x:=l) (e:=l) (by rw[hH];exact trivial) (.inl rfl) (λb' u hb hu=>(EC s.heap (Obj.mapSeq f) (Ne.symm hb)).trans hu) ⟨_,q⟩ ?_;exact ⟨hz,its',_,hv,q⟩
def Inv.lnew {its:Yf} {t':Nat} (I:Inv X zB Y H s) (hv:zX ys its) (hz:ys.length<=sizeLine) :
  Inv X zB Y (upd H s.heap.objs.size (.lst ys)) { s with heap:=s.heap.push { cls:=.type "list", data:=.seq its.toArray },toks:=t' } :=
 I.laid (λ_ _ q=>AH _ q) (AF _) ⟨hz,its,0,hv,AN _ rfl⟩
def Inv.fresh (I:Inv X zB Y H s):H s.heap.objs.size=none:=I.hok.fresh (AF _)
def Inv.lstM (I:Inv X zB Y H s) (hH:H l=some (.lst xs)):xs.length<=sizeLine /\ ∃ (its:List Value) (n:Nat),zX xs its/\xs.length=its.length/\s.heap.get? l=some { cls:=.type "list", data:=.seq its.toArray n }:=by
 obtain ⟨z,its,n,r,e⟩:=I.hok l _ hH;exact ⟨z,its,n,r,r.length,e⟩
def Xx {n:Nat} (h:n<=sizeLine):Builtin.List.listTooLong n=false:=by
 unfold Builtin.List.listTooLong;exact AS (by omega)
end
section
variable {X:Cx}
def QX:V->List V->Hp->VK->Prop:=λx vs H Q=>∃ l xs y,x=.ref l/\vs=[y]/\H l=some (.lst xs)/\xs.length<sizeLine/\Q .non (upd H l (.lst (xs++[y])))
def b9:MtM X "list.append" QX:=by
 intro zB s Y H x vs v us Q I rx rv h;obtain ⟨l,xs,y,rfl,rfl,hH,hz,q⟩:=h;cases rx;obtain ⟨u,rfl,ru⟩:=rv.one;obtain ⟨z,its,n,r,hl,e⟩:=I.lstM hH;refine call_meets F.slot_list_append ⟨_,e,rfl⟩ F.entry_list_append (F.args_list_append_2 _ _) (PySem.list_append l its.toArray n u (by rw[AZ];omega)) ⟨e,?_⟩;refine ⟨.non,_,I.lset (its':=its++[u]) hH e (by simp) (r.append (.cons ru .nil)) ?_,rfl,q⟩;rw[Ae,List.length_singleton];omega
noncomputable def QB:R2:=λx y H Q=>∃ l b xs zs,x=.ref l/\y=.ref b/\H l=some (.lst xs)/\H b=some (.lst zs)/\xs.length+zs.length<=sizeLine /\ ∀ p,H p=none->Q (.ref p) (upd H p (.lst (xs++zs)))
def So:OpR X (binaryOp .Add) QB:=by
 intro zB s Y H x y v u Q I rx ry h;obtain ⟨l,b,xs,zs,rfl,rfl,hH,hB,hz,q⟩:=h;cases rx;cases ry;obtain ⟨z,its,n,r,hl,e⟩:=I.lstM hH;obtain ⟨z2,its2,n2,r2,hl2,e2⟩:=I.lstM hB;refine PySem.P.add_list e e2 ?_ (by rw[AZ,AZ];omega);have ea:its.toArray++its2.toArray=(its++its2).toArray:=by simp
 rw[ea];exact ⟨.ref _,_,I.lnew (t':=s.toks) (r.append r2) (by rw[Ae];omega),rfl,q _ I.fresh⟩
noncomputable def OP:R2:=λx y H Q=>∃ l k xs,x=.ref l/\y=.int k/\H l=some (.lst xs) /\ -(2 ^ 63)<=k/\k<2 ^ 63/\xs.length*k.toNat<=sizeLine /\
 ∀ p,H p=none->Q (.ref p) (upd H p (.lst (List.replicate k.toNat xs).flatten))
def KL {α:Type} (xs:List α) (k:Nat):(List.replicate k xs).flatten.length=k*xs.length:=by
 induction k with
 |zero=>simp
 |succ k ih=>rw[Ei,De,Ae,ih,Nat.succ_mul,Nat.add_comm]
def Xd:OpR X (binaryOp .Mult) OP:=by
 intro zB s Y H x y v u Q I rx ry h;obtain ⟨l,k,xs,rfl,rfl,hH,h1,h2,hz,q⟩:=h;cases rx;obtain ⟨t,rfl⟩:=ry;obtain ⟨z,its,n,r,hl,e⟩:=I.lstM hH;have hlen:its.toArray.size*k.toNat<=sizeLine:=by rw[AZ,<-hl];exact hz
 have hcap:¬ its.toArray.size*k.toNat>(2 ^ 63-1) / 8:=by
  have:(sizeLine:Nat)<=(2 ^ 63-1) / 8:=by decide
  omega
 have hfit:¬ (!Builtin.List.listFitsIndex k)=true:=by
  rw[fitsIndex_both h1 h2];exact AY
 have hlong:¬ Builtin.List.listTooLong (its.toArray.size*k.toNat)=true:=by
  rw[Xx hlen];exact AY
 have hnew:List.foldl (λx1 x2=>x1++x2) #[] (List.replicate (if its.toArray.isEmpty=true then 0 else k.toNat) its.toArray)=(List.replicate k.toNat its).flatten.toArray:=by
  have f0:∀ m:Nat,List.foldl (λx1 x2=>x1++x2) #[] (List.replicate m its.toArray)=(List.replicate m its).flatten.toArray:=λm=>by
   have:=KG its m [];rw[EX]at this;exact this
  rw[f0];cases its with
  |nil=>simp
  |cons a r'=>rw[AE (by simp)]
 refine wpAny_binaryOp_repeat_ref (T := "list") (U := "int") (by decide) ⟨_,e,rfl⟩ (λs'=>typeIs_int s' k t) noFill_list_mul F.fills_int_mul F.slot_int_rmul repeat_list F.slot_int_index.lookup
  (call_meets F.slot_int_rmul (typeIs_int s k t) F.entry_int_rmul (F.args_int_rmul_2 _ _) (int___rmul___int_list k t l its.toArray n)
   ⟨e,rfl,⟨_,e,rfl⟩,call_meets F.slot_list_mul ⟨_,e,rfl⟩ F.entry_list_mul (F.args_list_mul_2 _ _) (AutoListH.list___mul___list_int_3 l its.toArray n k t hfit hcap hlong) ⟨e,?_⟩⟩)
 rw[hnew];exact ⟨.ref _,_,I.lnew (t':=s.toks) (r.rep k.toNat) (by rw[KL,Nat.mul_comm];exact hz),rfl,q _ I.fresh⟩
end
end L2
namespace Att
open PySem PySem.W PySem.Calls PyProof.Rows
def aJ {P:Params} {h:Heap}:∀ (ns:Ye) (vs:Yf),WellAll P h vs (ns.map WData.int)->IntsAre vs ns:=by
 intro ns;induction ns with
 |nil=>
  intro vs w;rw[List.map_nil]at w;cases w;exact .nil
 |cons n ns ih=>
  intro vs w;rw[Ad]at w;cases w with
  |cons a b=>
   cases a;exact .cons _ _ (ih _ b)
def UZ {l:OpenLaw} {n:Nat} (hn:l.most=some n) {P:Params} {h:Heap} {args:List WData} {vals:Yf}
  (hpre:l.row.toRowW.claim.pre args=true) (hwl:WellAll P h vals args) :
  ∃ a vs ns,vals=[Value.ref a]/\args=[WData.list (ns.map WData.int)]/\h.get? a=some { cls:=.type "list", data:=.seq vs.toArray }/\IntsAre vs ns/\ns.length<=n:=by
 have hsh:WShape.hasAll [] args [.list .int]=true:=(pre_splitW hpre).1;have hc:l.pre.holds [] { args:=args }=true:=(pre_splitW hpre).2;obtain ⟨d,r,rfl,h1,h2⟩:=hasAllW_cons hsh;obtain rfl:=hasAllW_nil h2;obtain ⟨xs,rfl,h3⟩:=hasW_list h1;obtain ⟨ns,rfl⟩:=items_int h3;have hlen:ns.length<=n:=by
  unfold OpenLaw.pre at hc;have h4:(WTm.not (.lt (.lit (.int (n:Int))) (.len (.arg 0)))).holds [] { args:=[.list (ns.map .int)] }=true:=by
   have h4:=(holds_andW hc).1;rw[hn]at h4;exact h4
  have h5:=condW_of h4 (w_not (w_lt w_lit (w_len_list (w_arg rfl))));rw[AG]at h5;refine Nat.le_of_not_lt λq=>?_;have q':(n:Int)<((ns.length:Nat):Int):=by omega
  first
   | (rw[Af q']at h5;exact absurd h5 (by decide))
   | (simp at h5;omega)
 cases hwl with
 |cons w1 w2=>
  cases w2;cases w1 with
  |list ho hall=>exact ⟨_,_,ns,rfl,rfl,ho,aJ ns _ hall,hlen⟩
def ZG (l:OpenLaw) (args:List WData):l.row.toRowW.claim.post args (.bool true) args=true :=
 postW_of (r:=l.row.toRowW) (X:=(true==true))
  (show WShape.has [] (.bool true) .bool=true by first|rfl|decide|simp[WShape.has,WShape.arms,WShape.armsAll])
  (show (WTm.eq .res (.lit (.bool true))).value [] { args:=args,res:=some (.bool true),after:=args }=some (.bool (true==true))from w_eq_bool (w_res rfl) w_lit) rfl
def cI {l:OpenLaw} {n:Nat} {q:Ym} {loose:Yk} {XP:(Str->Option Value)->Heap->Prop} {YP:World->Heap->Prop} {d:DefRec}
  (hn:l.most=some n) (hdf:d.params.defaults=[])
  (call:∀ (w:Yo) (s₀ s₁:Yl) (mg mb:Yh) (fa:Yt) (o:Obj) (pm cd doc:Yu) (a:Yt) (vs:Yf) (ns:Ye),
   Ground q loose [] XP w s₀ mg mb s₁.heap->YP w s₁.heap ->
   s₁.heap.get? fa=some o->o.data=.func (docDef d.name d.params d.body d.scope pm cd doc)->s₁.heap.CodeRec cd d.name->mg d.name=some (.ref fa) ->
   s₁.heap.get? a=some { cls:=.type "list", data:=.seq vs.toArray }->IntsAre vs ns->ns.length<=n->s₁.gens = #[] ->
   codeAny (model l.prog w) callerA (.call (.ref fa) ⟨[.ref a],[]⟩) (λr s'=>r=.ok (.ret (.bool true))/\OldK s₁.heap s'.heap/\s'.os=s₁.os/\AllBare s'.gens) s₁) :
  WalkO q loose XP YP l.row.toRowW d [] (λf vs=>PySem.call f vs):=by
 intro w s₀ s₁ mg mb G YY fa o pm cd doc dV kV ho hd hcd hD hmg hg args vals as hpre hlay hrd hwl hlo;obtain rfl:dV=.none:=Dflts.none hD hdf;obtain rfl:kV=.none:=Dflts.noKw hD;obtain ⟨a,vs,ns,rfl,rfl,hobj,hints,hlen⟩:=UZ hn hpre hwl;refine enter_call (codeAny_mono (call w s₀ s₁ mg mb fa o pm cd doc a vs ns G YY ho (fd_plain hd) hcd hmg hobj hints hlen hg) λr s' hq=>?_);obtain ⟨rfl,h2,h3,h4⟩:=hq;exact ⟨.inl ⟨.bool true,.bool true,[],rfl,λ_=>rfl,.bool true,ZG l _,λ_=>⟨List.Pairwise.nil,λ_ hm=>(nomatch hm)⟩⟩,h2,h3,h4⟩
end Att
namespace L2
theorem MQ:∀ {vs:Yf} {ns:Ye},IntsAre vs ns->zX (ns.map V.int) vs
 |_,_,.nil=> .nil
 |_,_,.cons n t h=> .cons ⟨t,rfl⟩ (MQ h)
noncomputable def Fj (s:Stmt):Arguments:=match s with
 |.FunctionDef _ a _ _ _ _ _ _ _ _=>a
 |_=>{ posonlyargs:=[],args:=[],vararg:=none,kwonlyargs:=[],kw_defaults:=[],kwarg:=none,defaults:=[] }
noncomputable def Dw (s:Stmt):List Stmt:=match s with
 |.FunctionDef _ _ b _ _ _ _ _ _ _=>b
 |_=>[]
noncomputable def zN (s:Stmt):Scope:=match s with
 |.FunctionDef _ _ _ _ _ _ sc _ _ _=>sc
 |_=>{ kind:=.function,names:=[],isGenerator:=false,isCoroutine:=false }
noncomputable abbrev CX0:CXT:=λ_ _ _ _ _ _=>False
noncomputable abbrev E0:XK:=λ_ _ _=>False
def Nt {X:Cx}:Ji CX0 X E0:=λ_ _ _ _ _ _ _ h=>h.elim
structure Fun (K:Yb) (x qual:Str) (st:Stmt) (f:Yt) (fd:Yz):Prop where
 ex:∃ (oc:Yu) (od:Option Addr) (kV doc pm:Yu) (an:Option Addr) (cdv ct:Yu) (osl:Array (Option Value)),
  fd=PySem.W.fnOf x qual (Fj st) (Dw st) (zN st) .none kV doc pm an cdv ct/\K.lookup f=some ⟨oc,od,.func fd,osl⟩/\PySem.W.codeIn K cdv qual=true
 kp:PySem.W.keepIn K (.ref f)=true
section
variable {P:Ym} {w:Yo} {K:Yb} {mg:Yh} {base:Heap}
def Fun.ok {x qual:Str} {st:Stmt} {f:Yt} {fd:Yz} {N ps:Yk} {k:Nat} {sp:Sp} (F:Fun K x qual st f fd) (S:FnScope N ps (zN st)) (len:∀ vs H Q E,sp vs H Q E->vs.length=ps.length)
  (hbody:∀ (cdv:Yu) (A:Yn) (outer:List Env) (s:Yl) (H:Hp) (vs:List V) (Q:VK) (E:XK),Room k (A.deeper (envOfC qual (zN st) s.heap.objs.size f cdv))->sp vs H Q E ->
   ∃ t,PSs (FK CX0 P w K mg base N qual (zN st) f cdv A outer s H E).nox (Dw st) t/\t { nx:=λ_ H'=>Q .non H',rt:=Q } (D0 N vs) H):FnOk P w K mg base CX0 (k+1) f fd ps sp:=by
 obtain ⟨oc,od,kV,doc,pm,an,cdv,ct,osl,rfl,lk,hcd⟩:=F.ex;refine MT lk hcd S len λA outer s H vs Q E hr hsp=>?_;obtain ⟨t,h,q⟩:=hbody cdv A outer s H vs Q E hr hsp;exact ⟨t,h.nox,q⟩
def Fun.binds {x qual:Str} {st:Stmt} {f:Yt} {fd:Yz} {ps:Yk} (F:Fun K x qual st f fd)
  (h:∀ (kV doc pm:Yu) (an:Option Addr) (cdv ct:Yu) (us:Yf),us.length=ps.length->bindArgs (PySem.W.fnOf x qual (Fj st) (Dw st) (zN st) .none kV doc pm an cdv ct) ⟨us,[]⟩=pure (ps.zip us)):D3 K fd ps []:=by
 obtain ⟨oc,od,kV,doc,pm,an,cdv,ct,osl,rfl,lk,hcd⟩:=F.ex;exact .all (h kV doc pm an cdv ct)
def N9 {x qual:Str} {st:Stmt} {f:Yt} {oc:Yu} {od an:Option Addr} {osl:Array (Option Value)} {kV doc pm cdv ct:Yu} (l:K.lookup f=some ⟨oc,od,.func (PySem.W.fnOf x qual (Fj st) (Dw st) (zN st) .none kV doc pm an cdv ct),osl⟩)
  (c:PySem.W.codeIn K cdv qual=true) (k:PySem.W.keepIn K (.ref f)=true):Fun K x qual st f (PySem.W.fnOf x qual (Fj st) (Dw st) (zN st) .none kV doc pm an cdv ct):=⟨⟨oc,od,kV,doc,pm,an,cdv,ct,osl,rfl,l,c⟩,k⟩
end
def Hm {A:Yn} {k:Nat} (hr:Room k A):A.units+1<cLine:=Nat.lt_of_le_of_lt (Nat.add_le_add_left (by decide:1<=64) _) hr.units
section
variable {X:Cx}
def pv (i:Nat) {x:Str} {pos:Pos} (hN:X.N[i]?=some x:=by rfl) (hv:Vis X.env.scope x:=by first|exact Or.inl rfl|exact Or.inr (Or.inl rfl)|exact Or.inr (Or.inr rfl)) (hd:(x==("__debug__" : Str))=false:=by decide)
  (hcd:(x==("__classdict__" : Str))=false:=by decide):PE X (.Name x pos) (Lp i):=Nk hN hv hd hcd
end
def Ft {A B:Prop} (h:B):if false=true then A else B:=by
 rw[AE AY];exact h
def FX {A B:Prop} (h:A):if true=true then A else B:=by
 rw[AD rfl];exact h
section
variable {κ:Type} [DecidableEq κ]
noncomputable def Bt (kvs:List (κ × V)) (k:κ):Option V:=(kvs.find? λkv=>decide (kv.1=k)).map (·.2)
noncomputable def BH (kvs:List (κ × V)) (k:κ) (v:V):List (κ × V) :=
 if (kvs.any λkv=>decide (kv.1=k))=true then kvs.map (λkv=>if kv.1=k then (kv.1,v) else kv) else kvs++[(k,v)]
def IH {p:κ × V} {r:List (κ × V)} {k:κ} (e:p.1=k):Bt (p::r) k=some p.2:=by simp[Bt,Ef,e]
def Iy {p:κ × V} {r:List (κ × V)} {k:κ} (e:¬ p.1=k):Bt (p::r) k=Bt r k:=by simp[Bt,Ef,e]
theorem Pf (k:κ):∀ kvs:List (κ × V),(kvs.any λkv=>decide (kv.1=k))=(Bt kvs k).isSome
 |[]=>rfl
 |p::r=>by
  rw[List.any_cons];by_cases e:p.1=k
  .simp only[IH e,Af e,Bool.true_or,Option.isSome_some]
  .rw[Iy e,AS e,Bool.false_or];exact Pf k r
def HJ (kvs:List (κ × V)) (k:κ) (v:V):(BH kvs k v).length<=kvs.length+1:=by
 unfold BH;split
 .rw[AG];omega
 .rw[Ae,B5,DY];omega
def Cq.isSome_eq (r:Cq o u):o.isSome=u.isSome:=by
 cases o with
 |none=>cases u with
  |none=>rfl
  |some _=>exact (show False from r).elim
 |some _=>cases u with
  |none=>exact (show False from r).elim
  |some _=>rfl
def Cq.getD (r:Cq o u) (rd:zc d d'):zc (o.getD d) (u.getD d'):=by
 cases o with
 |none=>cases u with
  |none=>exact rd
  |some _=>exact (show False from r).elim
 |some _=>cases u with
  |none=>exact (show False from r).elim
  |some _=>exact r
def KV.val {kvs:List (κ × V)} {vs:List (κ × Value)} (r:KV kvs vs) (k:κ):Cq (Bt kvs k) (valueAt vs k):=by
 unfold KV at r;induction r with
 |nil=>exact True.intro
 | @cons p q ps qs h t ih=>
  obtain ⟨h1,h2⟩:=h;by_cases e:p.1=k
  .have e':q.1=k:=h1.symm.trans e;have b:valueAt (q::qs) k=some q.2:=by simp[valueAt,Ef,e']
   rw[IH e,b];exact h2
  .have e':¬ q.1=k:=λz=>e (h1.trans z);have b:valueAt (q::qs) k=valueAt qs k:=by simp[valueAt,Ef,e']
   rw[Iy e,b];exact ih
def KV.any (r:KV kvs vs) (k:κ):(kvs.any λkv=>decide (kv.1=k))=vs.any λkv=>decide (kv.1=k):=by
 unfold KV at r;induction r with
 |nil=>rfl
 |cons h t ih=>rw[List.any_cons,List.any_cons,ih,h.1]
def KV.repl (r:KV kvs vs) (k:κ) (ry:zc y u) :
  KV (kvs.map λkv=>if kv.1=k then (kv.1,y) else kv) (vs.map λkv=>if kv.1=k then (kv.1,u) else kv):=by
 unfold KV at r ⊢;induction r with
 |nil=>exact .nil
 | @cons p q ps qs h t ih=>
  rw[Ad,Ad];refine .cons ?_ ih;obtain ⟨h1,h2⟩:=h;by_cases e:p.1=k
  .rw[AD e,AD (h1.symm.trans e)];exact ⟨h1,ry⟩
  .rw[AE e,AE (λz=>e (h1.trans z))];exact ⟨h1,h2⟩
def KV.put (r:KV kvs vs) (k:κ) (ry:zc y u):KV (BH kvs k y) (stored vs k u):=by
 unfold BH stored;rw[r.any k];by_cases e:(vs.any λkv=>decide (kv.1=k))=true
 .rw[AD e,AD e];exact r.repl k ry
 .rw[AE e,AE e];exact Paired.snoc r ⟨rfl,ry⟩
def KV.length (r:KV kvs vs):kvs.length=vs.length:=Paired.length r
end
def Fd (r:zc (kV k) u):(zw P w).is k u=true:=by
 cases k with
 |inl i=>obtain ⟨t,e⟩:=(show ∃ t,u=Value.int i t from r);subst e;exact cG P w i t
 |inr x=>obtain ⟨t,e⟩:=(show ∃ t,u=Value.str x t from r);subst e;exact Vg P w x t
theorem Oy:∀ {ks:List Key} {us:Yf},zX (ks.map kV) us->ItemsAre (zw P w) ks us
 |[],_,r=>by rw[List.map_nil]at r;cases r;exact .nil
 |k::ks,_,r=>by
  rw[Ad]at r;cases r with
  |cons h t=>exact .cons (Fd h) (Oy t)
abbrev KT (H:Hp):List (List Key × V)->List (List Key × Addr × Value)->Prop:=Paired λp q=>p.1=q.1/\H q.2.1=some (.tup (p.1.map kV))/\zc p.2 q.2.2
def KT.val {H:Hp} {kvs:List (List Key × V)} {xs:List (List Key × Addr × Value)} (r:KT H kvs xs) (k:List Key):Cq (Bt kvs k) ((atKey xs k).map (·.2)):=by
 induction r with
 |nil=>exact True.intro
 | @cons p q ps qs h t ih=>
  obtain ⟨h1,_,h2⟩:=h;by_cases e:p.1=k
  .have e':q.1=k:=h1.symm.trans e;have b:atKey (q::qs) k=some q.2:=by simp[atKey,Ef,e']
   rw[IH e,b];exact h2
  .have e':¬ q.1=k:=λz=>e (h1.trans z);have b:atKey (q::qs) k=atKey qs k:=by simp[atKey,Ef,e']
   rw[Iy e,b];exact ih
def KT.repl (r:KT H kvs xs) (k:List Key) (ry:zc y u) :
  KT H (kvs.map λkv=>if kv.1=k then (kv.1,y) else kv) (xs.map (putAt k u)):=by
 induction r with
 |nil=>exact .nil
 | @cons p q ps qs h t ih=>
  rw[Ad,Ad];refine .cons ?_ ih;obtain ⟨h1,h2,h3⟩:=h;unfold putAt;by_cases e:p.1=k
  .rw[AD e,AD (h1.symm.trans e)];exact ⟨h1,h2,ry⟩
  .rw[AE e,AE (λz=>e (h1.trans z))];exact ⟨h1,h2,h3⟩
def KT.put (r:KT H kvs xs) (k:List Key) (hb:H b=some (.tup (k.map kV))) (ry:zc y u) :
  KT H (BH kvs k y) (storedH xs k b u):=by
 have e:(kvs.any λkv=>decide (kv.1=k))=(atKey xs k).isSome:=by
  rw[Pf,(r.val k).isSome_eq,Option.isSome_map]
 unfold BH storedH;rw[e];by_cases q:(atKey xs k).isSome=true
 .rw[AD q,AD q];exact r.repl k ry
 .rw[AE q,AE q];exact Paired.snoc r ⟨rfl,hb,ry⟩
def KT.keeps (r:KT H kvs xs) (ht:∀ b ys,H b=some (.tup ys)->H' b=some (.tup ys)):KT H' kvs xs :=
 Paired.mapP r λ_ _ z=>⟨z.1,ht _ _ z.2.1,z.2.2⟩
section
variable {P:Ym} {w:Yo} {H:Hp} {h:Heap} {a:Yt}
def N0 (ok:HOk P w H h) (e:Rd H a u):zr P w H h a u:=e.ok ok
def G6 (ok:HOk P w H h) (e:Rd H a (.dK kvs)):kvs.length<=sizeLine/\(a==sysModules)=false /\ ∃ vs,KV kvs vs/\h.DictOf (zw P w) a vs :=
 show zr P w H h a (.dK kvs)from N0 ok e
def Kv (ok:HOk P w H h) (e:H a=some (.dK kvs)):kvs.length<=sizeLine/\(a==sysModules)=false /\ ∃ vs,KV kvs vs/\h.DictOf (zw P w) a vs:=G6 ok (.inl e)
def Ge (ok:HOk P w H h) (e:H a=some (.tup (ks.map kV))):(tupleKind (zw P w)).is h ks a:=by
 obtain ⟨_,its,r,o,h1,h2,⟨n,h3⟩,_⟩:=(show zr P w H h a (.tup (ks.map kV))from ok a _ e);exact ⟨o,its.toArray,n,h1,h2,h3,by simpa using Oy r⟩
def GW (ok:HOk P w H h) (e:Rd H a (.dT kvs)):kvs.length<=sizeLine/\(a==sysModules)=false /\
  ∃ xs,KT H kvs xs/\h.DictOfH (tupleKind (zw P w)) a xs:=by
 obtain ⟨z,y,xs,r,o,es,ep,h1,h2,h3,h4,h5⟩:=(show zr P w H h a (.dT kvs)from N0 ok e);refine ⟨z,y,xs,r,o,es,ep,h1,h2,h3,h4,λx hx=>?_,h5⟩;have all:∀ {l:List (List Key × V)} {m:List (List Key × Addr × Value)},KT H l m -> ∀ x∈m,(tupleKind (zw P w)).is h x.1 x.2.1:=by
  intro l m q;induction q with
  |nil=>intro x hx;exact nomatch hx
  | @cons p q ps qs hq t ih=>
   intro x hx;rcases AL.mp hx with e|hx
   .subst e;exact Ge ok (by rw[<-hq.1];exact hq.2.1)
   .exact ih x hx
 exact all r x hx
def P7 (ok:HOk P w H h) (e:H a=some (.dT kvs)):kvs.length<=sizeLine/\(a==sysModules)=false /\
  ∃ xs,KT H kvs xs/\h.DictOfH (tupleKind (zw P w)) a xs:=GW ok (.inl e)
end
def B8 (H:Hp) (a:Yt) (y:V) (r:Option V):Prop :=
 (∃ kvs k,Rd H a (.dK kvs)/\y=kV k/\r=Bt kvs k) \/ ∃ kvs k b,Rd H a (.dT kvs)/\y=.ref b/\H b=some (.tup (k.map kV))/\r=Bt kvs k
def DE (H:Hp) (a:Yt) (y v:V) (H':Hp):Prop :=
 (∃ kvs k,H a=some (.dK kvs)/\y=kV k/\kvs.length<sizeLine/\H'=upd H a (.dK (BH kvs k v))) \/
 ∃ kvs k b,H a=some (.dT kvs)/\y=.ref b/\H b=some (.tup (k.map kV))/\kvs.length<sizeLine/\H'=upd H a (.dT (BH kvs k v))
theorem B8.k {H:Hp} {a:Yt} {kvs:List (Key × V)} {k:Key} (e:H a=some (.dK kvs)):B8 H a (kV k) (Bt kvs k):=.inl ⟨kvs,k,.inl e,rfl,rfl⟩
def B8.t {k:List Key} (e:H a=some (.dT kvs)) (eb:H b=some (.tup (k.map kV))):B8 H a (.ref b) (Bt kvs k):=.inr ⟨kvs,k,b,.inl e,rfl,eb,rfl⟩
theorem DE.k {H:Hp} {a:Yt} {kvs:List (Key × V)} {k:Key} {v:V} (e:H a=some (.dK kvs)) (hl:kvs.length<sizeLine):DE H a (kV k) v (upd H a (.dK (BH kvs k v))):=.inl ⟨kvs,k,e,rfl,hl,rfl⟩
def DE.t {kvs:List (List Key × V)} {k:List Key} (e:H a=some (.dT kvs)) (eb:H b=some (.tup (k.map kV))) (hl:kvs.length<sizeLine) :
  DE H a (.ref b) v (upd H a (.dT (BH kvs k v))):=.inr ⟨kvs,k,b,e,rfl,eb,hl,rfl⟩
section
variable {X:Cx} {zB:Yd} {Y:St} {H:Hp} {s:Yl} {a:Yt} {y v:V} {u r:Yu} {o:Option V} {A:Yn} {E:Yc}
def Inv.big (I:Inv X zB Y H s):sysModules<s.heap.objs.size:=by
 have h:mainGlobals<s.heap.objs.size:=(I.mod.glob.keeps I.bk).lt;exact Nat.lt_trans (by decide) h
def Xa (hu:A.units+1<cLine) (I:Inv X zB Y H s) (g:B8 H a y (some v)) (ry:zc y u) (h:∀ w' s',Inv X zB Y H s'->zc v w'->Q w' s') :
  wpAny (model X.prog X.w) A (getItem (.ref a) u) Q E s:=by
 rcases g with ⟨kvs,k,e,ey,l⟩|⟨kvs,k,b,e,ey,eb,l⟩
 .subst ey;obtain ⟨z,hd,vs,rel,dd⟩:=G6 I.hok e;obtain ⟨w',hw,rw'⟩:=Cq.some_of (by rw[l];exact rel.val k);exact wpAny_getItem_of (Fd ry) dd.mapOf hw (h w' _ (I.tok _) rw')
 .subst ey;cases (show u=Value.ref b from ry);obtain ⟨z,hd,xs,rel,dd⟩:=GW I.hok e;obtain ⟨w',hw,rw'⟩:=Cq.some_of (by rw[l];exact rel.val k);obtain ⟨p,hp,hp2⟩:=Option.map_eq_some_iff.mp hw;refine wpAny_getItem_heap (tupleKind_room_in1 hu) (Ge I.hok eb) dd hp ?_;rw[hp2];exact h w' _ (I.tok _) rw'
def ZK (hu:A.units+1<cLine) (I:Inv X zB Y H s) (g:B8 H a y o) (ry:zc y u) (h:∀ s',Inv X zB Y H s'->Q (.bool (!o.isSome)) s') :
  wpAny (model X.prog X.w) A (compareOp .NotIn u (.ref a)) Q E s:=by
 rcases g with ⟨kvs,k,e,ey,l⟩|⟨kvs,k,b,e,ey,eb,l⟩
 .subst ey;obtain ⟨z,hd,vs,rel,dd⟩:=G6 I.hok e;refine wpAny_notIn_of (Fd ry) hd dd.mapOf ?_;rw[<-(rel.val k).isSome_eq,<-l];exact h _ (I.tok _)
 .subst ey;cases (show u=Value.ref b from ry);obtain ⟨z,hd,xs,rel,dd⟩:=GW I.hok e;refine wpAny_notIn_heap (tupleKind_room_in1 hu) (Ge I.hok eb) hd dd ?_;have q:=(rel.val k).isSome_eq;rw[Option.isSome_map]at q;rw[<-q,<-l];exact h _ (I.tok _)
def Gi (I:Inv X zB Y H s) (mu:Mut (H a)) (hs:Heap.SameBut a s.heap h') (he:∃ q,h'.get? a=some q) (new:zr X.prog X.w (upd H a ob) h' a ob) :
  Inv X zB Y (upd H a ob) { s with heap:=h',toks:=t' } :=
 I.write mu (.inl rfl) (λb q hb z=>(hs.2 b hb).trans z) he new
def K5 (z:kvs.length<=sizeLine) (hd:(a==sysModules)=false) (rel:KV kvs vs) (dd:h'.DictOf (zw P w) a vs) :
  zr P w H' h' a (.dK kvs):=⟨z,hd,vs,rel,dd⟩
def WQ (hu:A.units+1<cLine) (I:Inv X zB Y H s) (g:DE H a y v H') (ry:zc y u) (rv:zc v r) (h:∀ s',Inv X zB Y H' s'->Q () s') :
  wpAny (model X.prog X.w) A (setItem (.ref a) u r) Q E s:=by
 rcases g with ⟨kvs,k,e,ey,l,eH⟩|⟨kvs,k,b,e,ey,eb,l,eH⟩
 .subst ey eH;obtain ⟨z,hd,vs,rel,dd⟩:=Kv I.hok e;have hz:vs.length<=sizeLine:=by rw[<-rel.length];exact z
  have hl:(BH kvs k v).length<=sizeLine:=by have:=HJ kvs k v;omega
  refine wpAny_setItem_pairs (Fd ry) dd λh' dd' hs=>h _ ?_;have he:∃ q,h'.get? a=some q:=let ⟨q,_,_,hq,_⟩:=dd';⟨q,hq⟩;exact Gi I (by rw[e];exact True.intro) hs he (K5 hl hd (rel.put k rv) dd')
 .subst ey eH;cases (show u=Value.ref b from ry);obtain ⟨z,hd,xs,rel,dd⟩:=P7 I.hok e;have hz:xs.length<=sizeLine:=by rw[<-Paired.length rel];exact z
  have hl:(BH kvs k v).length<=sizeLine:=by have:=HJ kvs k v;omega
  refine wpAny_setItem_heap (tupleKind_room_in1 hu) (Ge I.hok eb) dd λh' dd' hs=>h _ ?_;obtain ⟨q,es,ep,hq,h2,h3,h4,_,h5⟩:=dd';refine Gi I (by rw[e];exact True.intro) hs ⟨q,hq⟩ ⟨hl,hd,_,(rel.put k eb rv).keeps λc ys ec=>?_,q,es,ep,hq,h2,h3,h4,h5⟩;rw[zP (C6 ec e (λz=>nomatch z))];exact ec
end
def Jf (i:Expr):Prop:=∀ ov iv,subscripted i false ov iv=operate [ov,iv] (getItem ov iv)
def bQ {prog:Ym} {w:Yo} {A:Yn} {E:Yc} {s:Yl} {env:Env} {value slice:Expr} {pos:Pos} {T id:String} {Q:Yc}
  (hl:typeLookup (.type T) "__getitem__" = pure (some (.builtin id))) (hs:Jf slice)
  (h:wpAny (model prog w) A (eval value env) (λo s₁=>wpAny (model prog w) A (eval slice env) (λi s₂=>s₂.TypeIs o T/\wpAny (model prog w) A (getItem o i) Q E s₂) E s₁) E s) :
  wpAny (model prog w) A (eval (.Subscript value slice pos) env) Q E s:=by
 refine Subscript_ (Ar h (λo s₁ h₁=>Ar h₁ (λi s₂ h₂=>?_) λ_ _ x=>x) λ_ _ x=>x);obtain ⟨hT,h₂⟩:=h₂;unfold subscriptTail;refine AA ?_;rw[getitemInPython_of_ne hT.not_modules];refine AA (wpAny_specialOf hT hl ?_);have fin:wpAny (model prog w) A (subscripted slice false o i) (λr s₃=>wpAny (model prog w) A (letTemporaryGo value o r >>= λ_=>pure r) Q E s₃) E s₂:=by
  rw[hs o i];exact wpAny_operating (Ar h₂ (λr s₃ h₃=>AA (wpAny_letTemporaryGo (AB h₃))) λ_ _ x=>x)
 first
  |exact AB (AA fin)
  |exact AA (AB (AA fin))
  |exact AA fin
def Q6 (I:Inv X zB Y H s) (g:B8 H a y o):s.TypeIs (.ref a) "dict" := by
 rcases g with ⟨kvs,k,e,_,_⟩|⟨kvs,k,b,e,_,_,_⟩
 .obtain ⟨_,_,vs,_,dd⟩:=G6 I.hok e;exact dd.typeIs
 .obtain ⟨_,_,xs,_,dd⟩:=GW I.hok e;exact dd.typeIs
noncomputable def aS (td ty:TE):TE:=λY H Q=>td Y H λx H1=>ty Y H1 λy H2=>∃ a v,x=.ref a/\B8 H2 a y (some v)/\Q v H2
noncomputable def cM (ty td:TE):TE:=λY H Q=>ty Y H λy H1=>td Y H1 λx H2=>∃ a o,x=.ref a/\B8 H2 a y o/\Q (.bl (!o.isSome)) H2
noncomputable def WU (td ty tv:TE):TS:=λD Y H=>tv Y H λv H1=>td Y H1 λx H2=>ty Y H2 λy H3=>∃ a H4,x=.ref a/\DE H3 a y v H4/\D.nx Y H4
section
variable {X:Cx} {o i e value:Expr} {pos pos' tpos:Pos} {td ty tv:TE}
def Zz (hu:X.A.units+1<cLine) (ho:PE X o td) (hi:PE X i ty) (hs:Jf i):PE X (.Subscript o i pos) (aS td ty):=by
 intro zB s Y H Q I h;refine bQ PySem.F.slot_dict_getitem.lookup hs (thn (ho zB s Y H _ I h) λu s1 ⟨x,H1,I1,rx,q1⟩=>thn (hi zB s1 Y H1 _ I1 q1) λiv s2 ⟨y,H2,I2,ry,a,v,ex,g,q2⟩=>?_);subst ex;obtain rfl:u=Value.ref a:=rx;exact ⟨Q6 I2 g,Xa hu I2 g ry λw' s3 I3 rw'=>⟨v,H2,I3,rw',q2⟩⟩
def Xv (hu:X.A.units+1<cLine) (hi:PE X i ty) (ho:PE X o td):PC X .NotIn i o (cM ty td):=by
 intro zB s Y H Q I h;refine thn (hi zB s Y H _ I h) λiv s1 ⟨y,H1,I1,ry,q1⟩=>thn (ho zB s1 Y H1 _ I1 q1) λu s2 ⟨x,H2,I2,rx,a,ov,ex,g,q2⟩=>?_;subst ex;obtain rfl:u=Value.ref a:=rx;exact ZK hu I2 g ry λs3 I3=>⟨.bl (!ov.isSome),H2,I3,rfl,q2⟩
def Sk (hu:X.A.units+1<cLine) (ho:PE X o td) (hi:PE X i ty) (hv:PE X value tv) (hs:swapsWith value (some (.Subscript o i pos')) pos.line X.env=pure false) :
  PS X (.Assign [.Subscript o i pos'] value pos) (WU td ty tv):=by
 intro zB s Y H D I h;refine wpAny_Assign_Subscript (thn (hv zB s Y H _ I h) λr s1 ⟨v,H1,I1,rv,q1⟩=>thn (ho zB s1 Y H1 _ I1 q1) λu s2 ⟨x,H2,I2,rx,q2⟩=>thn (hi zB s2 Y H2 _ I2 q2) λiv s3 ⟨y,H3,I3,ry,a,H4,ex,g,q3⟩=>?_) hs;subst ex;obtain rfl:u=Value.ref a:=rx;exact WQ hu I3 g ry rv λs4 I4=>⟨Y,H4,I4,q3⟩
end
def Z6 (h:Heap) (hb:sysModules<h.objs.size):zr P w H (h.push { cls:=.type "dict", data:=.dict #[] }) h.objs.size (.dK []) :=
 ⟨Bz _,beq_eq_false_iff_ne.mpr (Ne.symm (AX hb)),[],.nil,Heap.DictOf.new h⟩
def Ox (h:Heap) (hb:sysModules<h.objs.size):zr P w H (h.push { cls:=.type "dict", data:=.dict #[] }) h.objs.size (.dT []) :=
 ⟨Bz _,beq_eq_false_iff_ne.mpr (Ne.symm (AX hb)),[],.nil,_,#[],0,AN _ rfl,⟨rfl,rfl,rfl⟩,rfl,rfl,List.nodup_nil⟩
noncomputable def Tu:TE:=λ_ H Q=>∀ p,H p=none->Q (.ref p) (upd H p (.dT []))
section
variable {X:Cx} {pos:Pos}
def ZO:PE X (.Dict [] [] pos) Tu:=λzB s Y H Q I h=>
 wpAny_Dict_empty ⟨.ref s.heap.objs.size,_,I.laid (λ_ _ q=>AH _ q) (AF _) (Ox s.heap I.big),rfl,h _ (I.hok.fresh (AF _))⟩
end
def Lx:List (TE × TE)->St->Hp->(List (V × V)->Hp->Prop)->Prop
 |[],_,H,Q=>Q [] H
 | (tk,tv)::r,Y,H,Q=>tk Y H λx H1=>tv Y H1 λy H2=>Lx r Y H2 λps H3=>Q ((x,y)::ps) H3
abbrev VV:List (V × V)->List (Value × Value)->Prop:=Paired λp q=>zc p.1 q.1/\zc p.2 q.2
def PPs (X:Cx) (pos:Pos) (keys:List (Option Expr)) (values:Yi) (trs:List (TE × TE)):Prop :=
 ∀ (zB:Yd) (s:Yl) (Y:St) (H:Hp) (Q:List (V × V)->Hp->Prop),Inv X zB Y H s->Lx trs Y H Q ->
  wpAny (model X.prog X.w) X.A (evalPairs (pairTrees keys values X.env pos)) (λvs s'=>∃ ps H',Inv X zB Y H' s'/\VV ps vs/\Q ps H') X.xe s
def L9:PPs X pos [] [] []:=λzB s Y H Q I h=>pairTrees_nil_walk ⟨[],H,I,.nil,h⟩
def JA (hk:PE X k tk) (hv:PE X v tv) (hr:PPs X pos ks vs trs) :
  PPs X pos (some k::ks) (v::vs) ((tk,tv)::trs):=λzB s Y H Q I h=>
 pairTrees_cons_walk (thn (hk zB s Y H _ I h) λu s1 ⟨x,H1,I1,rx,q1⟩=>thn (hv zB s1 Y H1 _ I1 q1) λw2 s2 ⟨y,H2,I2,ry,q2⟩=>
  thn (hr zB s2 Y H2 _ I2 q2) λws s3 ⟨ps,H3,I3,rel,q3⟩=>⟨(x,y)::ps,H3,I3,.cons ⟨rx,ry⟩ rel,q3⟩)
noncomputable def F9 (kvs more:List (Key × V)):List (Key × V):=more.foldl (λacc kv=>BH acc kv.1 kv.2) kvs
def KV.merge:∀ {more:List (Key × V)} {rs:List (Key × Value)} {kvs:List (Key × V)} {vs:List (Key × Value)},KV more rs->KV kvs vs->KV (F9 kvs more) (merged vs rs):=by
 intro more rs kvs vs r;unfold KV at r;induction r generalizing kvs vs with
 |nil=>intro q;exact q
 | @cons p q ps qs h t ih=>
  intro r0;have e:KV (BH kvs p.1 p.2) (stored vs q.1 q.2):=by
   have:=r0.put p.1 h.2;rw[<-h.1];exact this
  exact ih e
theorem OF:∀ (more kvs:List (Key × V)),(F9 kvs more).length<=kvs.length+more.length
 |[],kvs=>by show kvs.length<=kvs.length+0;omega
 |p::r,kvs=>by
  have h1:=OF r (BH kvs p.1 p.2);have h2:=HJ kvs p.1 p.2;show (F9 (BH kvs p.1 p.2) r).length<=_;rw[B5];omega
theorem P9:∀ {kvs:List (Key × V)} {ws:List (Value × Value)},VV (kvs.map λkv=>(kV kv.1,kv.2)) ws -> ∃ rs,Carries (zw P w) ws rs/\KV kvs rs
 |[],_,r=>by rw[List.map_nil]at r;cases r;exact ⟨[],True.intro,.nil⟩
 |p::kvs,_,r=>by
  rw[Ad]at r;cases r with
  | @cons a b as bs h t=>
   obtain ⟨rs,c,q⟩:=P9 t;obtain ⟨b1,b2⟩:=b;exact ⟨(p.1,b2)::rs,⟨Fd h.1,rfl,c⟩,.cons ⟨rfl,h.2⟩ q⟩
noncomputable def RQ (trs:List (TE × TE)):TE:=λY H Q=>∀ p,H p=none->Lx trs Y (upd H p (.dK [])) λps H2=>H2 p=some (.dK []) /\ ∃ kvs:List (Key × V),ps=kvs.map (λkv=>(kV kv.1,kv.2))/\kvs.length<=15/\Q (.ref p) (upd H2 p (.dK (F9 [] kvs)))
def aM (h:PPs X pos keys values trs) (hall:keys.all (·.isSome)=true) (hl:keys.length=values.length) (h0:keys≠[])
  (h15:keys.length<=15):PE X (.Dict keys values pos) (RQ trs):=by
 intro zB s Y H Q I q;have hn:=I.hok.fresh (AF s.heap.objs.size);have I1:=I.laid (t':=s.toks) (λ_ _ q=>AH _ q) (AF _) (Z6 s.heap I.big);refine wpAny_Dict_walk (knd:=zw X.prog X.w) hall hl h0 h15 (thn (h zB _ Y _ _ I1 (q _ hn)) λws s2 ⟨ps,H2,I2,rel,e,kvs,ep,lk,q2⟩=>?_);subst ep;obtain ⟨rs,c,rk⟩:=P9 rel;obtain ⟨z,hd,vs0,r0,dd⟩:=Kv I2.hok e;cases r0;refine ⟨rs,c,dd,λh' dd' hs=>⟨.ref s.heap.objs.size,_,?_,rfl,q2⟩⟩;have hz:(F9 [] kvs).length<=sizeLine:=by
  have h1:=OF kvs [];rw[DY]at h1;rw[sizeLine_eq];omega
 have he:∃ q,h'.get? s.heap.objs.size=some q:=let ⟨q,_,_,hq,_⟩:=dd';⟨q,hq⟩;exact Gi I2 (by rw[e];exact True.intro) hs he (K5 hz hd (rk.merge .nil) dd')
structure M2 (X:Cx) (o:Expr) (m:Str) (apos:Pos) (e f:Expr) (cpos:Pos):Prop where
 base:attributeBase o m X.env (eval o X.env)=eval o X.env
 few:((backTo cpos (starEach [e,f] X.env)).all (λx=> !x.1)&&(backToKw cpos (keywordEach [] X.env)).all (λx=>x.1.isSome)
  && decide (([e,f]:List Expr).length+([]:List Keyword).length+(if ([]:List Keyword).isEmpty then 0 else 1)<30))=true
 line:(apos.endLine==cpos.line)=true
 trees:backTo cpos (starEach [e,f] X.env)=[(false,eval e X.env),(false,eval f X.env)]
def IsD (H:Hp) (a:Yt):Prop:=(∃ kvs,Rd H a (.dK kvs)) \/ ∃ kvs,Rd H a (.dT kvs)
def LV (I:Inv X zB Y H s) (d:IsD H a) :
  s.TypeIs (.ref a) "dict" /\ (∀ b,Value.ref a=.ref b -> ∃ ob,s.heap.get? b=some ob/\ob.dict=none)/\(a==sysModules)=false:=by
 rcases d with ⟨kvs,e⟩|⟨kvs,e⟩
 .obtain ⟨_,hd,vs,_,dd⟩:=G6 I.hok e;refine ⟨dd.typeIs,λb q=>?_,hd⟩;cases q;obtain ⟨ob,_,_,h1,h2,_⟩:=dd;exact ⟨ob,h1,h2.2.1⟩
 .obtain ⟨_,hd,xs,_,dd⟩:=GW I.hok e;refine ⟨dd.typeIs,λb q=>?_,hd⟩;cases q;obtain ⟨ob,_,_,h1,h2,_⟩:=dd;exact ⟨ob,h1,h2.2.1⟩
section
variable {X:Cx} {zB:Yd} {Y:St} {H:Hp} {s:Yl} {a:Yt} {y d:V} {u r:Yu} {o:Option V} {A:Yn} {E:Yc}
def bW (hu:A.units+1<cLine) (I:Inv X zB Y H s) (g:B8 H a y o) (ry:zc y u) (rd:zc d r) (h:∀ w' s',Inv X zB Y H s'->zc (o.getD d) w'->Q w' s') :
  wpAny (model X.prog X.w) A (call (.builtin "dict.get") [.ref a,u,r]) Q E s:=by
 rcases g with ⟨kvs,k,e,ey,l⟩|⟨kvs,k,b,e,ey,eb,l⟩
 .subst ey;obtain ⟨z,hd,vs,rel,dd⟩:=G6 I.hok e;refine call_meetsIn PySem.F.slot_dict_get dd.typeIs PySem.F.entry_dict_get (PySem.F.args_dict_get_3 _ _ _) (meets_dict_get_default (zw X.prog X.w) a (Fd ry) hd r) ⟨_,dd.mapOf,h _ _ (I.tok _) ?_⟩;rw[l];exact (rel.val k).getD rd
 .subst ey;cases (show u=Value.ref b from ry);obtain ⟨z,hd,xs,rel,dd⟩:=GW I.hok e;refine call_meetsIn PySem.F.slot_dict_get dd.typeIs PySem.F.entry_dict_get (PySem.F.args_dict_get_3 _ _ _) (meetsH_dict_get_default (tupleKind (zw X.prog X.w)) a b hd r) ⟨tupleKind_room_in1 hu,k,xs,Ge I.hok eb,dd,h _ _ (I.tok _) ?_⟩;rw[l];exact (rel.val k).getD rd
end
noncomputable def Mn (td ty tx:TE):TE:=λY H Q=>td Y H λx H1=>∃ a,x=.ref a/\IsD H1 a/\ty Y H1 λy H2=>tx Y H2 λz H3=>∃ o,B8 H3 a y o/\Q (o.getD z) H3
section
variable {X:Cx} {o e f:Expr} {apos cpos:Pos} {td ty tx:TE}
def aP (hu:X.A.units+1<cLine) (ho:PE X o td) (he:PE X e ty) (hf:PE X f tx) (m:M2 X o "get" apos e f cpos):PE X (.Call (.Attribute o "get" apos) [e,f] [] cpos) (Mn td ty tx):=by
 intro zB s Y H Q I h;refine wpAny_Call_method m.base m.few m.line PySem.F.plainAttrs_dict PySem.F.slot_dict_get PySem.F.type_dict_get (thn (ho zB s Y H _ I h) λu s1 ⟨x,H1,I1,rx,a,ex,d,q1⟩=>?_);subst ex;obtain rfl:u=Value.ref a:=rx;obtain ⟨t1,t2,_⟩:=LV I1 d;refine ⟨t1,t2,?_⟩;rw[m.trees];refine Calls.callWith_builtin rfl (Calls.evalArgs_plain (Calls.spliced_cons (thn (he zB s1 Y H1 _ I1 q1) λiv s2 ⟨y,H2,I2,ry,q2⟩=>
  Calls.spliced_cons (thn (hf zB s2 Y H2 _ I2 q2) λfv s3 ⟨z,H3,I3,rz,ov,g,q3⟩=>Calls.spliced_nil ?_))))
 exact bW hu I3 g ry rz λw' s4 I4 rw'=>⟨_,H3,I4,rw',q3⟩
end
theorem Ff:∀ (names:List (Str × NameKind)) (n:Nat) (acc:Yv),cellsFrom n names acc=cellsFrom n names []++acc
 |[],_,_=>rfl
 | (name,kind)::r,n,acc=>by
  unfold cellsFrom;split
  .rw[Ff r (n+1) ((name,n)::acc),Ff r (n+1) [(name,n)],Bu];rfl
  .exact Ff r n acc
theorem HQ {α:Type} (x:Str):∀ (l r:List (Str × α)),(l++r).lookup x=(match l.lookup x with|some c=>some c|none=>r.lookup x)
 |[],r=>rfl
 | (k,v)::l,r=>by
  rw[List.cons_append,D6,D6];cases hb:x==k with
  |true=>rfl
  |false=>exact HQ x l r
theorem LJ:∀ (names:List (Str × NameKind)) (acc:Yv),
  (∀ y∈names,y.2=.free -> ∃ c,env.cells.lookup y.1=some c) ->
  (∀ x c,acc.lookup x=some c->env.cells.lookup x=some c) ->
  ∃ cl:List (Str × Addr),(forIn names acc (λ(p:Str × NameKind) (cs:Yv)=>(do
    if p.2 == .free then
     let a <- cellOf env p.1;pure (ForInStep.yield ((p.1,a)::cs))
    else pure (ForInStep.yield cs):Sem (ForInStep (List (Str × Addr))))))=pure cl /\
   (∀ x c,cl.lookup x=some c->env.cells.lookup x=some c) /\
   (∀ x,(acc.lookup x).isSome=true->(cl.lookup x).isSome=true) /\ ∀ y∈names,y.2=.free->(cl.lookup y.1).isSome=true
 |[],acc,_,ha=>⟨acc,by rw[List.forIn_nil],ha,λ_ h=>h,λ_ h=>nomatch h⟩
 | (n,k)::r,acc,hf,ha=>by
  rw[List.forIn_cons];by_cases hk:k=.free
  .subst hk;obtain ⟨c,hc⟩:=hf (n,.free) AW rfl;have hco:cellOf env n=pure c:=by unfold cellOf;rw[hc]
   obtain ⟨cl,e,h1,h2,h3⟩:=LJ r ((n,c)::acc) (λy hy=>hf y (Am _ hy)) (λx d hx=>by
    rw[D6]at hx;cases hb:x==n with
    |true=>rw[hb]at hx;cases hx;rw[beq_iff_eq.mp hb];exact hc
    |false=>rw[hb]at hx;exact ha x d hx)
   refine ⟨cl,?_,h1,λx hx=>h2 x ?_,λy hy hk=>?_⟩
   .rw[<-e];simp only[beq_self_eq_true,if_true,hco];rfl
   .rw[D6];cases hb:x==n with
    |true=>rfl
    |false=>exact hx
   .rcases AL.mp hy with z|z
    .subst z;exact h2 n (by rw[D6];simp)
    .exact h3 y z hk
  .obtain ⟨cl,e,h1,h2,h3⟩:=LJ r acc (λy hy=>hf y (Am _ hy)) ha;refine ⟨cl,?_,h1,h2,λy hy hk'=>?_⟩
   .rw[<-e];have:(k==NameKind.free)=false:=by simpa using hk
    simp only[this,Ck,if_false];rfl
   .rcases AL.mp hy with z|z
    .subst z;exact absurd hk' hk
    .exact h3 y z hk'
def NC (hf:∀ y∈scope.names,y.2=.free -> ∃ c,env.cells.lookup y.1=some c) :
  ∃ cl,closureFor scope env=pure cl/\(∀ x c,cl.lookup x=some c->env.cells.lookup x=some c) /\ ∀ y∈scope.names,y.2=.free->(cl.lookup y.1).isSome=true:=by
 obtain ⟨cl,e,h1,_,h3⟩:=LJ (env:=env) scope.names [] hf (λx c h=>nomatch h);refine ⟨cl,?_,h1,h3⟩;unfold closureFor;rw[show (pure cl:Sem _)=pure cl >>= pure from rfl,<-e]
def OQ
  (hQ:Q (newEnv scope s.heap.objs.size globals (cellsFrom (s.heap.objs.size+1) scope.names cl) qual none .none (some env) builtinsNs)
   { s with heap:=pushCells (s.heap.push { cls:=.type "dict", data:=.dict #[] }) scope.names }) :
  wpAny M A (newFunctionEnv scope globals cl [] qual none .none (some env)) Q E s:=by
 simp only[newFunctionEnv,Option.isSome_some,if_true];refine AA (wpAny_alloc ?_);refine AA (wpAny_layCells _ (λname kind cells=>by cases hkc:kind==NameKind.cell <;> simp[hkc]) _ _ _ _ ?_);rw[show ({ s with heap:=s.heap.push { cls:=.type "dict", data:=.dict #[] } }:Shared).heap.objs.size=s.heap.objs.size+1 from CK ..];exact AA (AB (AB hQ))
noncomputable def zo (X:Cx) (zB:Yd) (scope:Y0) (cl:Yv) (s:Yl) (H:Hp) (fp:Yg):Cx where
 prog:=X.prog
 w:=X.w
 K:=X.K
 mg:=X.mg
 base:=X.base
 A:=X.A
 N:=X.N
 s₀:=s
 H₀:=H
 env:={ scope:=relabel scope X.env,locals:=s.heap.objs.size+1,globals:=X.env.globals,cells:=cellsFrom (s.heap.objs.size+1+1) scope.names cl,qual:=X.env.qual,func:=none,code:=X.env.code,frame:=X.env.frame,builtins:=X.env.builtins }
 outer:=X.stack
 stack:=X.stack
 ex:=fp
 fn:=λx=>decide (scope.names.lookup x=some .cell)
 calm:=X.calm
 pn:=X.pn++zB
 xe:=λ_ _=>False
theorem Gk {scope:Y0} {env:Env} (x:Str):∀ {names:List (Str × NameKind)} {k:NameKind},
  (names.map λ(n,k)=>if (k==NameKind.free&&env.scope.kind == .function&&env.kindOf n==some .cell) then (n,NameKind.cell) else (n,k)).lookup x=some k ->
  names.lookup x=some k\/(names.lookup x=some .free/\k=.cell)
 |[],_,h=>by simp at h
 | (n,k')::r,k,h=>by
  rw[Ad]at h;by_cases hc:(k'==NameKind.free&&env.scope.kind == .function&&env.kindOf n==some .cell)=true
  .simp only[hc,if_true]at h;rw[D6]at h ⊢;cases hb:x==n with
   |true=>
    rw[hb]at h;simp only[Ap,beq_iff_eq]at hc;exact .inr ⟨by rw[hc.1.1],(Bc h).symm⟩
   |false=>rw[hb]at h;exact Gk (scope:=scope) x h
  .simp only[hc,Ck,if_false]at h;rw[D6]at h ⊢;cases hb:x==n with
   |true=>rw[hb]at h;exact .inl h
   |false=>rw[hb]at h;exact Gk (scope:=scope) x h
theorem Lw:∀ (names:List (Str × NameKind)) (n:Nat) (acc:Yv) (x:Str) (c:Yt),(x,c)∈cellsFrom n names acc->(x,c)∉acc->(x,NameKind.cell)∈names
 |[],_,_,_,_,h,h'=>absurd h h'
 | (name,kind)::r,n,acc,x,c,h,h'=>by
  unfold cellsFrom at h;split at h
  .rename_i hk;by_cases e:(x,c)=(name,n)
   .cases e;rw[beq_iff_eq]at hk;subst hk;exact AW
   .exact Am _ (Lw r _ _ x c h λz=>(AL.mp z).elim e h')
  .exact Am _ (Lw r _ _ x c h h')
structure CompScope (X:Cx) (scope:Y0):Prop where
 kind:scope.kind=.function
 names:∀ y∈scope.names,y.2=.local->scope.names.lookup y.1=some .local
 cells:∀ y∈scope.names,y.2=.cell->scope.names.lookup y.1=some .cell
 free:∀ y∈scope.names,y.2=.free->X.env.kindOf y.1=some .cell\/X.env.kindOf y.1=some .free
def NR (S:CompScope X scope) (I:Inv X zB Y H s) (hf:∀ b∈fp,B0 X zB H b) (ho:∀ b:Nat,b∈fp->b<s.heap.objs.size)
  (c1:∀ x c,cl.lookup x=some c->X.env.cells.lookup x=some c) (c2:∀ y∈scope.names,y.2=.free->(cl.lookup y.1).isSome=true)
  (hl:σc.length=Y.length) (hσ:∀ (i:Nat) x v,X.N[i]?=some x->σc[i]?=some (some v)->(relabel scope X.env).names.lookup x≠none->scope.names.lookup x=some .free/\Y[i]?=some (some v))
  (lo:Obj) (hlo:∀ v,lo.data≠.cell v) (hfr:lo.isFreed=false)
  (h4:s4={ s with heap:=pushCells ((s.heap.push lo).push { cls:=.type "dict", data:=.dict #[] }) scope.names }) :
  Inv (zo X zB scope cl s H fp) [(s.heap.objs.size,lo)] σc H s4:=by
 subst h4;have sz1:(s.heap.push lo).objs.size=s.heap.objs.size+1:=CK ..;have sz2:((s.heap.push lo).push { cls:=.type "dict", data:=.dict #[] }).objs.size=s.heap.objs.size+1+1:=by rw[CK,sz1]
 have hk:∀ b o,s.heap.get? b=some o->(pushCells ((s.heap.push lo).push { cls:=.type "dict", data:=.dict #[] }) scope.names).get? b=some o:=λb o e=>
  pushCells_keeps _ _ b o (AH _ (AH _ e))
 have ok:=cellsFrom_ok scope.names ((s.heap.push lo).push { cls:=.type "dict", data:=.dict #[] }) (s.heap.objs.size+1+1) [] ⟨λ_ _ hm=>(nomatch hm),List.Pairwise.nil⟩ (by rw[sz2];exact AF _);rw[sz2]at ok;have look:∀ x c,(cellsFrom (s.heap.objs.size+1+1) scope.names cl).lookup x=some c->((cellsFrom (s.heap.objs.size+1+1) scope.names []).lookup x=some c)\/((cellsFrom (s.heap.objs.size+1+1) scope.names []).lookup x=none/\X.env.cells.lookup x=some c):=λx c e=>by
  rw[Ff,HQ]at e;cases q:(cellsFrom (s.heap.objs.size+1+1) scope.names []).lookup x with
  |some d=>rw[q]at e;exact .inl e
  |none=>rw[q]at e;exact .inr ⟨rfl,c1 x c e⟩
 have old:∀ x (c:Nat),X.env.cells.lookup x=some c->c<s.heap.objs.size:=λx c e=>let ⟨_,q⟩:=I.cell x c e;q.lt;have new:∀ x (c:Nat),(cellsFrom (s.heap.objs.size+1+1) scope.names []).lookup x=some c->s.heap.objs.size+1+1<=c:=λx c e=>(ok.empty x c (Bx e)).2;have own:∀ x,scope.names.lookup x=some .cell -> ∃ c,(cellsFrom (s.heap.objs.size+1+1) scope.names []).lookup x=some c:=λx e=>J7 e;have cne:∀ x (c:Nat),(cellsFrom (s.heap.objs.size+1+1) scope.names cl).lookup x=some c->c<s.heap.objs.size\/s.heap.objs.size+1+1<=c:=λx c e=>by
  rcases look x c e with q|⟨_,q⟩
  .exact .inr (new x c q)
  .exact .inl (old x c q)
 refine ⟨⟨I.ok.mod,S.kind,I.ok.glob,I.ok.blt,DF _,λx y c h1 h2=>?_,λx hx=>?_,λx c hx h=>?_,I.ok.hd,I.ok.frames,.inl rfl,λb hb=>⟨?_,λx c e z=>?_⟩,I.bs,Ak I.ok.bsz I.sz,λb o e hb=>?_,λb hb z=>?_,I.stack,I.stkFree⟩,
  rfl,I.bare,Un.kept hk,⟨λ_=>none,?_,λi x v h1 h2 h3=>?_⟩,λx c e=>?_,I.hok.fresh (DF _),λx c e=>?_,λp hp=>?_,I.hok.kept hk,hl.trans I.len⟩
 .rcases look x c h1 with a|⟨_,a⟩ <;> rcases look y c h2 with b|⟨_,b⟩
  .exact name_of_addr ok.apart (Bx a) (Bx b)
  .exact absurd (Nat.lt_of_le_of_lt (new x c a) (old y c b)) (by omega)
  .exact absurd (Nat.lt_of_le_of_lt (new y c b) (old x c a)) (by omega)
  .exact I.ok.inj x y c a b
 .have hx':(relabel scope X.env).names.lookup x=some .cell\/(relabel scope X.env).names.lookup x=some .free:=hx;have go:scope.names.lookup x=some .cell\/scope.names.lookup x=some .free:=by
   rcases hx' with q|q
   .rcases Gk (scope:=scope) x q with z|z
    .exact .inl z
    .exact .inr z.1
   .rcases Gk (scope:=scope) x q with z|z
    .exact .inr z
    .exact .inr z.1
  show ∃ c,(cellsFrom (s.heap.objs.size+1+1) scope.names cl).lookup x=some c;rw[Ff,HQ];rcases go with q|q
  .obtain ⟨c,e⟩:=own x q;exact ⟨c,by rw[e]⟩
  .cases e:(cellsFrom (s.heap.objs.size+1+1) scope.names []).lookup x with
   |some d=>exact ⟨d,rfl⟩
   |none=>exact Option.isSome_iff_exists.mp (c2 (x,.free) (Bx q) rfl)
 .obtain ⟨d,e⟩:=own x (Bv hx);have h':(cellsFrom (s.heap.objs.size+1+1) scope.names cl).lookup x=some c:=h;rw[Ff,HQ,e]at h';cases h';exact Ak (Ak (DF _) (DF _)) (new x _ e)
 .exact AX (DG (ho b hb))
 .rcases look x c e with q|⟨_,q⟩
  .have a:=new x c q;rw[z]at a;exact absurd (Nat.lt_of_le_of_lt a (ho b hb)) (by omega)
  .exact (hf b hb).2.2.2.2.1 x c q z
 .rcases (hf b hb).2.2.2.1 with z|z
  .exact I.ok.noex b o e z
  .exact absurd (Az (AI e) (Ak I.ok.bsz z)) (Bh _)
 .rcases AL.mp (I.stkSub b z)with q|q
  .exact (hf b hb).2.1 q
  .exact (hf b hb).2.2.1 q
 .have q:((s.heap.push lo).push { cls:=.type "dict", data:=.dict #[] }).Ns (s.heap.push lo).objs.size (λ_=>none):=Heap.Ns.new ..;rw[sz1]at q;exact q.keeps (pushCells_keeps _ _)
 .have h3':(relabel scope X.env).names.lookup x≠none:=by
   rcases h3 with z|z|z <;> (intro q;have z':(relabel scope X.env).names.lookup x=_:=z;rw[q]at z';cases z')
  obtain ⟨fr,hv⟩:=hσ i x v h1 h2 h3';obtain ⟨m,hn,hlk⟩:=I.loc;have kx:=S.free (x,.free) (Bx fr) rfl;obtain ⟨u,rv,lk⟩:=hlk i x v h1 hv (by rcases kx with z|z;exact .inr (.inl z);exact .inr (.inr z));refine ⟨u,rv,?_⟩;rcases lk with ⟨z,_⟩|⟨_,c,e,ic⟩
  .rcases kx with k|k <;> (rw[k]at z;cases z)
  .have kind:(relabel scope X.env).names.lookup x=some .cell\/(relabel scope X.env).names.lookup x=some .free:=by
    cases q:(relabel scope X.env).names.lookup x with
    |none=>exact absurd q h3'
    |some k=>
     rcases Gk (scope:=scope) x q with z|z
     .rw[fr]at z;cases z;exact .inr rfl
     .rw[z.2];exact .inl rfl
   refine .inr ⟨kind,c,?_,ic.keeps hk⟩;show (cellsFrom (s.heap.objs.size+1+1) scope.names cl).lookup x=some c;rw[Ff,HQ];obtain ⟨d,hd⟩:=Option.isSome_iff_exists.mp (c2 (x,.free) (Bx fr) rfl);have:=c1 x d hd;rw[e]at this;cases this;have nn:(cellsFrom (s.heap.objs.size+1+1) scope.names []).lookup x=none:=by
    cases q:(cellsFrom (s.heap.objs.size+1+1) scope.names []).lookup x with
    |none=>rfl
    |some d'=>
     have z:=S.cells (x,.cell) (Lw scope.names _ [] x d' (Bx q) λz=>nomatch z) rfl;rw[fr]at z;cases z
   rw[nn];exact hd
 .rcases look x c e with q|⟨_,q⟩
  .exact ⟨none,(ok.empty x c (Bx q)).1⟩
  .obtain ⟨v,z⟩:=I.cell x c q;exact ⟨v,z.keeps hk⟩
 .rcases look x c e with q|⟨_,q⟩
  .exact I.hok.fresh (by have:=new x c q;omega)
  .exact I.freeC x c q
 .have hp':p∈X.pn++zB\/p=(s.heap.objs.size,lo):=by
   rcases AV.mp hp with z|z
   .exact .inl z
   .exact .inr (by simpa using z)
  rcases hp' with z|z
  .obtain ⟨e,n,ne,nf,d⟩:=I.pin p z;have lt:(p.1:Nat)<s.heap.objs.size:=AI e;refine ⟨hk _ _ e,n,?_,λq=>?_,d⟩
   .exact AX (DG lt)
   .rcases AL.mp (I.stkSub _ q)with r|r
    .exact ne r
    .exact nf r
  .subst z;refine ⟨pushCells_keeps _ _ _ _ (AH _ (AN _ hfr)),I.hok.fresh (AF _),?_,λq=>?_,hlo⟩
   .show s.heap.objs.size≠s.heap.objs.size+1;omega
   .rcases AL.mp (I.stkSub _ q)with r|r
    .exact absurd I.lt (by rw[<-r];exact Bh _)
    .exact I.nofs (AF _) r
noncomputable def clr (own:Yj) (Y:St):St:=own.foldl (λY i=>Y.set i none) Y
theorem Ll:∀ (own:Yj) (Y:St),(clr own Y).length=Y.length
 |[],_=>rfl
 |i::r,Y=>by
  show (clr r (Y.set i none)).length=_;rw[Ll r,C8]
theorem IT:∀ (own:Yj) (Y:St) (j:Nat) (v:V),(clr own Y)[j]?=some (some v)->Y[j]?=some (some v)/\j∉own
 |[],_,_,_,h=>⟨h,λz=>nomatch z⟩
 |i::r,Y,j,v,h=>by
  have h':(clr r (Y.set i none))[j]?=some (some v):=h;obtain ⟨a,b⟩:=IT r _ j v h';rw[Dz]at a;split at a
  .split at a <;> cases a
  .rename_i hne;exact ⟨a,λz=>(AL.mp z).elim (λe=>hne e.symm) b⟩
def Ext (a b:St):Prop:=b.length=a.length /\ ∀ (i:Nat) v,a[i]?=some (some v)->b[i]?=some (some v)
def Ext.refl (a:St):Ext a a:=⟨rfl,λ_ _ h=>h⟩
def Ext.set (e:Ext (clr own Y) a) (h:i∈own):Ext (clr own Y) (a.set i (some v)):=by
 refine ⟨by rw[C8];exact e.1,λj u q=>?_⟩;rw[Dz];split
 .rename_i z;exact absurd (z▸h) (IT own Y j u q).2
 .exact e.2 j u q
def G8 (X:Cx) (ifs:Yi) (t:TT):Prop :=
 ∀ (zB:Yd) (s:Yl) (Y:St) (H:Hp) (Q:Bool->Hp->Prop),Inv X zB Y H s->t Y H Q ->
  wpAny (model X.prog X.w) X.A (forIn ifs true λc r=>if r=true then do let ok <- isTrue c X.env (eval c X.env);pure (ForInStep.yield ok) else pure (ForInStep.yield r)) (TP X zB Y Q) X.xe s
noncomputable def aZ:TT:=λ_ H Q=>Q true H
def SA:G8 X [] aZ:=λ_ _ _ H _ I h=>wpAny_tests_nil ⟨H,I,h⟩
def Rz (h:PT X c t):G8 X [c] t:=λzB s Y H Q I hq=>wpAny_tests_one (h zB s Y H Q I hq)
def XC (I:Nat->Shared->Prop)
  (turn:∀ n s,I n s->wpAny (model prog w) A (pyNext it) (λr s₁=>match r with
   |none=>R (.ok .next) s₁
   |some v=>wpAny (model prog w) A (letOwnedTupleGo target it v) (λ_ s₁'=>wpAny (model prog w) A (assign target env v) (λ_ s₂=>
     wpAny (model prog w) A (forIn ifs true λc r=>if r=true then do let ok <- isTrue c env (eval c env);pure (ForInStep.yield ok) else pure (ForInStep.yield r)) (λok s₃=>
      if ok=true then wpAny (model prog w) A (eval elt env) (λx s₄=>
       wpAny (model prog w) A (call (.builtin "list.append") [acc,x]) (λ_ s₅=>∃ m,m<n/\I m s₅) (λ_ _=>False) s₄) (λ_ _=>False) s₃
      else ∃ m,m<n/\I m s₃) (λ_ _=>False) s₂) (λ_ _=>False) s₁') (λ_ _=>False) s₁) (λ_ _=>False) s)
  (n:Nat) (h:I n s) :
  codeAny (model prog w) A (.compLoop (.ListComp elt [⟨target,iter,ifs,0⟩] scope pos) 0 it acc env) R s:=by
 refine codeAny_loop rfl I (λn s hI=>?_) n h;show wpAny _ A ((compTurn (.ListComp elt [⟨target,iter,ifs,0⟩] scope pos) 0 it acc env).onRaise (λx=>do noteFrame x env;theTreesLotGoes x)) _ _ s;refine wpAny_noted ?_;rw[compTurn_list];refine AA (wpAny_standAt (AA (Ar (turn n s hI) (λr s₁ h₁=>?_) λ_ _ h'=>h'.elim)));cases r with
 |none=>exact AB h₁
 |some v=>
  refine AA (Ar h₁ (λ_ s₁' h₁'=>?_) λ_ _ h'=>h'.elim);refine AA (Ar h₁' (λ_ s₂ h₂=>AA (Ar h₂ (λok s₃ h₃=>?_) λ_ _ h'=>h'.elim)) λ_ _ h'=>h'.elim);cases ok with
  |false=>exact AB ⟨rfl,h₃⟩
  |true=>
   exact AA (AA (Ar h₃ (λx s₄ h₄=>AA (Ar h₄ (λ_ s₅ h₅=>AB (AB ⟨rfl,h₅⟩)) λ_ _ h'=>h'.elim)) λ_ _ h'=>h'.elim))
noncomputable def KU (own:Yj) (wi:TI) (g:TG) (tc:TT) (te:TE):TE:=λY H Q=>wi Y H λJ H1=>∃ W:Nat->Nat->List V->Hp->Prop,(∃ m,W 0 m [] H1) /\ ∀ i m ys H,W i m ys H ->
 (J.stop i H/\ys.length<=sizeLine /\ ∀ D,H D=none->Q (.ref D) (upd H D (.lst ys))) \/
 (J.go i H /\ ∀ x H',J.yld i H x H'->g x (clr own Y) H' λσ2 H2=>Ext (clr own Y) σ2/\tc σ2 H2 λb H3=>
  if b=true then te σ2 H3 λv H4=>ys.length<sizeLine /\ ∃ m',m'<m/\W (i+1) m' (ys++[v]) H4 else ∃ m',m'<m/\W (i+1) m' ys H3)
noncomputable abbrev CC (its:List Value) (n:Nat):Obj:={ cls:=.type "list", data:=.seq its.toArray n }
def Inv.repin (I:Inv X (pl++[(D,o)]) Y H s) (hpl:∀ p∈X.pn++pl,p.1≠D) (hs:Heap.SameBut D s.heap h') (hD:X.s₀.heap.objs.size<=D) (hc:∀ x c,X.env.cells.lookup x=some c->c≠D)
  (e:h'.get? D=some o') (hn:∀ v,o'.data≠.cell v):Inv X (pl++[(D,o')]) Y H { s with heap:=h' }:=by
 obtain ⟨e0,n0,ne0,nf0,d0⟩:=I.pin (D,o) (by simp);have I1:Inv X pl Y H s:=I.pins_of λp hp=>I.pin p (by simp[hp]);have I2:Inv X pl Y H { s with heap:=h' }:=I1.turned (t':=s.toks) (it:=D) (λb u hb q=>hs.extBut b u hb q) n0 ne0 (.inr hD) hc hpl;exact I2.pins_of λp hp=>by
  rcases AV.mp hp with z|z
  .exact I2.pin p (Bg _ z)
  .have:p=(D,o'):=by simpa using z
   subst this;exact ⟨e,n0,ne0,nf0,hn⟩
section
variable {pos:Pos}
 {own:Yj} {g:TG} {tc:TT} {te:TE} {E:Yc}
structure CompIn (X:Cx) (scope:Y0) (own:Yj):Prop where
 sc:CompScope X scope
 nm:∀ (i:Nat) x,X.N[i]?=some x->i∈own\/scope.names.lookup x=none\/scope.names.lookup x=some .free
def Oz (x:Str) (h:scope.names.lookup x=none):(relabel scope env).names.lookup x=none:=by
 cases q:(relabel scope env).names.lookup x with
 |none=>rfl
 |some k=>
  rcases Gk (scope:=scope) x q with z|z
  .rw[h]at z;cases z
  .rw[h]at z;cases z.1
def NY (C:CompIn X scope own) (hcalm:X.calm=true) (I:Inv X zB Y H s) (T:Turn X.prog X.w X.K tg J fp it tn) (st:tn 0 s.heap) (hf:∀ b∈fp,B0 X zB H b)
  (c1:∀ x c,cl.lookup x=some c->X.env.cells.lookup x=some c) (c2:∀ y∈scope.names,y.2=.free->(cl.lookup y.1).isSome=true)
  (hg:PG (zo X zB scope cl s H fp) tg g) (hi:G8 (zo X zB scope cl s H fp) ifs tc) (he:PE (zo X zB scope cl s H fp) elt te)
  {RR:Value->Addr->Result->Shared->Prop} {QQ:List V->Hp->Prop} {W:Nat->Nat->List V->Hp->Prop} {m0:Nat} (w0:W 0 m0 [] H)
  (turn:∀ i m ys H,W i m ys H->(J.stop i H/\ys.length<=sizeLine/\QQ ys H) \/
   (J.go i H /\ ∀ x H',J.yld i H x H'->g x (clr own Y) H' λσ2 H2=>Ext (clr own Y) σ2/\tc σ2 H2 λb H3=>
    if b=true then te σ2 H3 λv H4=>ys.length<sizeLine /\ ∃ m',m'<m/\W (i+1) m' (ys++[v]) H4 else ∃ m',m'<m/\W (i+1) m' ys H3))
  (fin:∀ σc H' s' its n ys,Inv (zo X zB scope cl s H fp) [(s.heap.objs.size,CC its n)] σc H' s'->zX ys its->ys.length<=sizeLine->QQ ys H'->RR (.ref s.heap.objs.size) (s.heap.objs.size+1) (.ok .next) s') :
  wpAny (model X.prog X.w) X.A (newList []) (λacc s₃=>wpAny (model X.prog X.w) X.A (newFunctionEnv scope X.env.globals cl [] X.env.qual none .none (some X.env)) (λcenv s₄=>
   codeAny (model X.prog X.w) X.A (.compStart (.ListComp elt [⟨tg,iter,ifs,0⟩] scope pos) 0 (.ref it) acc { cenv with scope:=relabel scope X.env }) (RR acc cenv.locals) s₄) E s₃) E s:=by
 have ob:∀ b:Nat,b∈fp->b<s.heap.objs.size:=λb hb=>let ⟨_,e,_⟩:=T.obj 0 _ st b hb;AI e;refine BI (OQ ?_);have sz1:(s.heap.push (CC [] 0)).objs.size=s.heap.objs.size+1:=CK ..;have I4:=NR (X:=X) (zB:=zB) (Y:=Y) (σc:=clr own Y) (H:=H) (s:=s) (scope:=scope) (cl:=cl) (fp:=fp) C.sc I hf ob c1 c2 (Ll own Y) (λi x v h1 h2 h3=>by
  obtain ⟨a,b⟩:=IT own Y i v h2;rcases C.nm i x h1 with z|z|z
  .exact absurd z b
  .exact absurd (Oz x z) h3
  .exact ⟨z,a⟩) (CC [] 0) (by intro v z;cases z) rfl rfl
 have st4:tn 0 (pushCells ((s.heap.push (CC [] 0)).push { cls:=.type "dict", data:=.dict #[] }) scope.names):=T.keep 0 _ _ st λb _ o e=>pushCells_keeps _ _ b o (AH _ (AH _ e));unfold newEnv;rw[sz1];have hDfp:s.heap.objs.size∉fp:=λz=>Bh _ (ob _ z);have hcD:∀ x c,(zo X zB scope cl s H fp).env.cells.lookup x=some c->c≠s.heap.objs.size:=λx c e z=>by
  obtain ⟨v,o,ho,hd⟩:=I4.cell x c e;obtain ⟨q,_⟩:=I4.pin (s.heap.objs.size,CC [] 0) (by simp);rw[z,q]at ho;cases ho;cases hd
 have fpk:∀ {H':Hp} {pl:Yd},(∀ b∈fp,H' b=none)->(∀ p∈pl,p.1=s.heap.objs.size) -> ∀ b∈fp,B0 (zo X zB scope cl s H fp) pl H' b:=λ{H' pl} hn hp b hb=>
  ⟨hn b hb,(I4.ok.exf b hb).1,I4.ok.exfs b hb,.inl hb,(I4.ok.exf b hb).2,λp hq=>by
   rcases AV.mp hq with z|z
   .exact (hf b hb).2.2.2.2.2 p z
   .intro e;have e2:=hp p z;rw[e]at e2;exact hDfp (e2▸hb)⟩
 have loop:codeAny (model X.prog X.w) X.A (.compLoop (.ListComp elt [⟨tg,iter,ifs,0⟩] scope pos) 0 (.ref it) (.ref s.heap.objs.size) (zo X zB scope cl s H fp).env) (RR (.ref s.heap.objs.size) (s.heap.objs.size+1))
   { s with heap:=pushCells ((s.heap.push (CC [] 0)).push { cls:=.type "dict", data:=.dict #[] }) scope.names }:=by
  refine XC (λn s'=>∃ i H' ys its k,Inv (zo X zB scope cl s H fp) [(s.heap.objs.size,CC its k)] (clr own Y) H' s'/\zX ys its/\tn i s'.heap/\(∀ b∈fp,H' b=none)/\W i n ys H') ?_ m0
   ⟨0,H,[],[],0,I4,.nil,st4,λb hb=>(hf b hb).1,w0⟩
  rintro n s5 ⟨i,H5,ys,its,k,I5,r5,st5,f5,w5⟩;have pinD:∀ p∈[(s.heap.objs.size,CC its k)],p.1=s.heap.objs.size:=λp hp=>by
   have:p=(s.heap.objs.size,CC its k):=by simpa using hp
   rw[this]
  rcases turn i n ys H5 w5 with ⟨stop,hz,qq⟩|⟨go,step⟩
  .refine thn (T.done (zo X zB scope cl s H fp) rfl rfl rfl hcalm i _ s5 _ H5 _ I5 (fpk f5 pinD) st5 stop) λr s6 ⟨hr,I6⟩=>?_;subst hr;exact fin _ H5 s6 its k ys I6 r5 hz qq
  .refine thn (T.item (zo X zB scope cl s H fp) rfl rfl rfl hcalm i _ s5 _ H5 _ I5 (fpk f5 pinD) st5 go) λr s6 ⟨u,hr,h6⟩=>?_;subst hr;refine thn h6 λ_ s7 ⟨x,H7,I7,r7,y7,st7,f7⟩=>?_;have I7':=I7.pinned (fpk f7 pinD) (T.obj _ _ st7);refine thn (hg _ s7 _ H7 x u _ I7' r7 (step x H7 y7)) λ_ s8 ⟨σ8,H8,I8,x8,q8⟩=>?_;refine thn (hi _ s8 σ8 H8 _ I8 q8) λok s9 ⟨H9,I9,q9⟩=>?_;have back:∀ {s':Yl} {Hx:Hp},Inv (zo X zB scope cl s H fp) ([(s.heap.objs.size,CC its k)]++Gq fp s7.heap) σ8 Hx s'->tn (i+1) s'.heap /\ ∀ b∈fp,Hx b=none:=λ{s' Hx} Ix=>
    ⟨T.keep _ _ _ st7 λb hb o e=>(Ix.pin (b,o) (Bg _ (Bg _ (Gw hb e)))).1,λb hb=>by
     obtain ⟨o,e,d⟩:=T.obj _ _ st7 b hb;exact (Ix.pin (b,o) (Bg _ (Bg _ (Gw hb e)))).2.1⟩
   cases ok with
   |false=>
    obtain ⟨m',hm,w'⟩:=q9;obtain ⟨b1,b2⟩:=back I9;exact ⟨m',hm,i+1,H9,ys,its,k,(I9.weak (by rw[x8.1]) x8.2).unpinned,r5,b1,b2,w'⟩
   |true=>
    refine thn (he _ s9 σ8 H9 _ I9 q9) λv s10 ⟨y,H10,I10,r10,hlt,m',hm,w'⟩=>?_;obtain ⟨b1,b2⟩:=back I10;have J10:=(I10.weak (by rw[x8.1]) x8.2).unpinned;obtain ⟨e10,n10,ne10,nf10,d10⟩:=J10.pin (s.heap.objs.size,CC its k) (by simp);have hlen:its.toArray.size<=sizeLine:=by
     have:=r5.length;rw[AZ,<-this];exact CP hlt
    refine wpAny_list_append_plain (hsz:=hlen) (show s10.heap.PlainList s.heap.objs.size its.toArray from ⟨k,e10⟩) λh' hl' hs'=>?_;obtain ⟨k',e'⟩:=hl';have e'':h'.get? s.heap.objs.size=some (CC (its++[v]) k'):=by rw[e'];simp[CC]
    refine ⟨m',hm,i+1,H10,ys++[y],its++[v],k',?_,r5.append (.cons r10 .nil),T.keep _ _ _ b1 λb hb o e=>hs'.extBut b o (λz=>hDfp (z▸hb)) e,b2,w'⟩;refine Inv.repin (pl:=[]) J10 (λp hp=>?_) hs' (AF _) hcD e'' (by intro v z;cases z);rw[CG]at hp;have hp':p∈X.pn++zB:=hp;exact AX (AI (I.pin p hp').1)
 exact codeAny_compStart_list loop (T.self _ 0 _ _ _ st4 loop)
end
def Ow (I:Inv X zB Y H s) (hf:∀ b∈fp,B0 X zB H b)
  (Ic:Inv (zo X zB scope cl s H fp) [(s.heap.objs.size,CC its n)] σc H' s') (rv:zX ys its) (hz:ys.length<=sizeLine) (hs:Heap.SameBut (s.heap.objs.size+1) s'.heap h') :
  Inv X zB Y (upd H' s.heap.objs.size (.lst ys)) { s' with heap:=h' }/\H' s.heap.objs.size=none:=by
 obtain ⟨eD,nD,_⟩:=Ic.pin (s.heap.objs.size,CC its n) (by simp);have nC:H' (s.heap.objs.size+1)=none:=Ic.free;have eD':h'.get? s.heap.objs.size=some (CC its n):=hs.extBut _ _ (AX (Dx _)) eD;have lt1:∀ {b:Yt} {o:Obj},s.heap.get? b=some o->b≠s.heap.objs.size+1/\b≠s.heap.objs.size:=λe=>⟨AX (DG (AI e)),AX (AI e)⟩;have tr:∀ b u,H' b=some u->b≠s.heap.objs.size+1/\b≠s.heap.objs.size:=λb u e=>⟨λz=>(by rw[z,nC]at e;cases e),λz=>(by rw[z,nD]at e;cases e)⟩;refine ⟨?_,nD⟩;have B:=Ic.base;have un:Un (frs X.stack) fp H (upd H' s.heap.objs.size (.lst ys)) s.heap h':=by
  refine ⟨λb o e q hb hx=>hs.extBut b o (lt1 e).1 (B.keep b o e q hb hx),λb o e q hb hx=>?_,λb o e q hx=>?_,λb o e hx=>?_,λb xs e=>?_,λb o xs e=>?_,λb ps e=>?_⟩
  .obtain ⟨sl,e1⟩:=B.slot b o e q hb hx;exact ⟨sl,hs.extBut b _ (lt1 e).1 e1⟩
  .rw[zP (lt1 e).2];exact B.free b o e q hx
  .obtain ⟨o',e1⟩:=B.there b o e hx;exact ⟨o',hs.extBut b _ (lt1 e).1 e1⟩
  .have q:=B.tups b xs e;rw[zP (tr b _ q).2];exact q
  .have q:=B.frzs b o xs e;rw[zP (tr b _ q).2];exact q
  .obtain ⟨more,q⟩:=B.tbls b ps e;exact ⟨more,by rw[zP (tr b _ q).2];exact q⟩
 have hok:HOk X.prog X.w (upd H' s.heap.objs.size (.lst ys)) h':=λb u e=>by
  by_cases hb:b=s.heap.objs.size
  .subst hb;rw[zq]at e;cases e;exact ⟨hz,its,n,rv,eD'⟩
  .rw[zP hb]at e;refine (Ic.hok b u e).stay (λc v hc q=>hs.extBut c v ?_ q) (λc q=>by rw[zP (tr c _ q).2];exact q) λc xs q=>by rw[zP (tr c _ q).2];exact q
   rcases hc with z|z
   .rw[z];exact (tr b u e).1
   .exact (tr c _ z).1
 exact I.call' (s':={ s' with heap:=h' }) (ch:=fp) Ic.os un hok Ic.bare λb hb=>⟨(hf b hb).2.2.2.1,(hf b hb).2.1,(hf b hb).2.2.2.2.1,(hf b hb).2.2.2.2.2⟩
structure CompParts (X:Cx) (scope:Y0) (tg:Expr) (ifs:Yi) (elt:Expr) (g:TG) (tc:TT) (te:TE):Prop where
 g:∀ zB cl s H fp,PG (zo X zB scope cl s H fp) tg g
 c:∀ zB cl s H fp,G8 (zo X zB scope cl s H fp) ifs tc
 e:∀ zB cl s H fp,PE (zo X zB scope cl s H fp) elt te
def CompScope.closure (S:CompScope X scope) (I:Inv X zB Y H s) :
  ∃ cl,closureFor scope X.env=pure cl/\(∀ x c,cl.lookup x=some c->X.env.cells.lookup x=some c) /\ ∀ y∈scope.names,y.2=.free->(cl.lookup y.1).isSome=true :=
 NC λy hy hk=>I.ok.has y.1 (S.free y hy hk)
def U6 (C:CompIn X scope own) (hcalm:X.calm=true) (hi:PI X tg iter wi) (p:CompParts X scope tg ifs elt g tc te) (hs:∀ x,foldedSetIterable iter X.env x=pure x:=by intro _;rfl) :
  PE X (.ListComp elt [⟨tg,iter,ifs,0⟩] scope pos) (KU own wi g tc te):=by
 intro zB s Y H Q I h;obtain ⟨cl,hcl,c1,c2⟩:=C.sc.closure I;rw[eval_ListComp];refine wpAny_comprehension_free (use:=none) rfl hs hcl C.sc.kind C.sc.names (thn (hi zB s Y H _ I h) λv s1 h1=>thn h1 λitv s2 h2=>?_);obtain ⟨it,fp,tn,J,H2,e,I2,T,st2,f2,W,⟨m0,w0⟩,turn⟩:=h2;subst e;refine NY C hcalm I2 T st2 f2 c1 c2 (p.g _ _ _ _ _) (p.c _ _ _ _ _) (p.e _ _ _ _ _) (RR:=λacc C r s'=>compPost (model X.prog X.w) X.A X.xe none (EP X zB Y Q) acc C r s') (QQ:=λys H=>∀ D,H D=none->Q (.ref D) (upd H D (.lst ys))) w0 turn ?_;intro σc H' s' its n ys Ic rv hz qq;obtain ⟨m,hn,_⟩:=Ic.loc;refine ⟨m,hn,λh' hs'=>?_⟩;obtain ⟨J',nD⟩:=Ow I2 f2 Ic rv hz hs';exact ⟨.ref s2.heap.objs.size,_,J',rfl,qq _ nD⟩
def Q8 (hN:X.N.Nodup) (hi':X.N[i]?=some x) (hx:Loc X.env.scope x) (hfn:X.fn x=true\/X.env.scope.names.lookup x=some .local)
  (C:CompIn X scope own) (hcalm:X.calm=true) (hi:PI X tg iter wi) (p:CompParts X scope tg ifs elt g tc te)
  (hsw:swapsWith (.ListComp elt [⟨tg,iter,ifs,0⟩] scope pos) (some (.Name x pos')) pos''.line X.env=pure true) (hs:∀ x,foldedSetIterable iter X.env x=pure x:=by intro _;rfl) :
  PS X (.Assign [.Name x pos'] (.ListComp elt [⟨tg,iter,ifs,0⟩] scope pos) pos'') (IK (KU own wi g tc te) (Cz i)):=by
 intro zB s Y H D I h;obtain ⟨cl,hcl,c1,c2⟩:=C.sc.closure I;rw[exec_Assign_Name_used _ _ _ _ hsw];refine AA (wpAny_standAt (AA ?_))
 refine AA (Ar (wpAny_comprehension_free (use:=some (assign (.Name x pos') X.env)) (Q:=λ_ s'=>SP X zB D .next s') rfl hs hcl C.sc.kind C.sc.names
  (thn (hi zB s Y H _ I h) λv s1 h1=>thn h1 λitv s2 h2=>?_)) (λ_ s' hq=>AB (AB hq)) λ_ _ e=>e)
 obtain ⟨it,fp,tn,J,H2,e,I2,T,st2,f2,W,⟨m0,w0⟩,turn⟩:=h2;subst e
 refine NY C hcalm I2 T st2 f2 c1 c2 (p.g _ _ _ _ _) (p.c _ _ _ _ _) (p.e _ _ _ _ _) (RR:=λacc C r s'=>compPost (model X.prog X.w) X.A X.xe (some (assign (.Name x pos') X.env)) (λ_ s'=>SP X zB D .next s') acc C r s')
  (QQ:=λys H=>∀ E,H E=none->Cz i (.ref E) Y (upd H E (.lst ys)) D.nx) w0 turn ?_
 intro σc H' s' its n ys Ic rv hz qq;obtain ⟨m,hn,_⟩:=Ic.loc;obtain ⟨J',nD⟩:=Ow (h':=s'.heap) I2 f2 Ic rv hz (.refl ..);obtain ⟨oC,es,ep,hoC,hdC,r1,r2⟩:=id hn;have nC:upd H' s2.heap.objs.size (.lst ys) (s2.heap.objs.size+1)=none:=by rw[zP (Dc (Dx _))];exact Ic.free
 have K':Inv X (zB++[(s2.heap.objs.size+1,oC)]) Y (upd H' s2.heap.objs.size (.lst ys)) s':=J'.pins_of λq hq=>by
  rcases AV.mp hq with z|z
  .exact J'.pin q (Bg _ z)
  .have e:q=(s2.heap.objs.size+1,oC):=by simpa using z
   subst e;refine ⟨hoC,nC,Dc (DG I2.lt),I2.nofs (DF _),λv z=>?_⟩;have z':oC.data=.cell v:=z;rw[hdC]at z';cases z'
 refine thn (Mo hN hi' hx hfn _ s' Y _ (.ref s2.heap.objs.size) (.ref s2.heap.objs.size) _ K' rfl (qq _ nD)) λ_ s'' ⟨Y'',H'',I'',q''⟩=>?_;obtain ⟨eC,_⟩:=I''.pin (s2.heap.objs.size+1,oC) (by simp);refine ⟨m,⟨oC,es,ep,eC,hdC,r1,r2⟩,λh' hs'=>⟨Y'',H'',?_,q''⟩⟩;have I3:Inv X zB Y'' H'' s'':=I''.unpinned;obtain ⟨_,nC'',neC,_,_⟩:=I''.pin (s2.heap.objs.size+1,oC) (by simp);refine I3.turned (t':=s''.toks) (it:=s2.heap.objs.size+1) (λb o hb e=>hs'.extBut b o hb e) nC'' neC (.inr (Ak I2.sz (DF _))) (λx c e z=>?_) (λq hq z=>?_)
 .obtain ⟨v,o,ho,hd⟩:=I3.cell x c e;rw[z,eC]at ho;cases ho;rw[hdC]at hd;cases hd
 .obtain ⟨e,_⟩:=I2.pin q hq;exact AX (DG (AI e)) z
end L2
namespace L3
open L2
noncomputable abbrev Sv:=List (Option V)
def DR (H:Hp) (v:Yu):Prop:=∃ a oc vs q t,v=.ref a/\H a=some (.frz oc (.ext λ_=>True))/\oc.data=.fields vs/\vs[1]?=some (.str q t)
structure Lm where
 f:Addr
 c:Value
 us:List V
set_option genInjectivity true in
inductive D where
 |non|bl (b:Bool)|int (i:Int)|str (x:Str)|tup (xs:List D)|ref (n:Nat)|fn (l:Lm) (ds:List D)
set_option genInjectivity true in
inductive MO where
 |lst (xs:List D)|fro (xs:List D)|dict (kvs:List (D × D))|dicT (kvs:List (D × D))|set (xs:List D)|froT (kvs:List (D × D))|froK (kvs:List (D × D))
mutual
def Rep (L:Yg) (H:Hp):D->V->Prop
 |.non,v=>v=.non
 |.bl b,v=>v=.bl b
 |.int i,v=>v=.int i
 |.str x,v=>v=.str x
 |.tup ds,v=>∃ a vs,v=.ref a/\H a=some (.tup vs)/\zH L H ds vs
 |.ref n,v=>∃ a,v=.ref a/\L[n]?=some a
 |.fn l ds,v=>v=.ref l.f/\DR H l.c/\zH L H ds l.us
def zH (L:Yg) (H:Hp):List D->List V->Prop
 |[],vs=>vs=[]
 |d::ds,vs=>∃ v r,vs=v::r/\Rep L H d v/\zH L H ds r
end
def zH.length:∀ {ds:List D} {vs:List V},zH L H ds vs->vs.length=ds.length
 |[],_,h=>by unfold zH at h;subst h;rfl
 |d::ds,_,h=>by
  unfold zH at h;obtain ⟨v,r,rfl,_,h2⟩:=h;simp[zH.length h2]
def zH.nil:zH L H [] []:=by unfold zH;rfl
def zH.cons (h:Rep L H d v) (t:zH L H ds vs):zH L H (d::ds) (v::vs):=by
 unfold zH;exact ⟨v,vs,rfl,h,t⟩
def zH.get:∀ {ds:List D} {vs:List V} {i:Nat} {d:D},zH L H ds vs->ds[i]?=some d -> ∃ v,vs[i]?=some v/\Rep L H d v
 |[],_,_,_,_,e=>by simp at e
 |d::ds,_,0,d',h,e=>by
  unfold zH at h;obtain ⟨v,r,rfl,h1,h2⟩:=h;simp at e;subst e;exact ⟨v,rfl,h1⟩
 |d::ds,_,i+1,d',h,e=>by
  unfold zH at h;obtain ⟨v,r,rfl,h1,h2⟩:=h;obtain ⟨u,e1,e2⟩:=zH.get (i:=i) h2 (by simpa using e);exact ⟨u,by simpa using e1,e2⟩
def zH.app:∀ {ds es:List D} {vs ws:List V},zH L H ds vs->zH L H es ws->zH L H (ds++es) (vs++ws)
 |[],_,_,_,h,t=>by unfold zH at h;subst h;exact t
 |d::ds,_,_,_,h,t=>by
  unfold zH at h;obtain ⟨v,r,rfl,h1,h2⟩:=h;exact .cons h1 (zH.app h2 t)
def zH.set (h:Rep L H d v):∀ {ds:List D} {vs:List V} (i:Nat),zH L H ds vs->zH L H (ds.set i d) (vs.set i v)
 |[],_,_,t=>by unfold zH at t;subst t;exact .nil
 |_::_,_,0,t=>by
  unfold zH at t;obtain ⟨v',r,rfl,h1,h2⟩:=t;exact .cons h h2
 |_::_,_,i+1,t=>by
  unfold zH at t;obtain ⟨v',r,rfl,h1,h2⟩:=t;exact .cons h1 (zH.set h i h2)
def zH.drop:∀ {ds:List D} {vs:List V} (n:Nat),zH L H ds vs->zH L H (ds.drop n) (vs.drop n)
 |_,_,0,t=>t
 |[],_,n+1,t=>by unfold zH at t;subst t;exact .nil
 |_::_,_,n+1,t=>by
  unfold zH at t;obtain ⟨v',r,rfl,h1,h2⟩:=t;exact zH.drop n h2
def zH.take:∀ {ds:List D} {vs:List V} (n:Nat),zH L H ds vs->zH L H (ds.take n) (vs.take n)
 |_,_,0,t=> .nil
 |[],_,n+1,t=>by unfold zH at t;subst t;exact .nil
 |_::_,_,n+1,t=>by
  unfold zH at t;obtain ⟨v',r,rfl,h1,h2⟩:=t;exact .cons h1 (zH.take n h2)
def DR.keep (h:∀ a o u,H a=some (.frz o u)->H' a=some (.frz o u)) (x:DR H v):DR H' v :=
 let ⟨a,oc,vs,q,t,e1,e2,r⟩:=x;⟨a,oc,vs,q,t,e1,h _ _ _ e2,r⟩
def EZ (H:Hp) (ps:Yp):Prop:=PySem.TriplesOk ps.toList /\ ∀ pos v,codeAmong pos ps.toList=some v->DR H v
def EZ.keep (h:∀ a o u,H a=some (.frz o u)->H' a=some (.frz o u)) (g:EZ H ps):EZ H' ps :=
 ⟨g.1,λpos v e=>(g.2 pos v e).keep h⟩
abbrev NT (o:HO):Prop:=∀ ps,o≠.tbl ps
structure Stp (L:Yg) (H:Hp) (L':Yg) (H':Hp):Prop where
 pre:∃ N,L'=L++N
 new:∀ a∈L',a∈L\/H a=none
 old:∀ a o,H a=some o->a∉L->NT o->H' a=some o
 tup:∀ a xs,H a=some (.tup xs)->H' a=some (.tup xs)
 frz:∀ a o u,H a=some (.frz o u)->H' a=some (.frz o u)
 tbl:∀ a ps,H a=some (.tbl ps) -> ∃ ps',H' a=some (.tbl ps')/\(EZ H ps->EZ H' ps')
def Stp.refl (L:Yg) (H:Hp):Stp L H L H:=⟨⟨[],by simp⟩,λ_ h=> .inl h,λ_ _ h _ _=>h,λ_ _ h=>h,λ_ _ _ h=>h,λ_ ps h=>⟨ps,h,id⟩⟩
def JQ (hf:∀ a o u,H a=some (.frz o u)->H' a=some (.frz o u)) (h:∀ a ps,H a=some (.tbl ps)->H' a=some (.tbl ps)) :
  ∀ a ps,H a=some (.tbl ps) -> ∃ ps',H' a=some (.tbl ps')/\(EZ H ps->EZ H' ps'):=λa ps e=>⟨ps,h a ps e,.keep hf⟩
def Stp.trans (a:Stp L H L1 H1) (b:Stp L1 H1 L2 H2):Stp L H L2 H2:=by
 obtain ⟨N,rfl⟩:=a.pre;obtain ⟨N',rfl⟩:=b.pre;have back:∀ c,c∉L->H1 c=none->H c=none:=λc hc h1=>by
  cases q:H c with
  |none=>rfl
  |some o=>
   by_cases z:NT o
   .rw[a.old c o q hc z]at h1;cases h1
   .obtain ⟨ps,z⟩:=Classical.not_forall.mp z;rw[Classical.not_not.mp z]at q;obtain ⟨ps',e,_⟩:=a.tbl c ps q;rw[e]at h1;cases h1
 refine ⟨⟨N++N',by simp⟩,λc hc=>?_,λc o e hc nt=>?_,λc xs e=>b.tup c xs (a.tup c xs e),λc o u e=>b.frz c o u (a.frz c o u e),λc ps e=>?_⟩
 .by_cases hL:c∈L
  .exact .inl hL
  .rcases b.new c hc with z|z
   .exact a.new c z
   .exact .inr (back c hL z)
 .refine b.old c o (a.old c o e hc nt) (λz=>?_) nt;rcases a.new c z with q|q
  .exact hc q
  .rw[q]at e;cases e
 .obtain ⟨p1,e1,g1⟩:=a.tbl c ps e;obtain ⟨p2,e2,g2⟩:=b.tbl c p1 e1;exact ⟨p2,e2,λg=>g2 (g1 g)⟩
def Stp.grow (h:∀ a o,H a=some o->H' a=some o):Stp L H L H':=⟨⟨[],by simp⟩,λ_ h=> .inl h,λa o e _ _=>h a o e,λa _ e=>h a _ e,λa _ _ e=>h a _ e,JQ (λa _ _ e=>h a _ e) λa _ e=>h a _ e⟩
def Stp.bare (s:Stp [] H N H'):Stp L H L H':=⟨⟨[],by simp⟩,λ_ h=> .inl h,λa o e _ nt=>s.old a o e (by simp) nt,s.tup,s.frz,s.tbl⟩
theorem Stp.upd (h:H p=none):Stp L H L (upd H p o):=.grow λa u e=>by rw[zP (zi e h)];exact e
def F8 {L N:Yg} {n:Nat} {a:Yt} (h:L[n]?=some a):(L++N)[n]?=some a:=by
 rw[Ag (AK.mp h).1];exact h
mutual
theorem Rep.stp {L L':Yg} {H H':Hp} (s:Stp L H L' H'):∀ {d:D} {v:V},Rep L H d v->Rep L' H' d v
 |.non,_,h=>by unfold Rep at h ⊢;exact h
 |.bl _,_,h=>by unfold Rep at h ⊢;exact h
 |.int _,_,h=>by unfold Rep at h ⊢;exact h
 |.str _,_,h=>by unfold Rep at h ⊢;exact h
 |.tup ds,_,h=>by
  unfold Rep at h ⊢;obtain ⟨a,vs,rfl,e,r⟩:=h;exact ⟨a,vs,rfl,s.tup a vs e,zH.stp s r⟩
 |.ref n,_,h=>by
  unfold Rep at h ⊢;obtain ⟨a,rfl,e⟩:=h;obtain ⟨N,rfl⟩:=s.pre;exact ⟨a,rfl,F8 e⟩
 |.fn _ ds,_,h=>by
  unfold Rep at h ⊢;exact ⟨h.1,h.2.1.keep s.frz,zH.stp s h.2.2⟩
theorem zH.stp (s:Stp L H L' H'):∀ {ds:List D} {vs:List V},zH L H ds vs->zH L' H' ds vs
 |[],_,h=>by unfold zH at h ⊢;exact h
 |d::ds,_,h=>by
  unfold zH at h ⊢;obtain ⟨v,r,rfl,h1,h2⟩:=h;exact ⟨v,r,rfl,Rep.stp s h1,zH.stp s h2⟩
end
noncomputable def Bl:D->Option Key
 |.int i=>some (.inl i)
 |.str x=>some (.inr x)
 |_=>none
noncomputable def C0:List D->Option (List Key)
 |[]=>some []
 |d::r=>match Bl d,C0 r with
  |some k,some ks=>some (k::ks)
  |_,_=>none
noncomputable def tkD:D->Option (List Key)
 |.tup ds=>C0 ds
 |_=>none
def AM {κ:Type} (kf:D->Option κ) (L:Yg) (H:Hp):List (D × D)->List (κ × V)->Prop
 |[],vs=>vs=[]
 |p::r,vs=>∃ k v r',vs=(k,v)::r'/\kf p.1=some k/\Rep L H p.2 v/\AM kf L H r r'
def AM.stp {κ:Type} {kf:D->Option κ} {L L':Yg} {H H':Hp} (s:Stp L H L' H'):∀ {ps:List (D × D)} {vs:List (κ × V)},AM kf L H ps vs->AM kf L' H' ps vs
 |[],_,h=>h
 |p::r,_,h=>by
  obtain ⟨k,v,r',rfl,e,h1,h2⟩:=h;exact ⟨k,v,r',rfl,e,h1.stp s,AM.stp s h2⟩
def AM.length {κ:Type} {kf:D->Option κ} {L:Yg} {H:Hp}:∀ {ps:List (D × D)} {vs:List (κ × V)},AM kf L H ps vs->vs.length=ps.length
 |[],_,h=>by unfold AM at h;subst h;rfl
 |p::r,_,h=>by
  obtain ⟨k,v,r',rfl,e,h1,h2⟩:=h;simp[AM.length h2]
def B6 (K:Yb) (L:Yg) (H:Hp) (a:Yt):MO->Prop
 |.lst xs=>∃ vs,H a=some (.lst vs)/\zH L H xs vs
 |.fro xs=>∃ o vs,H a=some (.frz o (.lst vs))/\zH L H xs vs
 |.dict ps=>∃ vs,H a=some (.dK vs)/\AM Bl L H ps vs
 |.dicT ps=>∃ vs,H a=some (.dT vs)/\AM tkD L H ps vs
 |.set _=>∃ o u,H a=some (.frz o u)
 |.froT ps=>∃ o vs,H a=some (.frz o (.dT vs))/\AM tkD L H ps vs
 |.froK ps=>∃ o vs,H a=some (.frz o (.dK vs))/\AM Bl L H ps vs
def B6.there {K:Yb} {L:Yg} {H:Hp} {a:Yt} {m:MO} (h:B6 K L H a m):∃ o,H a=some o:=by
 cases m with
 |lst xs=>obtain ⟨vs,e,_⟩:=h;exact ⟨_,e⟩
 |fro xs=>obtain ⟨o,vs,e,_⟩:=h;exact ⟨_,e⟩
 |dict ps=>obtain ⟨vs,e,_⟩:=h;exact ⟨_,e⟩
 |dicT ps=>obtain ⟨vs,e,_⟩:=h;exact ⟨_,e⟩
 |set _=>obtain ⟨o,u,e⟩:=h;exact ⟨_,e⟩
 |froT ps=>obtain ⟨o,vs,e,_⟩:=h;exact ⟨_,e⟩
 |froK ps=>obtain ⟨o,vs,e,_⟩:=h;exact ⟨_,e⟩
def B6.stp {K:Yb} {L L':Yg} {H H':Hp} {a:Yt} {m:MO} (s:Stp L H L' H') (hk:∀ o,NT o->H a=some o->H' a=some o) (h:B6 K L H a m):B6 K L' H' a m:=by
 cases m with
 |lst xs=>obtain ⟨vs,e,r⟩:=h;exact ⟨vs,hk _ (by intro _ z;cases z) e,r.stp s⟩
 |fro xs=>obtain ⟨o,vs,e,r⟩:=h;exact ⟨o,vs,hk _ (by intro _ z;cases z) e,r.stp s⟩
 |dict ps=>obtain ⟨vs,e,r⟩:=h;exact ⟨vs,hk _ (by intro _ z;cases z) e,r.stp s⟩
 |dicT ps=>obtain ⟨vs,e,r⟩:=h;exact ⟨vs,hk _ (by intro _ z;cases z) e,r.stp s⟩
 |set _=>obtain ⟨o,u,e⟩:=h;exact ⟨o,u,hk _ (by intro _ z;cases z) e⟩
 |froT ps=>obtain ⟨o,vs,e,r⟩:=h;exact ⟨o,vs,hk _ (by intro _ z;cases z) e,r.stp s⟩
 |froK ps=>obtain ⟨o,vs,e,r⟩:=h;exact ⟨o,vs,hk _ (by intro _ z;cases z) e,r.stp s⟩
noncomputable def Ga:List Str:=["levels", "least_word", "word_into", "shows_least", "shows_into"]
def GA (K:Yb) (H:Hp):Prop:=∀ x∈Ga,∀ c P,PySem.W.tabIn K x=some (c,P) -> ∃ ps,H P=some (.tbl ps)/\EZ H ps
def GA.stp {K:Yb} {L L':Yg} {H H':Hp} (s:Stp L H L' H') (t:GA K H):GA K H':=λx hx c P e=>
 let ⟨ps,e1,g⟩:=t x hx c P e;let ⟨ps',e2,g2⟩:=s.tbl P ps e1
 ⟨ps',e2,g2 g⟩
structure Cor (K:Yb) (L:Yg) (M:List MO) (H:Hp):Prop where
 len:L.length=M.length
 nd:L.Nodup
 obj:∀ (n:Nat) a m,L[n]?=some a->M[n]?=some m->B6 K L H a m
 tab:GA K H
def Ac (L:Yg) (H:Hp) (Y:List (Option D)) (τ:Sv):Prop:=τ.length=Y.length /\ ∀ (i:Nat) d,Y[i]?=some (some d) -> ∃ v,τ[i]?=some (some v)/\Rep L H d v
def Ac.stp (s:Stp L H L' H') (h:Ac L H Y τ):Ac L' H' Y τ :=
 ⟨h.1,λi d e=>let ⟨v,e1,r⟩:=h.2 i d e;⟨v,e1,r.stp s⟩⟩
def Cor.tracked {K:Yb} {L:Yg} {M:List MO} {H:Hp} (c:Cor K L M H) {a:Yt} (h:a∈L):∃ o,H a=some o:=by
 obtain ⟨n,hn⟩:=List.getElem?_of_mem h;have hl:n<M.length:=by rw[<-c.len];exact (AK.mp hn).1
 have m:=c.obj n a M[n] hn (AJ hl);exact m.there
def Cor.grow {K:Yb} {L:Yg} {M:List MO} {H H':Hp} (c:Cor K L M H) (h:∀ a o,H a=some o->H' a=some o):Cor K L M H':=by
 exact ⟨c.len,c.nd,λn a m e1 e2=>(c.obj n a m e1 e2).stp (.grow h) λo _ e=>h a o e,c.tab.stp (Stp.grow (L:=L) h)⟩
def Cor.bare {K:Yb} {L N:Yg} {M:List MO} {H H':Hp} (c:Cor K L M H) (s:Stp [] H N H'):Cor K L M H' :=
 ⟨c.len,c.nd,λn a m e1 e2=>(c.obj n a m e1 e2).stp s.bare λo nt e=>s.old a o e (by simp) nt,c.tab.stp s⟩
theorem Cor.upd {K:Yb} {L:Yg} {M:List MO} {H:Hp} {p:Yt} {o:HO} (c:Cor K L M H) (h:H p=none):Cor K L M (upd H p o):=c.grow λa u e=>by rw[zP (zi e h)];exact e
def Cor.write {K:Yb} {L:Yg} {M:List MO} {H:Hp} {n:Nat} {p:Yt} {xs xs':List D} {vs':List V} (c:Cor K L M H) (h1:L[n]?=some p) (h2:M[n]?=some (.lst xs)) (r:zH L H xs' vs') :
  Cor K L (M.set n (.lst xs')) (L2.upd H p (.lst vs'))/\Stp L H L (L2.upd H p (.lst vs')):=by
 obtain ⟨vs,hp,_⟩:=c.obj n p _ h1 h2;have st:Stp L H L (L2.upd H p (.lst vs')):=by
  refine ⟨⟨[],by simp⟩,λa ha=> .inl ha,λa o e ha _=>?_,λa o e=>?_,λa o u e=>?_,JQ (λa o u e=>?_) λa ps e=>?_⟩
  .rw[zP (show a≠p from λz=>ha (by rw[z];exact Ba h1))];exact e
  all_goals (rw[zP (C6 e hp (by intro z;cases z))];exact e)
 refine ⟨⟨by simp[c.len],c.nd,λk a m e1 e2=>?_,c.tab.stp st⟩,st⟩;rw[Dz]at e2;split at e2
 .rename_i hk;subst hk;rw[h1]at e1;cases e1;split at e2
  .cases e2;exact ⟨vs',zq,r.stp st⟩
  .cases e2
 .rename_i hk;have hne:a≠p:=λz=>hk (by
   subst z;exact (List.getElem?_inj (AK.mp h1).1 c.nd).mp (h1.trans e1.symm))
  exact (c.obj k a m e1 e2).stp st λo _ e=>by rw[zP hne];exact e
set_option genInjectivity true in
inductive EV where
 |dat (d:D)|fl (xs:List D)
def zT (H0:Hp) (L:Yg) (H:Hp):EV->V->Prop
 |.dat d,v=>Rep L H d v
 |.fl xs,v=>∃ p vs,v=.ref p/\H0 p=none/\H p=some (.lst vs)/\p∉L/\zH L H xs vs
noncomputable abbrev Sd:=List (Option D)
noncomputable abbrev Mem:=List MO
noncomputable abbrev FE:=Sd->Mem->Option (EV × Mem)
noncomputable abbrev FD:=Sd->Mem->Option (D × Mem)
noncomputable abbrev FT:=Sd->Mem->Option (Bool × Mem)
noncomputable abbrev FA:=Sd->Mem->Option (List D × Mem)
def Stp.there {L L':Yg} {H H':Hp} (s:Stp L H L' H') {p:Yt} {o:HO} (h:H p=some o) (hp:p∉L):∃ o',H' p=some o':=by
  by_cases z:NT o
  .exact ⟨o,s.old p o h hp z⟩
  . obtain ⟨ps,z⟩:=Classical.not_forall.mp z
    rw[Classical.not_not.mp z]at h;obtain ⟨ps',e,_⟩:=s.tbl p ps h;exact ⟨_,e⟩
def Stp.out (s:Stp L H L' H') (h:H p=some o) (hp:p∉L):p∉L':=λz=>by
 rcases s.new p z with q|q
 .exact hp q
 .rw[h]at q;cases q
def zT.stp (s:Stp L H L' H') (h:zT H0 L H e v):zT H0 L' H' e v:=by
 cases e with
 |dat d=>exact Rep.stp s h
 |fl xs=>
  obtain ⟨p,vs,rfl,e0,e1,e2,r⟩:=h;exact ⟨p,vs,rfl,e0,s.old p _ e1 e2 (by intro _ z;cases z),s.out e1 e2,r.stp s⟩
def zT.back {H0 H1:Hp} {L0 L1 L:Yg} {H:Hp} (s:Stp L0 H0 L1 H1) {M:List MO} {K:Yb} (c:Cor K L0 M H0) {e:EV} {v:V} (h:zT H1 L H e v) (hL:∀ a∈L1,a∈L):zT H0 L H e v:=by
 cases e with
 |dat d=>exact h
 |fl xs=>
  obtain ⟨p,vs,rfl,e0,e1,e2,r⟩:=h;refine ⟨p,vs,rfl,?_,e1,e2,r⟩;cases q:H0 p with
  |none=>rfl
  |some o=>
   by_cases hp:p∈L0
   .obtain ⟨N,hN⟩:=s.pre;exact absurd (hL p (by rw[hN];exact E4 _ hp)) e2
   .obtain ⟨o',z⟩:=s.there q hp;rw[z]at e0;cases e0
section
variable (K:Yb)
noncomputable def trE (f:FE):TE:=λτ H Q=>∃ L Y M d M',Cor K L M H/\Ac L H Y τ/\f Y M=some (d,M') /\ ∀ L' H' v,Stp L H L' H'->Cor K L' M' H'->zT H L' H' d v->Q v H'
noncomputable def trD (f:FD):TE:=λτ H Q=>∃ L Y M d M',Cor K L M H/\Ac L H Y τ/\f Y M=some (d,M') /\ ∀ L' H' v,Stp L H L' H'->Cor K L' M' H'->Rep L' H' d v->Q v H'
noncomputable def trT (f:FT):TT:=λτ H Q=>∃ L Y M d M',Cor K L M H/\Ac L H Y τ/\f Y M=some (d,M') /\ ∀ L' H',Stp L H L' H'->Cor K L' M' H'->Q d H'
noncomputable def trA (f:FA):TA:=λτ H Q=>∃ L Y M ds M',Cor K L M H/\Ac L H Y τ/\f Y M=some (ds,M') /\ ∀ L' H' vs,Stp L H L' H'->Cor K L' M' H'->zH L' H' ds vs->Q vs H'
end
def mkE {K:Yb} {f:FE} {τ:Sv} {H:Hp} {Q:VK} {Y:Sd} {M M':Mem} {d:EV} (c:Cor K L M H) (r:Ac L H Y τ) (e:f Y M=some (d,M')) (q:∀ L' H' v,Stp L H L' H'->Cor K L' M' H'->zT H L' H' d v->Q v H'):trE K f τ H Q:=⟨_,_,_,_,_,c,r,e,q⟩
def mkD {K:Yb} {f:FD} {τ:Sv} {H:Hp} {Q:VK} {Y:Sd} {M M':Mem} {d:D} (c:Cor K L M H) (r:Ac L H Y τ) (e:f Y M=some (d,M')) (q:∀ L' H' v,Stp L H L' H'->Cor K L' M' H'->Rep L' H' d v->Q v H'):trD K f τ H Q:=⟨_,_,_,_,_,c,r,e,q⟩
def mkT {K:Yb} {f:FT} {τ:Sv} {H:Hp} {Q} {Y:Sd} {M M':Mem} {d} (c:Cor K L M H) (r:Ac L H Y τ) (e:f Y M=some (d,M')) (q:∀ L' H',Stp L H L' H'->Cor K L' M' H'->Q d H'):trT K f τ H Q:=⟨_,_,_,_,_,c,r,e,q⟩
def mkA {K:Yb} {f:FA} {τ:Sv} {H:Hp} {Q} {Y:Sd} {M M':Mem} {ds} (c:Cor K L M H) (r:Ac L H Y τ) (e:f Y M=some (ds,M')) (q:∀ L' H' vs,Stp L H L' H'->Cor K L' M' H'->zH L' H' ds vs->Q vs H'):trA K f τ H Q:=⟨_,_,_,_,_,c,r,e,q⟩
def PE.imp (h:PE X e t) (hi:∀ τ H Q,t' τ H Q->t τ H Q):PE X e t':=λzB s Y H Q I q=>h zB s Y H Q I (hi _ _ _ q)
def PT.imp (h:PT X e t) (hi:∀ τ H Q,t' τ H Q->t τ H Q):PT X e t':=λzB s Y H Q I q=>h zB s Y H Q I (hi _ _ _ q)
def PS.imp {st:Stmt} {t t':TS} (h:PS X st t) (hi:∀ D τ H,t' D τ H->t D τ H):PS X st t':=λzB s Y H D I q=>h zB s Y H D I (hi _ _ _ q)
def PSs.imp {st:Yy} {t t':TS} (h:PSs X st t) (hi:∀ D τ H,t' D τ H->t D τ H):PSs X st t':=λzB s Y H D I q=>h zB s Y H D I (hi _ _ _ q)
structure QE (X:Cx) (e:Expr) (f:FE):Prop where
 un:PE X e (trE X.K f)
structure QD (X:Cx) (e:Expr) (f:FD):Prop where
 un:PE X e (trD X.K f)
structure QT (X:Cx) (e:Expr) (f:FT):Prop where
 un:PT X e (trT X.K f)
structure QA (X:Cx) (es:Yi) (f:FA):Prop where
 un:PA X es (trA X.K f)
noncomputable def toD (f:FE):FD:=λY M=>match f Y M with
 |some (.dat d,M')=>some (d,M')
 |some (.fl xs,M')=>some (.ref M'.length,M'++[.lst xs])
 |none=>none
mutual
theorem Rep.more (N:Yg):∀ {d:D} {v:V},Rep L H d v->Rep (L++N) H d v
 |.non,_,h=>by unfold Rep at h ⊢;exact h
 |.bl _,_,h=>by unfold Rep at h ⊢;exact h
 |.int _,_,h=>by unfold Rep at h ⊢;exact h
 |.str _,_,h=>by unfold Rep at h ⊢;exact h
 |.tup ds,_,h=>by
  unfold Rep at h ⊢;obtain ⟨a,vs,rfl,e,r⟩:=h;exact ⟨a,vs,rfl,e,zH.more N r⟩
 |.ref n,_,h=>by
  unfold Rep at h ⊢;obtain ⟨a,rfl,e⟩:=h;exact ⟨a,rfl,F8 e⟩
 |.fn _ ds,_,h=>by
  unfold Rep at h ⊢;exact ⟨h.1,h.2.1,zH.more N h.2.2⟩
theorem zH.more (N:Yg):∀ {ds:List D} {vs:List V},zH L H ds vs->zH (L++N) H ds vs
 |[],_,h=>by unfold zH at h ⊢;exact h
 |d::ds,_,h=>by
  unfold zH at h ⊢;obtain ⟨v,r,rfl,h1,h2⟩:=h;exact ⟨v,r,rfl,Rep.more N h1,zH.more N h2⟩
end
def AM.more {κ:Type} {kf:D->Option κ} {L:Yg} {H:Hp} (N:Yg):∀ {ps:List (D × D)} {vs:List (κ × V)},AM kf L H ps vs->AM kf (L++N) H ps vs
 |[],_,h=>h
 |p::r,_,h=>by
  obtain ⟨k,v,r',rfl,e,h1,h2⟩:=h;exact ⟨k,v,r',rfl,e,h1.more N,AM.more N h2⟩
def B6.more {K:Yb} {L:Yg} {H:Hp} {a:Yt} {m:MO} (N:Yg) (h:B6 K L H a m):B6 K (L++N) H a m:=by
 cases m with
 |lst xs=>obtain ⟨vs,e,r⟩:=h;exact ⟨vs,e,r.more N⟩
 |fro xs=>obtain ⟨o,vs,e,r⟩:=h;exact ⟨o,vs,e,r.more N⟩
 |dict ps=>obtain ⟨vs,e,r⟩:=h;exact ⟨vs,e,r.more N⟩
 |dicT ps=>obtain ⟨vs,e,r⟩:=h;exact ⟨vs,e,r.more N⟩
 |set _=>exact h
 |froT ps=>obtain ⟨o,vs,e,r⟩:=h;exact ⟨o,vs,e,r.more N⟩
 |froK ps=>obtain ⟨o,vs,e,r⟩:=h;exact ⟨o,vs,e,r.more N⟩
def N3 {K:Yb} {L L':Yg} {M':List MO} {H H':Hp} {p:Yt} {xs:List D} {vs:List V} (s:Stp L H L' H') (c:Cor K L' M' H') (h0:H p=none) (h1:H' p=some (.lst vs)) (h2:p∉L') (r:zH L' H' xs vs) :
  Cor K (L'++[p]) (M'++[.lst xs]) H'/\Stp L H (L'++[p]) H':=by
 refine ⟨⟨by simp[c.len],?_,λn a m e1 e2=>?_,c.tab⟩,?_⟩
 .rw[Dm];exact ⟨c.nd,by simp,λa ha b hb z=>by
   have:b=p:=by simpa using hb
   subst this;subst z;exact h2 ha⟩
 .by_cases hn:n<L'.length
  .rw[Ag hn]at e1;rw[Ag (by rw[<-c.len];exact hn)]at e2;exact (c.obj n a m e1 e2).more [p]
  .have hn':n=L'.length:=by
    have:=(AK.mp e1).1;rw[Ae]at this;simp at this;omega
   subst hn';simp at e1;rw[c.len]at e2;simp at e2;subst e1;subst e2;exact ⟨vs,h1,r.more [p]⟩
 .obtain ⟨N,hN⟩:=s.pre;refine ⟨⟨N++[p],by rw[hN];simp⟩,λa ha=>?_,s.old,s.tup,s.frz,s.tbl⟩;rcases AV.mp ha with z|z
  .exact s.new a z
  .have:a=p:=by simpa using z
   subst this;exact .inr h0
def Rep.last {L:Yg} {M:List MO} {H:Hp} {K:Yb} {p:Yt} (c:Cor K L M H):Rep (L++[p]) H (.ref M.length) (.ref p):=by
 unfold Rep;exact ⟨p,rfl,by rw[<-c.len];simp⟩
def BB {f:FE} (h:QE X e f):QD X e (toD f):=.mk <| PE.imp h.un λτ H Q zz=>by
 obtain ⟨L,Y,M,d,M',c,rs,hf,q⟩:=zz;unfold toD at hf;split at hf
 .rename_i d' M1 e1;cases hf;exact ⟨L,Y,M,_,_,c,rs,e1,λL' H' v s c' r=>q L' H' v s c' r⟩
 .rename_i xs M1 e1;cases hf;refine ⟨L,Y,M,_,_,c,rs,e1,λL' H' v s c' r=>?_⟩;obtain ⟨p,vs,rfl,e0,e2,e3,r⟩:=r;obtain ⟨c2,s2⟩:=N3 s c' e0 e2 e3 r;exact q _ H' _ s2 c2 (Rep.last c')
 .cases hf
noncomputable def zC (i:Nat):FE:=λY M=>match Y[i]? with
 |some (some d)=>some (.dat d,M)
 |_=>none
def EH (h:PE X (.Name x pos) (Lp i)):QE X (.Name x pos) (zC i):=.mk <| PE.imp h λτ H Q zz=>by
 obtain ⟨L,Y,M,d,M',c,rs,hf,q⟩:=zz;unfold zC at hf;split at hf
 .rename_i d' e1;cases hf;obtain ⟨v,e2,r⟩:=rs.2 i d' e1;exact ⟨v,e2,q L H v (.refl L H) c r⟩
 .cases hf
noncomputable def fC (d:D):FE:=λ_ M=>some (.dat d,M)
def Ik (hd:∀ L H,Rep L H d v) (h:PE X e (tC v)):QE X e (fC d):=.mk <| PE.imp h λτ H Q zz=>by
 obtain ⟨L,Y,M,d',M',c,rs,hf,q⟩:=zz;unfold fC at hf;cases hf;exact q L H v (.refl L H) c (hd L H)
def Sb {i j pos}:QE X (.Constant (.int i) j pos) (fC (.int i)):=Ik (λ_ _=>by unfold Rep;rfl) Ry
def XE {b j pos}:QE X (.Constant (.bool b) j pos) (fC (.bl b)):=Ik (λ_ _=>by unfold Rep;rfl) cX
def Sq {j pos}:QE X (.Constant .none j pos) (fC .non):=Ik (λ_ _=>by unfold Rep;rfl) Xo
def d6 {x j pos}:QE X (.Constant (.str x) j pos) (fC (.str x)):=Ik (λ_ _=>by unfold Rep;rfl) UI
noncomputable def zL:FA:=λ_ M=>some ([],M)
noncomputable def zD (f:FD) (g:FA):FA:=λY M=>match f Y M with
 |some (d,M1)=>match g Y M1 with
  |some (ds,M2)=>some (d::ds,M2)
  |none=>none
 |none=>none
def PA.imp (h:PA X es t) (hi:∀ τ H Q,t' τ H Q->t τ H Q):PA X es t':=λpos zB s Y H Q I q=>h pos zB s Y H Q I (hi _ _ _ q)
def IB:QA X [] zL:=.mk <| PA.imp Hy λτ H Q zz=>by
 obtain ⟨L,Y,M,d,M',c,rs,hf,q⟩:=zz;unfold zL at hf;cases hf;exact q L H [] (.refl L H) c .nil
def Kq (h1:QD X e f) (h2:QA X es g) (hs:starEach (e::es) X.env=(false,eval e X.env)::starEach es X.env:=by rfl):QA X (e::es) (zD f g) :=
 .mk <| PA.imp (Ek h1.un h2.un hs) λτ H Q zz=>by
  obtain ⟨L,Y,M,d,M',c,rs,hf,q⟩:=zz;unfold zD at hf;split at hf
  .rename_i d1 M1 e1;split at hf
   .rename_i ds M2 e2;cases hf;refine ⟨L,Y,M,_,_,c,rs,e1,λL1 H1 v s1 c1 r1=>⟨L1,Y,M1,_,_,c1,rs.stp s1,e2,λL2 H2 vs s2 c2 r2=>?_⟩⟩;exact q L2 H2 _ (s1.trans s2) c2 (.cons (r1.stp s2) r2)
   .cases hf
  .cases hf
noncomputable def Bd (g:FA):FE:=λY M=>match g Y M with
 |some (ds,M1)=>if ds.length<=sizeLine then some (.dat (.tup ds),M1) else none
 |none=>none
noncomputable def BO (g:FA):FE:=λY M=>match g Y M with
 |some (ds,M1)=>if ds.length<=sizeLine then some (.fl ds,M1) else none
 |none=>none
def Rep.newTup (h:H p=none) (r:zH L H ds vs):Rep L (upd H p (.tup vs)) (.tup ds) (.ref p):=by
 unfold Rep;exact ⟨p,vs,rfl,zq,r.stp (.upd h)⟩
def Vw {x1 pos} (h:QA X es g):QE X (.Tuple es x1 pos) (Bd g):=.mk <| PE.imp (bC h.un) λτ H Q zz=>by
 obtain ⟨L,Y,M,d,M',c,rs,hf,q⟩:=zz;unfold Bd at hf;split at hf
 .rename_i ds M1 e1;split at hf
  .rename_i hz;cases hf;refine ⟨L,Y,M,_,_,c,rs,e1,λL1 H1 vs s1 c1 r1=>⟨by rw[r1.length];exact hz,λp hp=>?_⟩⟩;exact q L1 _ _ (s1.trans (.upd hp)) (c1.upd hp) (Rep.newTup hp r1)
  .cases hf
 .cases hf
def ME {L L1:Yg} {H H1:Hp} {K:Yb} {M M1:List MO} (s:Stp L H L1 H1) (c:Cor K L M H) (c1:Cor K L1 M1 H1) {p:Yt} (hp:H1 p=none):H p=none/\p∉L1:=by
 have hp1:p∉L1:=λz=>by obtain ⟨o,e⟩:=c1.tracked z;rw[hp]at e;cases e
 refine ⟨?_,hp1⟩;cases q:H p with
 |none=>rfl
 |some o=>
  have:p∉L:=λz=>hp1 (by obtain ⟨N,hN⟩:=s.pre;rw[hN];exact E4 _ z);obtain ⟨o',z⟩:=s.there q this;rw[z]at hp;cases hp
def zT.newLst {L L1:Yg} {H H1:Hp} {K:Yb} {M M1:List MO} {p:Yt} {ds:List D} {vs:List V} (s:Stp L H L1 H1) (c:Cor K L M H) (c1:Cor K L1 M1 H1) (hp:H1 p=none) (r:zH L1 H1 ds vs) :
  zT H L1 (upd H1 p (.lst vs)) (.fl ds) (.ref p):=by
 obtain ⟨a,b⟩:=ME s c c1 hp;exact ⟨p,vs,rfl,a,zq,b,r.stp (.upd hp)⟩
def aF {pos} (h:QA X es g):QE X (.List es pos) (BO g):=.mk <| PE.imp (Zj h.un) λτ H Q zz=>by
 obtain ⟨L,Y,M,d,M',c,rs,hf,q⟩:=zz;unfold BO at hf;split at hf
 .rename_i ds M1 e1;split at hf
  .rename_i hz;cases hf;refine ⟨L,Y,M,_,_,c,rs,e1,λL1 H1 vs s1 c1 r1=>⟨by rw[r1.length];exact hz,λp hp=>?_⟩⟩;exact q L1 _ _ (s1.trans (.upd hp)) (c1.upd hp) (zT.newLst s1 c c1 hp r1)
  .cases hf
 .cases hf
noncomputable abbrev FAE:=Sd->Mem->Option (List EV × Mem)
def CZ (H0:Hp) (L:Yg) (H:Hp):List EV->List V->Prop
 |[],vs=>vs=[]
 |e::es,vs=>∃ v r,vs=v::r/\zT H0 L H e v/\CZ H0 L H es r
def Stp.sub (s:Stp L H L' H'):∀ a∈L,a∈L':=λa h=>by
 obtain ⟨N,hN⟩:=s.pre;rw[hN];exact E4 _ h
def CZ.back {H0 H1:Hp} {L0 L1 L:Yg} {H:Hp} (s:Stp L0 H0 L1 H1) {M:List MO} {K:Yb} (c:Cor K L0 M H0) (hL:∀ a∈L1,a∈L):∀ {es:List EV} {vs:List V},CZ H1 L H es vs->CZ H0 L H es vs
 |[],_,h=>h
 |e::es,_,h=>by
  obtain ⟨v,r,rfl,h1,h2⟩:=h;exact ⟨v,r,rfl,h1.back s c hL,CZ.back s c hL h2⟩
noncomputable def PH (K:Yb) (f:FAE):TA:=λτ H Q=>∃ L Y M ds M',Cor K L M H/\Ac L H Y τ/\f Y M=some (ds,M') /\ ∀ L' H' vs,Stp L H L' H'->Cor K L' M' H'->CZ H L' H' ds vs->Q vs H'
structure QAE (X:Cx) (es:Yi) (f:FAE):Prop where
 un:PA X es (PH X.K f)
section
variable {X:Cx} {a b e:Expr} {es:Yi} {pos:Pos}
noncomputable def zJ:FAE:=λ_ M=>some ([],M)
noncomputable def zE (f:FE) (g:FAE):FAE:=λY M=>match f Y M with
 |some (d,M1)=>match g Y M1 with
  |some (ds,M2)=>some (d::ds,M2)
  |none=>none
 |none=>none
def Py:QAE X [] zJ:=.mk <| PA.imp Hy λτ H Q zz=>by
 obtain ⟨L,Y,M,d,M',c,rs,hf,q⟩:=zz;unfold zJ at hf;cases hf;exact q L H [] (.refl L H) c rfl
def Po (h1:QE X e f) (h2:QAE X es g) (hs:starEach (e::es) X.env=(false,eval e X.env)::starEach es X.env:=by rfl):QAE X (e::es) (zE f g) :=
 .mk <| PA.imp (Ek h1.un h2.un hs) λτ H Q zz=>by
  obtain ⟨L,Y,M,d,M',c,rs,hf,q⟩:=zz;unfold zE at hf;split at hf
  .rename_i d1 M1 e1;split at hf
   .rename_i ds M2 e2;cases hf;refine ⟨L,Y,M,_,_,c,rs,e1,λL1 H1 v s1 c1 r1=>⟨L1,Y,M1,_,_,c1,rs.stp s1,e2,λL2 H2 vs s2 c2 r2=>?_⟩⟩;exact q L2 H2 _ (s1.trans s2) c2 ⟨v,vs,rfl,r1.stp s2,r2.back s1 c s2.sub⟩
   .cases hf
  .cases hf
noncomputable abbrev K2:=EV->EV->Mem->Option (EV × Mem)
def BE (K:Yb) (r:R2) (k:K2):Prop:=∀ {L:Yg} {M M':Mem} {H H0:Hp} {x y d:EV} {v w:V} {Q:VK},Cor K L M H->zT H0 L H x v->zT H0 L H y w->k x y M=some (d,M') ->
 (∀ L' H' u,Stp L H L' H'->Cor K L' M' H'->zT H L' H' d u->Q u H')->r v w H Q
noncomputable def fOp (k:K2) (f g:FE):FE:=λY M=>match f Y M with
 |some (x,M1)=>match g Y M1 with
  |some (y,M2)=>k x y M2
  |none=>none
 |none=>none
def GI {K:Yb} {r:R2} {k:K2} {f g:FE} (hk:BE K r k) {τ:Sv} {H:Hp} {Q:VK} (h:trE K (fOp k f g) τ H Q):tOp r (trE K f) (trE K g) τ H Q:=by
 obtain ⟨L,Y,M,d,M',c,rs,hf,q⟩:=h;unfold fOp at hf;split at hf
 .rename_i x M1 e1;split at hf
  .rename_i y M2 e2;refine (mkE c rs e1 (λL1 H1 v s1 c1 r1=>(mkE c1 (rs.stp s1) e2 (λL2 H2 w s2 c2 r2=>?_))));refine hk (H0:=H) c2 (r1.stp s2) (r2.back s1 c s2.sub) hf λL3 H3 u s3 c3 r3=>?_;exact q L3 H3 u ((s1.trans s2).trans s3) c3 (r3.back (s1.trans s2) c s3.sub)
  .cases hf
 .cases hf
def Ey (hk:BE X.K r k) (ho:OpR X (binaryOp op) r) (h1:QE X a f) (h2:QE X b g):QE X (.BinOp a op b pos) (fOp k f g):=.mk <| PE.imp (RP ho h1.un h2.un) λ_ _ _ h=>GI hk h
def JO (hk:BE X.K r k) (ho:OpR X (compareOp op) r) (h1:QE X a f) (h2:QE X b g) (hm:behindInMarks op b=false):QE X (.Compare a [op] [b] pos) (fOp k f g) :=
 .mk <| PE.imp (SD ho h1.un h2.un hm) λ_ _ _ h=>GI hk h
noncomputable def tst (f:FE):FT:=λY M=>match f Y M with
 |some (.dat (.bl c),M')=>some (c,M')
 |_=>none
def Lh {K:Yb} {f:FE} {τ:Sv} {H:Hp} {Q:Bool->Hp->Prop} (h:trT K (tst f) τ H Q):IV (trE K f) τ H Q:=by
 obtain ⟨L,Y,M,d,M',c,rs,hf,q⟩:=h;unfold tst at hf;split at hf
 .rename_i k M1 e1;cases hf;refine (mkE c rs e1 (λL1 H1 v s1 c1 r1=>?_));have:v=.bl d:=by unfold zT Rep at r1;exact r1
  exact ⟨d,this,q L1 H1 s1 c1⟩
 .cases hf
def OB (h:∀ τ H Q,t τ H Q->t' τ H Q) (q:IV t τ H Q):IV t' τ H Q:=h _ _ _ q
def Fg {op:CmpOp} {r:R2} {k:K2} {f g:FE} (hk:BE X.K r k) (ho:OpR X (compareOp op) r) (h1:QE X a f) (h2:QE X b g) (hm:behindInMarks op b=false):QT X (.Compare a [op] [b] pos) (tst (fOp k f g)) :=
 .mk <| PT.imp (Ve ho h1.un h2.un hm) λ_ _ _ h=>OB (λ_ _ _ z=>GI hk z) (Lh h)
def WC (h:QE X e f) (he:∀ whole,isTrue e X.env whole=(do let v <- whole;standAt e.pos;holding [v] (truthy v)):=by intro _;rfl):QT X e (tst f) :=
 .mk <| PT.imp (cE h.un he) λ_ _ _ h=>Lh h
noncomputable def kI (C:Int->Int->Bool) (g:Int->Int->D):K2:=λx y M=>match x,y with
 |.dat (.int i),.dat (.int j)=>if C i j then some (.dat (g i j),M) else none
 |_,_=>none
noncomputable def kI0 (g:Int->Int->D):K2:=kI (λ_ _=>true) g
def Hw {K:Yb} {C:Int->Int->Bool} {C':Int->Int->Prop} {g:Int->Int->D} {g':Int->Int->V} (hC:∀ i j,C i j=true->C' i j) (hg:∀ L H i j,Rep L H (g i j) (g' i j)):BE K (rI C' g') (kI C g):=by
 intro L M M' H H0 x y d v w Q c rx ry hk q;unfold kI at hk;split at hk
 .rename_i i j;split at hk
  .rename_i hc;cases hk;refine ⟨i,j,by unfold zT Rep at rx;exact rx,by unfold zT Rep at ry;exact ry,hC i j hc,q L H _ (.refl L H) c (hg L H i j)⟩
  .cases hk
 .cases hk
def FJ {K:Yb} {g:Int->Int->D} {g':Int->Int->V} (hg:∀ L H i j,Rep L H (g i j) (g' i j)):BE K (rI0 g') (kI0 g):=by
 intro L M M' H H0 x y d v w Q c rx ry hk q;obtain ⟨i,j,h1,h2,_,h4⟩:=Hw (C:=λ_ _=>true) (C':=λ_ _=>True) (λ_ _ _=>trivial) hg c rx ry hk q;exact ⟨i,j,h1,h2,h4⟩
def CV:Rep L H (.int i) (.int i):=by unfold Rep;rfl
def CI:Rep L H (.bl i) (.bl i):=by unfold Rep;rfl
noncomputable def HH (i j:Int):Bool:=(decide (-(2 ^ 64)<i)&&decide (i<2 ^ 64))||(decide (-(2 ^ 64)<j)&&decide (j<2 ^ 64))
noncomputable abbrev Kh:K2:=kI0 λi j=> .int (i+j)
noncomputable abbrev Cb:K2:=kI0 λi j=> .int (i-j)
noncomputable abbrev DI:K2:=kI HH λi j=> .int (i*j)
noncomputable abbrev CD:K2:=kI (λ_ j=>decide (0<j)) λi j=> .int (i % j)
noncomputable abbrev Fo:K2:=kI (λ_ j=>decide (0<j)&&decide (j<1073741824)) λi j=> .int (i / j)
noncomputable abbrev G3:K2:=kI (λi j=>decide (0<=j)&&decide (j<=1000000)&&decide (i.natAbs<2 ^ 64)) λi j=> .int (i ^ j.toNat)
noncomputable abbrev kLt:K2:=kI0 λi j=> .bl (decide (i<j))
noncomputable abbrev kLe:K2:=kI0 λi j=> .bl (decide (i<=j))
noncomputable abbrev kGt:K2:=kI0 λi j=> .bl (decide (j<i))
section
variable {f g:FE}
def Y9 (h1:QE X a f) (h2:QE X b g):QE X (.BinOp a .Sub b pos) (fOp Cb f g):=Ey (FJ λ_ _ _ _=>CV) dP h1 h2
def RM (h1:QE X a f) (h2:QE X b g):QE X (.BinOp a .Mult b pos) (fOp DI f g):=Ey (Hw (λi j h=>by
 unfold HH at h;simp only[Bool.or_eq_true,Ap,EA]at h;exact h) λ_ _ _ _=>CV) V4 h1 h2
def XR (h1:QE X a f) (h2:QE X b g):QE X (.BinOp a .Mod b pos) (fOp CD f g):=Ey (Hw (λi j h=>Bv h) λ_ _ _ _=>CV) YM h1 h2
def dH (h1:QE X a f) (h2:QE X b g):QE X (.BinOp a .FloorDiv b pos) (fOp Fo f g):=Ey (Hw (λi j h=>by
 simp only[Ap,EA]at h;exact h) λ_ _ _ _=>CV) Ui h1 h2
def TX (h1:QE X a f) (h2:QE X b g):QE X (.BinOp a .Pow b pos) (fOp G3 f g):=Ey (Hw (λi j h=>by
 simp only[Ap,EA]at h;exact ⟨h.1.1,h.1.2,h.2⟩) λ_ _ _ _=>CV) Y4 h1 h2
def Z1 (h1:QE X a f) (h2:QE X b g):QE X (.Compare a [.Lt] [b] pos) (fOp kLt f g):=JO (FJ λ_ _ _ _=>CI) Ko h1 h2 (E1 _)
def OZ (h1:QE X a f) (h2:QE X b g):QE X (.Compare a [.LtE] [b] pos) (fOp kLe f g):=JO (FJ λ_ _ _ _=>CI) PK h1 h2 (E1 _)
def YJ (h1:QE X a f) (h2:QE X b g):QT X (.Compare a [.Lt] [b] pos) (tst (fOp kLt f g)):=Fg (FJ λ_ _ _ _=>CI) Ko h1 h2 (E1 _)
def U9 (h1:QE X a f) (h2:QE X b g):QT X (.Compare a [.Gt] [b] pos) (tst (fOp kGt f g)):=Fg (FJ λ_ _ _ _=>CI) Z2 h1 h2 (E1 _)
end
end
noncomputable def CH (M:Mem):EV->Option (List D)
 |.fl xs=>some xs
 |.dat (.ref n)=>match M[n]? with
  |some (.lst xs)=>some xs
  |some (.fro xs)=>some xs
  |_=>none
 |_=>none
noncomputable def B7:EV->Option (List D)
 |.dat (.tup xs)=>some xs
 |_=>none
noncomputable def Ai (M:Mem) (x:EV):Option (List D):=match B7 x with
 |some xs=>some xs
 |none=>CH M x
def Eb {K:Yb} {L:Yg} {M:Mem} {H H0:Hp} {x:EV} {v:V} {xs:List D} (c:Cor K L M H) (r:zT H0 L H x v) (h:CH M x=some xs):∃ a vs,v=.ref a/\Rd H a (.lst vs)/\zH L H xs vs:=by
 cases x with
 |fl ys=>
  cases h;obtain ⟨p,vs,rfl,_,e,_,r⟩:=r;exact ⟨p,vs,rfl,.inl e,r⟩
 |dat d=>
  cases d with
  |ref n=>
   unfold zT Rep at r;obtain ⟨a,rfl,e⟩:=r;unfold CH at h;dsimp only at h;cases q:M[n]? with
   |none=>rw[q]at h;cases h
   |some m=>
    rw[q]at h;have z:=c.obj n a m e q;cases m with
    |lst ys=>cases h;obtain ⟨vs,e1,r1⟩:=z;exact ⟨a,vs,rfl,.inl e1,r1⟩
    |fro ys=>cases h;obtain ⟨o,vs,e1,r1⟩:=z;exact ⟨a,vs,rfl,.inr ⟨o,e1⟩,r1⟩
    |dict _=>cases h
    |dicT _=>cases h
    |set _=>cases h
    |froT _=>cases h
    |froK _=>cases h
  |_=>cases h
def En {L:Yg} {H H0:Hp} {x:EV} {v:V} {xs:List D} (r:zT H0 L H x v) (h:B7 x=some xs):∃ a vs,v=.ref a/\H a=some (.tup vs)/\zH L H xs vs:=by
 cases x with
 |fl ys=>cases h
 |dat d=>
  cases d with
  |tup ys=>cases h;unfold zT Rep at r;exact r
  |_=>cases h
def F1 {K:Yb} {L:Yg} {M:Mem} {H H0:Hp} {x:EV} {v:V} {xs:List D} (c:Cor K L M H) (r:zT H0 L H x v) (h:Ai M x=some xs):∃ a vs,v=.ref a/\(SqL K H a vs\/SqT K H a vs)/\zH L H xs vs:=by
 unfold Ai at h;cases q:B7 x with
 |some ys=>
  rw[q]at h;cases h;obtain ⟨a,vs,e,h1,h2⟩:=En r q;exact ⟨a,vs,e,.inr (.of h1),h2⟩
 |none=>
  rw[q]at h;obtain ⟨a,vs,e,h1,h2⟩:=Eb c r h;exact ⟨a,vs,e,.inl (.inl h1),h2⟩
def cF {L:Yg} {H:Hp} {xs:List D} {vs:List V} {i:Int} {d:D} (r:zH L H xs vs) (h:atI xs i=some d):∃ v,atI vs i=some v/\Rep L H d v:=by
 unfold atI at h ⊢;rw[r.length];cases q:ixN xs.length i with
 |none=>rw[q]at h;cases h
 |some j=>rw[q]at h;exact r.get h
def fA {L:Yg} {H:Hp} {i:Str}:Rep L H (.str i) (.str i):=by unfold Rep;rfl
noncomputable def kIx:K2:=λx y M=>match y with
 |.dat (.int i)=>match Ai M x with
  |some xs=>match atI xs i with
   |some d=>some (.dat d,M)
   |none=>none
  |none=>match x with
   |.dat (.str z)=>if z.length<=sizeLine then match atI z.cps.toList i with
     |some c=>some (.dat (.str ⟨#[c]⟩),M)
     |none=>none
    else none
   |_=>none
 |_=>none
def V0 {K:Yb}:BE K (rIx K) kIx:=by
 intro L M M' H H0 x y d v w Q c rx ry hk q;unfold kIx at hk;split at hk
 .rename_i i;have ew:w=.int i:=by unfold zT Rep at ry;exact ry
  split at hk
  .rename_i xs e1;split at hk
   .rename_i d' e2;cases hk;obtain ⟨a,vs,rfl,hs,r⟩:=F1 c rx e1;obtain ⟨u,e3,r3⟩:=cF r e2;rcases hs with hs|hs
    .exact .inl ⟨a,vs,i,u,rfl,ew,hs,e3,q L H u (.refl L H) c r3⟩
    .exact .inr (.inl ⟨a,vs,i,u,rfl,ew,hs,e3,q L H u (.refl L H) c r3⟩)
   .cases hk
  .split at hk
   .rename_i z _;split at hk
    .rename_i hz;split at hk
     .rename_i ch e2;cases hk;have ev:v=.str z:=by unfold zT Rep at rx;exact rx
      exact .inr (.inr ⟨z,i,ch,ev,ew,hz,e2,q L H _ (.refl L H) c (fA (L:=L) (H:=H))⟩)
     .cases hk
    .cases hk
   .cases hk
 .cases hk
section
variable {prog:Ym} {w:Yo} {A:Yn} {E:Yc} {s:Yl}
def V7 {t sl:Yt} {items:Yp} {vl vu:Yu} {lo hi:Ys} {Q:Yc} (T:IsTup s.heap t items) (S:s.heap.IsSliceOf sl vl vu .none) (pl:IsPart vl lo) (pu:IsPart vu hi)
  (h1:HT.sIx items.size 0 lo=0) (h2:HT.sIx items.size items.size hi=items.size) (h:Q (.ref t) s):wpAny (model prog w) A (getItem (.ref t) (.ref sl)) Q E s:=by
 obtain ⟨o,O,C,G⟩:=id S;have TS:s.TypeIs (.ref sl) "slice" := ⟨o,O,C⟩;unfold getItem;try with_reducible refine Bw ?_
 first|refine AA (AB ?_)|skip
 refine AA (wpAny_sequenceKey T.typeIs (by decide) ?_);refine AA (CY (name:=Str.ofString "__getitem__") T.typeIs Gv (BY Gv T.typeIs entry_tuple_getitem ?_ (args_tuple_getitem _ _)));refine AA (m:=Builtin.Tuple.tupleItemsOf (.ref t)) (tupleItemsOf_ T (AA (wpAny_typeOf TS ?_)));rw[AD (by decide)];refine AA (HT.P8 S pl pu ?_);rw[h1,h2];show wpAny _ _ (if ((((0:Nat):Int)==0&&(1:Int)==1&&(items.size-0)==items.size))=true then _ else _) _ _ s;rw[AD (by simp)];unfold Builtin.Tuple.tupleIsExact;refine AA (AA (wpAny_typeOf T.typeIs (AB ?_)));rw[AD (by decide)];exact AA (Ca (AB ⟨_,rfl,AB h⟩))
end
def TF (K:Yb):V->Option Int->Option Int->Hp->VK->Prop:=λx lo hi H Q=>∃ a xs,x=.ref a/\SqT K H a xs/\(HT.sIx xs.length 0 lo=0/\HT.sIx xs.length xs.length hi=xs.length)/\Q (.ref a) H
def Su {X:Cx}:SlR X (TF X.K):=by
 intro zB s Y H x v vl vu lo hi sl Q I rx hs pl pu h;obtain ⟨a,xs,rfl,hx,hw,q⟩:=h;cases rx;obtain ⟨its,r,ht,hz⟩:=I.tuple hx;have hlen:its.toArray.size=xs.length:=by rw[AZ];exact r.length.symm
 exact ⟨"tuple", _,Gv.lookup,ht.typeIs,V7 ht hs pl pu (by rw[hlen];exact hw.1) (by rw[hlen];exact hw.2) ⟨.ref a,H,I,rfl,q⟩⟩
section
variable {X:Cx} {a b e:Expr} {es:Yi} {pos:Pos} {f g:FE}
def UE (h1:QE X a f) (h2:QE X b g) (hs:Pg b:=by intro _ _;rfl):QE X (.Subscript a b pos) (fOp kIx f g):=.mk <| PE.imp (R3 d7 h1.un h2.un hs) λ_ _ _ h=>GI V0 h
noncomputable abbrev FO:=Sd->Mem->Option (Option Int × Mem)
noncomputable def trO (K:Yb) (f:FO):TO:=λτ H Q=>∃ L Y M d M',Cor K L M H/\Ac L H Y τ/\f Y M=some (d,M') /\ ∀ L' H',Stp L H L' H'->Cor K L' M' H'->Q d H'
structure QO (X:Cx) (e:Option Expr) (f:FO):Prop where
 un:PO X e (trO X.K f)
noncomputable def DO:FO:=λ_ M=>some (none,M)
noncomputable def Cg (f:FE):FO:=λY M=>match f Y M with
 |some (.dat (.int i),M')=>some (some i,M')
 |_=>none
def PO.imp {e:Option Expr} {t t':TO} (h:PO X e t) (hi:∀ τ H Q,t' τ H Q->t τ H Q):PO X e t':=λzB s Y H Q I q=>h zB s Y H Q I (hi _ _ _ q)
def TK:QO X none DO:=.mk <| PO.imp Ze λτ H Q zz=>by
 obtain ⟨L,Y,M,d,M',c,rs,hf,q⟩:=zz;unfold DO at hf;cases hf;exact q L H (.refl L H) c
def XN (h:QE X e f):QO X (some e) (Cg f):=.mk <| PO.imp (Sx h.un) λτ H Q zz=>by
 obtain ⟨L,Y,M,d,M',c,rs,hf,q⟩:=zz;unfold Cg at hf;split at hf
 .rename_i i M1 e1;cases hf;refine (mkE c rs e1 (λL1 H1 v s1 c1 r1=>?_));exact ⟨i,by unfold zT Rep at r1;exact r1,q L1 H1 s1 c1⟩
 .cases hf
noncomputable def C2 (xs:List D) (lo hi:Ys):List D:=(xs.drop (HT.sIx xs.length 0 lo)).take (HT.sIx xs.length xs.length hi-HT.sIx xs.length 0 lo)
def Mz {L:Yg} {H:Hp} {xs:List D} {vs:List V} {lo hi:Ys} (r:zH L H xs vs):zH L H (C2 xs lo hi) (E2 vs lo hi):=by
 unfold C2 E2;rw[r.length];exact (r.drop _).take _
noncomputable def kSl (x:EV) (lo hi:Ys) (M:Mem):Option (EV × Mem):=match B7 x with
 |some xs=>some (.dat (.tup (C2 xs lo hi)),M)
 |none=>match CH M x with
  |some xs=>some (.fl (C2 xs lo hi),M)
  |none=>none
noncomputable def fSl (f:FE) (fl fh:FO):FE:=λY M=>match f Y M with
 |some (x,M1)=>match fl Y M1 with
  |some (lo,M2)=>match fh Y M2 with
   |some (hi,M3)=>kSl x lo hi M3
   |none=>none
  |none=>none
 |none=>none
def RH {lo hi:Option Expr} {p2:Pos} {fl fh:FO} (h:QE X e f) (hl:QO X lo fl) (hh:QO X hi fh):QE X (.Subscript e (.Slice lo hi none p2) pos) (fSl f fl fh) :=
 .mk <| PE.imp (YK (SlR.or dX (SlR.or YR Su)) h.un hl.un hh.un) λτ H Q zz=>by
  obtain ⟨L,Y,M,d,M',c,rs,hf,q⟩:=zz;unfold fSl at hf;split at hf
  .rename_i x M1 e1;split at hf
   .rename_i l M2 e2;split at hf
    .rename_i u M3 e3;refine ⟨L,Y,M,_,_,c,rs,e1,λL1 H1 v s1 c1 r1=>⟨L1,Y,M1,_,_,c1,rs.stp s1,e2,λL2 H2 s2 c2=>⟨L2,Y,M2,_,_,c2,rs.stp (s1.trans s2),e3,λL3 H3 s3 c3=>?_⟩⟩⟩;have s:=(s1.trans s2).trans s3;have r3:zT H L3 H3 x v:=(r1.stp s2).stp s3;unfold kSl at hf;cases t:B7 x with
     |some xs=>
      rw[t]at hf;dsimp only at hf;cases hf;obtain ⟨a,vs,rfl,e4,r4⟩:=En r3 t;by_cases hw:HT.sIx vs.length 0 l=0/\HT.sIx vs.length vs.length u=vs.length
      .refine .inr (.inr ⟨a,vs,rfl,.of e4,hw,?_⟩);have ec:C2 xs l u=xs:=by
        unfold C2;rw[<-r4.length,hw.1,hw.2,r4.length];simp
       rw[ec]at q;refine q L3 H3 _ s c3 ?_;unfold zT Rep;exact ⟨a,vs,rfl,e4,r4⟩
      .refine .inr (.inl ⟨a,vs,rfl,.of e4,hw,λp hp=>?_⟩);exact q L3 _ _ (s.trans (.upd hp)) (c3.upd hp) (Rep.newTup hp (Mz r4))
     |none=>
      rw[t]at hf;dsimp only at hf;split at hf
      .rename_i xs e4;cases hf;obtain ⟨a,vs,rfl,e5,r5⟩:=Eb c3 r3 e4;refine .inl ⟨a,vs,rfl,.inl e5,λp hp=>?_⟩;exact q L3 _ _ (s.trans (.upd hp)) (c3.upd hp) (zT.newLst s c c3 hp (Mz r5))
      .cases hf
    .cases hf
   .cases hf
  .cases hf
noncomputable abbrev KB:=List EV->Mem->Option (EV × Mem)
def Dd (K:Yb) (r:List V->Hp->VK->Prop) (k:KB):Prop:=∀ {L:Yg} {M M':Mem} {H H0:Hp} {xs:List EV} {d:EV} {vs:List V} {Q:VK},Cor K L M H->CZ H0 L H xs vs->k xs M=some (d,M') ->
 (∀ L' H' u,Stp L H L' H'->Cor K L' M' H'->zT H L' H' d u->Q u H')->r vs H Q
noncomputable def fB (k:KB) (f:FAE):FE:=λY M=>match f Y M with
 |some (xs,M1)=>k xs M1
 |none=>none
def Mq {K:Yb} {r:List V->Hp->VK->Prop} {k:KB} {f:FAE} (hk:Dd K r k) {τ:Sv} {H:Hp} {Q:VK} (h:trE K (fB k f) τ H Q):tCB r (PH K f) τ H Q:=by
 obtain ⟨L,Y,M,d,M',c,rs,hf,q⟩:=h;unfold fB at hf;split at hf
 .rename_i xs M1 e1;refine ⟨L,Y,M,_,_,c,rs,e1,λL1 H1 vs s1 c1 r1=>?_⟩;refine hk c1 r1 hf λL2 H2 u s2 c2 r2=>?_;exact q L2 H2 u (s1.trans s2) c2 (r2.back s1 c s2.sub)
 .cases hf
def CZ.one {H0:Hp} {L:Yg} {H:Hp} {x:EV} {vs:List V} (h:CZ H0 L H [x] vs):∃ v,vs=[v]/\zT H0 L H x v:=by
 obtain ⟨v,r,rfl,h1,h2⟩:=h;unfold CZ at h2;subst h2;exact ⟨v,rfl,h1⟩
noncomputable def zg:KB:=λxs M=>match xs with
 |[x]=>match Ai M x with
  |some ys=>some (.dat (.int ys.length),M)
  |none=>none
 |_=>none
def UP:Dd X.K (λxs H Q=>∃ p ys,xs=[.ref p]/\(SqL X.K H p ys\/SqT X.K H p ys)/\Q (.int ys.length) H) zg:=by
 intro L M M' H H0 xs d vs Q c r hk q;unfold zg at hk;split at hk
 .rename_i x;split at hk
  .rename_i ys e1;cases hk;obtain ⟨v,rfl,r1⟩:=r.one;obtain ⟨a,ws,rfl,hs,r2⟩:=F1 c r1 e1;refine ⟨a,ws,rfl,hs,q L H _ (.refl L H) c ?_⟩;rw[r2.length];exact (CV (L:=L) (H:=H))
  .cases hk
 .cases hk
def Gn {x:Str} {p:Pos} {id:String} {r:List V->Hp->VK->Prop} {k:KB} {f:FAE} (hk:Dd X.K r k) (hc:B9 X (.builtin id) r) (hv:bootBuiltins x=some (.builtin id)) (hg:Gl X x) (hm:X.mg x=none) (ha:QAE X (e::es) f) (hn:x ≠ "__name__" := by decide) (hdb:(x==("__debug__" : Str))=false:=by decide)
  (he:starEach (e::es) X.env=(false,eval e X.env)::starEach es X.env:=by rfl) (hpl:(backTo pos (starEach es X.env)).any (·.1)=false:=by rfl):QE X (.Call (.Name x p) (e::es) [] pos) (fB k f) :=
 .mk <| PE.imp (Og hc hg hm hv ha.un hn hdb he hpl) λ_ _ _ h=>Mq hk h
def J8 {x:Str} {p:Pos} {T:String} {r:List V->Hp->VK->Prop} {k:KB} {f:FAE} (hk:Dd X.K r k) (hc:B9 X (.type T) r) (hv:bootBuiltins x=some (.type T)) (hg:Gl X x) (hm:X.mg x=none) (ha:QAE X (e::es) f) (hn:x ≠ "__name__" := by decide) (hdb:(x==("__debug__" : Str))=false:=by decide)
  (he:starEach (e::es) X.env=(false,eval e X.env)::starEach es X.env:=by rfl) (hpl:(backTo pos (starEach es X.env)).any (·.1)=false:=by rfl):QE X (.Call (.Name x p) (e::es) [] pos) (fB k f) :=
 .mk <| PE.imp (J1 hc hg hm hv ha.un hn hdb he hpl) λ_ _ _ h=>Mq hk h
noncomputable def ze:KB:=λxs M=>match xs with
 |[x]=>match Ai M x with
  |some ys=>some (.dat (.tup ys),M)
  |none=>none
 |_=>none
def bX:Dd X.K (λxs H Q=>∃ p ys,xs=[.ref p]/\((SqL X.K H p ys /\ ∀ l,H l=none->Q (.ref l) (upd H l (.tup ys)))\/(SqT X.K H p ys/\Q (.ref p) H))) ze:=by
 intro L M M' H H0 xs d vs Q c r hk q;unfold ze at hk;split at hk
 .rename_i x;split at hk
  .rename_i ys e1;cases hk;obtain ⟨v,rfl,r1⟩:=r.one;unfold Ai at e1;cases t:B7 x with
   |some zs=>
    rw[t]at e1;cases e1;obtain ⟨a,ws,rfl,e2,r2⟩:=En r1 t;refine ⟨a,ws,rfl,.inr ⟨.of e2,q L H _ (.refl L H) c ?_⟩⟩;unfold zT Rep;exact ⟨a,ws,rfl,e2,r2⟩
   |none=>
    rw[t]at e1;obtain ⟨a,ws,rfl,e2,r2⟩:=Eb c r1 e1;refine ⟨a,ws,rfl,.inl ⟨.inl e2,λp hp=>?_⟩⟩;exact q L _ _ (.upd hp) (c.upd hp) (Rep.newTup hp r2)
  .cases hk
 .cases hk
end
set_option genInjectivity true in
inductive Out where
  |nx|ret (d:D)|brk|cnt
noncomputable abbrev FS:=Sd->Mem->Option (Out × Sd × Mem)
def UT (E:Ends) (L:Yg) (H:Hp) (Y:Sd):Out->Prop
  |.nx=>∀ τ,Ac L H Y τ->E.nx τ H
  |.ret d=>∀ v,Rep L H d v->E.rt v H
  |.brk=>∀ τ,Ac L H Y τ->E.bk τ H
  |.cnt=>∀ τ,Ac L H Y τ->E.ct τ H
noncomputable def trS (K:Yb) (f:FS):TS:=λE τ H=>∃ L Y M o Y' M',Cor K L M H/\Ac L H Y τ/\f Y M=some (o,Y',M') /\ ∀ L' H',Stp L H L' H'->Cor K L' M' H'->UT E L' H' Y' o
structure QS (X:Cx) (st:Stmt) (f:FS):Prop where
  un:PS X st (trS X.K f)
structure QSs (X:Cx) (st:Yy) (f:FS):Prop where
  un:PSs X st (trS X.K f)
def Ac.set {L:Yg} {H:Hp} {Y:Sd} {τ:Sv} {i:Nat} {d:D} {v:V} (h:Ac L H Y τ) (r:Rep L H d v):Ac L H (Y.set i (some d)) (τ.set i (some v)):=by
  refine ⟨by simp[h.1],λj e q=>?_⟩;rw[Dz]at q ⊢;split at q
  . rename_i z
    subst z;split at q
    . rename_i hl
      cases q;rw[AD rfl,AD (by rw[h.1];exact hl)];exact ⟨v,rfl,r⟩
    .cases q
  . rename_i z
    rw[AE z];exact h.2 j e q
def QP {K:Yb} {f:FE} {τ:Sv} {H:Hp} {Q:VK} (h:trD K (toD f) τ H Q):trE K f τ H Q:=by
  obtain ⟨L,Y,M,d,M',c,rs,hf,q⟩:=h;unfold toD at hf;split at hf
  . rename_i d' M1 e1
    cases hf;exact (mkE c rs e1 (λL' H' v s c' r=>q L' H' v s c' r))
  . rename_i xs M1 e1
    cases hf;refine (mkE c rs e1 (λL' H' v s c' r=>?_));obtain ⟨p,vs,rfl,e0,e2,e3,r⟩:=r;obtain ⟨c2,s2⟩:=N3 s c' e0 e2 e3 r;exact q _ H' _ s2 c2 (Rep.last c')
  .cases hf
noncomputable def An:FS:=λY M=>some (.nx,Y,M)
noncomputable def zO (f g:FS):FS:=λY M=>match f Y M with
  |some (.nx,σ1,M1)=>g σ1 M1
  |r=>r
noncomputable def sIf (c:FT) (f g:FS):FS:=λY M=>match c Y M with
  |some (true,M1)=>f Y M1
  |some (false,M1)=>g Y M1
  |none=>none
noncomputable def AO (f:FE):FS:=λY M=>match toD f Y M with
  |some (d,M1)=>some (.ret d,Y,M1)
  |none=>none
noncomputable def AQ (i:Nat) (f:FE):FS:=λY M=>match toD f Y M with
  |some (d,M1)=>some (.nx,Y.set i (some d),M1)
  |none=>none
noncomputable def Cd (f:FE):FS:=λY M=>match f Y M with
  |some (_,M1)=>some (.nx,Y,M1)
  |none=>none
section
variable {X:Cx} {st:Stmt} {rest:Yy} {e c:Expr} {pos:Pos}
def T5:QSs X [] An:=.mk <| PSs.imp XW λE τ H zz=>by
  obtain ⟨L,Y,M,o,Y',M',c,rs,hf,q⟩:=zz;unfold An at hf;cases hf;exact q L H (.refl L H) c τ rs
def dQ {f g:FS} (h1:QS X st f) (h2:QSs X rest g):QSs X (st::rest) (zO f g):=.mk <| PSs.imp (SF h1.un h2.un) λE τ H zz=>by
  obtain ⟨L,Y,M,o,Y',M',c,rs,hf,q⟩:=zz;unfold zO at hf;split at hf
  . rename_i σ1 M1 e1
    refine ⟨L,Y,M,_,_,_,c,rs,e1,λL1 H1 s1 c1 τ1 r1=>⟨L1,σ1,M1,_,_,_,c1,r1,hf,λL2 H2 s2 c2=>q L2 H2 (s1.trans s2) c2⟩⟩
  . rename_i hne
    refine ⟨L,Y,M,_,_,_,c,rs,hf,λL1 H1 s1 c1=>?_⟩;have z:=q L1 H1 s1 c1;cases o with
    |nx=>exact absurd hf (hne Y' M')
    |ret d=>exact z
    |brk=>exact z
    |cnt=>exact z
def Jg {f:FS} (h1:QS X st f):QSs X [st] f:=.mk <| PSs.imp (bP h1.un) λ_ _ _ h=>h
def Ts {a b:Yy} {fc:FT} {f g:FS} (hc:QT X c fc) (ha:QSs X a f) (hb:QSs X b g):QS X (.If c a b pos) (sIf fc f g):=.mk <| PS.imp (dM hc.un ha.un hb.un) λE τ H zz=>by
  obtain ⟨L,Y,M,o,Y',M',c,rs,hf,q⟩:=zz;unfold sIf at hf;split at hf
  . rename_i M1 e1
    refine (mkT c rs e1 (λL1 H1 s1 c1=>?_));exact FX ⟨L1,Y,M1,_,_,_,c1,rs.stp s1,hf,λL2 H2 s2 c2=>q L2 H2 (s1.trans s2) c2⟩
  . rename_i M1 e1
    refine (mkT c rs e1 (λL1 H1 s1 c1=>?_));exact Ft ⟨L1,Y,M1,_,_,_,c1,rs.stp s1,hf,λL2 H2 s2 c2=>q L2 H2 (s1.trans s2) c2⟩
  .cases hf
def Kk {f:FE} (h:QE X e f):QS X (.Return (some e) pos) (AO f):=.mk <| PS.imp (Zp (BB h).un) λE τ H zz=>by
  obtain ⟨L,Y,M,o,Y',M',c,rs,hf,q⟩:=zz;unfold AO at hf;split at hf
  . rename_i d M1 e1
    cases hf;exact (mkD c rs e1 (λL1 H1 v s1 c1 r1=>q L1 H1 s1 c1 v r1))
  .cases hf
def NA {K:Yb} {i:Nat} {f:FE} {t:TE} (ht:∀ τ H Q,trE K f τ H Q->t τ H Q) {E:Ends} {τ:Sv} {H:Hp} (h:trS K (AQ i f) E τ H):IK t (Cz i) E τ H:=by
  obtain ⟨L,Y,M,o,Y',M',c,rs,hf,q⟩:=h;unfold AQ at hf;split at hf
  . rename_i d M1 e1
    cases hf;exact ht _ _ _ (QP (mkD c rs e1 (λL1 H1 v s1 c1 r1=>q L1 H1 s1 c1 _ ((rs.stp s1).set r1))))
  .cases hf
def VQ {i:Nat} {x:Str} {f:FE} {pos':Pos} (hN:X.N.Nodup) (hi:X.N[i]?=some x) (hx:Loc X.env.scope x) (h:QE X e f) (hs:swapsWith e (some (.Name x pos')) pos.line X.env=pure false:=by rfl)
    (hf:X.fn x=true\/X.env.scope.names.lookup x=some .local:=by first|exact .inl rfl|exact .inr rfl|assumption):QS X (.Assign [.Name x pos'] e pos) (AQ i f) := 
  .mk <| PS.imp (Us hN hi hx h.un hs hf) λ_ _ _ z=>NA (λ_ _ _ z=>z) z
def Q5 {f:FE} (h:QE X e f) (hs:swapsWith e none pos.line X.env=pure false:=by rfl):QS X (.Expr e pos) (Cd f):=.mk <| PS.imp (RB h.un hs) λE τ H zz=>by
  obtain ⟨L,Y,M,o,Y',M',c,rs,hf,q⟩:=zz;unfold Cd at hf;split at hf
  . rename_i d M1 e1
    cases hf;exact (mkE c rs e1 (λL1 H1 v s1 c1 r1=>q L1 H1 s1 c1 τ (rs.stp s1)))
  .cases hf
noncomputable abbrev FG:=D->Sd->Option Sd
def GOk (g:TG) (fg:FG):Prop:=∀ {L:Yg} {H:Hp} {Y Y':Sd} {τ:Sv} {d:D} {v:V} {Q:Sv->Hp->Prop},Ac L H Y τ->Rep L H d v->fg d Y=some Y'->(∀ τ',Ac L H Y' τ'->Q τ' H)->g v τ H Q
noncomputable def gN (i:Nat):FG:=λd Y=>some (Y.set i (some d))
def aI {i:Nat}:GOk (Cz i) (gN i):=by
  intro L H Y Y' τ d v Q rs r hf q;unfold gN at hf;cases hf;exact q _ (rs.set r)
noncomputable abbrev FI:=Sd->Mem->Option (List D × Option (Mem->Prop) × Mem)
def DN (g:Option (Mem->Prop)) (xs:List D) (M:Mem):Prop:=match g with
  |none=>True
  |some p=>p M
def LU (K:Yb) (J:It) (L:Yg) (H:Hp) (xs:List D) (g:Option (Mem->Prop)):Prop:=∀ L' H' M',Stp L H L' H'->Cor K L' M' H'->DN g xs M' ->
  (∀ (i:Nat) d,xs[i]?=some d->J.go i H' /\ ∀ v H'',J.yld i H' v H''->(∀ a o,H' a=some o->H'' a=some o)/\Rep L' H'' d v)/\J.stop xs.length H'
noncomputable def trI (K:Yb) (f:FI):TI:=λτ H R=>∃ L Y M xs g M',Cor K L M H/\Ac L H Y τ/\f Y M=some (xs,g,M') /\ ∀ L' H' J,Stp L H L' H'->Cor K L' M' H'->LU K J L' H' xs g->R J H'
def mkI {K:Yb} {f:FI} {τ:Sv} {H:Hp} {R} {Y:Sd} {M M':Mem} {xs g} (c:Cor K L M H) (r:Ac L H Y τ) (e:f Y M=some (xs,g,M')) (q:∀ L' H' J,Stp L H L' H'->Cor K L' M' H'->LU K J L' H' xs g->R J H'):trI K f τ H R:=⟨_,_,_,_,_,_,c,r,e,q⟩
structure QI (X:Cx) (tg e:Expr) (f:FI):Prop where
  un:PI X tg e (trI X.K f)
def PI.imp {tg e:Expr} {t t':TI} (h:PI X tg e t) (hi:∀ τ H R,t' τ H R->t τ H R):PI X tg e t':=λzB s Y H R I q=>h zB s Y H R I (hi _ _ _ q)
noncomputable def Dl (g:FG) (b:FS) (all:List D) (gd:Option (Mem->Prop)):List D->Sd->Mem->Option (Out × Sd × Mem)
  |[],Y,M=>open Classical in if DN gd all M then some (.nx,Y,M) else none
  |x::r,Y,M=>open Classical in if DN gd all M then match g x Y with
      |some σ1=>match b σ1 M with
        |some (.nx,σ2,M2)=>Dl g b all gd r σ2 M2
        |some (.cnt,σ2,M2)=>Dl g b all gd r σ2 M2
        |some (.brk,σ2,M2)=>some (.nx,σ2,M2)
        |some (.ret d,σ2,M2)=>some (.ret d,σ2,M2)
        |none=>none
      |none=>none
    else none
noncomputable def Ao (fi:FI) (g:FG) (b:FS):FS:=λY M=>match fi Y M with
  |some (xs,gd,M1)=>Dl g b xs gd xs Y M1
  |none=>none
def KC {α:Type} {xs:List α} {i:Nat} (h:i<xs.length):xs.drop i=xs[i]::xs.drop (i+1):=List.drop_eq_getElem_cons h
def Stp.yld {L L':Yg} {H H' H'':Hp} (s:Stp L H L' H') (h:∀ a o,H' a=some o->H'' a=some o):Stp L H L' H'':=s.trans (.grow h)
set_option genInjectivity true in
inductive FW (K:Yb) (fg:FG) (b:FS) (xs:List D) (gd:Option (Mem->Prop)) (r:Option (Out × Sd × Mem)) (L1:Yg) (H1:Hp):Nat->Nat->Sv->Hp->Prop
  |mk {i:Nat} {τ':Sv} {H':Hp} {L':Yg} {Y':Sd} {M':Mem}:i<=xs.length->Stp L1 H1 L' H'->Cor K L' M' H'->Ac L' H' Y' τ'->Dl fg b xs gd (xs.drop i) Y' M'=r->FW K fg b xs gd r L1 H1 i (xs.length-i) τ' H'
def bE {K:Yb} {fi:FI} {g:TG} {fg:FG} {b:FS} (hg:GOk g fg) {E:Ends} {τ:Sv} {H:Hp} (h:trS K (Ao fi fg b) E τ H):Qd (trI K fi) g (trS K b) E τ H:=by
  obtain ⟨L,Y,M,o,σf,Mf,c,rs,hf,q⟩:=h;unfold Ao at hf;split at hf
  . rename_i xs gd M1 e1
    refine (mkI c rs e1 (λL1 H1 J s1 c1 it=>?_));refine ⟨FW K fg b xs gd (some (o,σf,Mf)) L1 H1,⟨_,.mk (Bz _) (.refl _ _) c1 (rs.stp s1) (by simpa using hf)⟩,?_⟩;rintro i m τ' H' ⟨hi,s',c',rs',e'⟩;rename_i L' Y' M';by_cases hlt:i<xs.length
    . rw[KC hlt]at e'
      unfold Dl at e';split at e'
      . rename_i hgd
        obtain ⟨step,_⟩:=it L' H' M' s' c' hgd;obtain ⟨go,yl⟩:=step i xs[i] (AJ hlt);cases eg:fg xs[i] Y' with
        |none=>rw[eg]at e';cases e'
        |some σ1=>
          rw[eg]at e';dsimp only at e';refine .inr ⟨go,FW K fg b xs gd (some (o,σf,Mf)) L1 H1 (i+1) (xs.length-(i+1)),λτ2 H2 a=>⟨xs.length-(i+1),by omega,a⟩,λv H2 hy=>?_⟩;obtain ⟨gr,rv⟩:=yl v H2 hy;refine hg (Ac.stp (.grow gr) rs') rv eg λτ2 r2=>?_;cases eb:b σ1 M' with
          |none=>rw[eb]at e';cases e'
          |some r=>
            obtain ⟨o2,σ2,M2⟩:=r;rw[eb]at e';refine ⟨L',σ1,M',_,_,_,c'.grow gr,r2,eb,λL3 H3 s3 c3=>?_⟩;have s13:Stp L1 H1 L3 H3:=(s'.yld gr).trans s3;cases o2 with
            |nx=>exact λτ3 r3=> .mk hlt s13 c3 r3 e'
            |cnt=>exact λτ3 r3=> .mk hlt s13 c3 r3 e'
            |brk=>cases e';exact q L3 H3 (s1.trans s13) c3
            |ret d=>cases e';exact q L3 H3 (s1.trans s13) c3
      .cases e'
    . have hi':i=xs.length:=by omega
      subst hi';rw[List.drop_length]at e';unfold Dl at e';split at e'
      . rename_i hgd
        cases e';obtain ⟨_,stop⟩:=it L' H' _ s' c' hgd;exact .inl ⟨stop,q L' H' (s1.trans s') c' τ' rs'⟩
      .cases e'
  .cases hf
def Np {tg iter:Expr} {body:Yy} {fi:FI} {g:TG} {fg:FG} {b:FS} (hg:GOk g fg) (hp:PassesOwn (model X.prog X.w) X.A X.env X.xe) (hc:X.calm=true) (hi:QI X tg iter fi) (ht:PG X tg g) (hb:QSs X body b)
    (hs:∀ x,foldedSetIterable iter X.env x=pure x:=by intro _;rfl):QS X (.For tg iter body [] pos) (Ao fi fg b):=.mk <| PS.imp (aH hp hc hi.un ht hb.un hs) λ_ _ _ h=>bE hg h
end
section
variable {X:Cx} {e c iter tg elt:Expr} {pos:Pos} {scope:Y0} {ifs:Yi}
noncomputable def Cs (c:FT) (b:FS):Nat->Sd->Mem->Option (Out × Sd × Mem)
  |0,_,_=>none
  |n+1,Y,M=>match c Y M with
    |some (true,M1)=>match b Y M1 with
      |some (.nx,σ2,M2)=>Cs c b n σ2 M2
      |some (.cnt,σ2,M2)=>Cs c b n σ2 M2
      |some (.brk,σ2,M2)=>some (.nx,σ2,M2)
      |some (.ret d,σ2,M2)=>some (.ret d,σ2,M2)
      |none=>none
    |some (false,M1)=>some (.nx,Y,M1)
    |none=>none
def TL {K:Yb} {fc:FT} {b:FS} {n:Nat} {E:Ends} {τ:Sv} {H:Hp} (h:trS K (Cs fc b n) E τ H):Oi (trT K fc) (trS K b) E τ H:=by
  obtain ⟨L,Y,M,o,σf,Mf,c,rs,hf,q⟩:=h;refine ⟨λm τ' H'=>∃ L' Y' M',Stp L H L' H'/\Cor K L' M' H'/\Ac L' H' Y' τ'/\Cs fc b m Y' M'=some (o,σf,Mf),⟨n,L,Y,M,.refl _ _,c,rs,hf⟩,?_⟩;rintro m τ' H' ⟨L',Y',M',s',c',rs',e'⟩;cases m with
  |zero=>unfold Cs at e';cases e'
  |succ m=>
    unfold Cs at e';split at e'
    . rename_i M1 e1
      refine (mkT c' rs' e1 (λL1 H1 s1 c1=>FX ?_));refine ⟨λτ2 H2=>∃ L2 σ2 M2,Stp L H L2 H2/\Cor K L2 M2 H2/\Ac L2 H2 σ2 τ2/\Cs fc b m σ2 M2=some (o,σf,Mf),λτ2 H2 h2=>⟨m,Dx m,h2⟩,?_⟩;cases eb:b Y' M1 with
      |none=>rw[eb]at e';cases e'
      |some r=>
        obtain ⟨o2,σ2,M2⟩:=r;rw[eb]at e';refine ⟨L1,Y',M1,_,_,_,c1,rs'.stp s1,eb,λL3 H3 s3 c3=>?_⟩;have s13:Stp L H L3 H3:=(s'.trans s1).trans s3;cases o2 with
        |nx=>exact λτ3 r3=>⟨L3,σ2,M2,s13,c3,r3,e'⟩
        |cnt=>exact λτ3 r3=>⟨L3,σ2,M2,s13,c3,r3,e'⟩
        |brk=>cases e';exact q L3 H3 s13 c3
        |ret d=>cases e';exact q L3 H3 s13 c3
    . rename_i M1 e1
      cases e';exact ⟨L',_,M',_,_,c',rs',e1,λL1 H1 s1 c1=>Ft (q L1 H1 (s'.trans s1) c1 τ' (rs'.stp s1))⟩
    .cases e'
def U8 {body:Yy} {fc:FT} {b:FS} (n:Nat) (hp:PassesOwn (model X.prog X.w) X.A X.env X.xe) (hc:QT X c fc) (hb:QSs X body b):QS X (.While c body [] pos) (Cs fc b n) := 
  .mk <| PS.imp (SH hp hc.un hb.un) λ_ _ _ h=>TL h
noncomputable def Bp (own:Yj) (Y:Sd):Sd:=own.foldl (λY i=>Y.set i none) Y
theorem Jl {L:Yg} {H:Hp}:∀ (own:Yj) {Y:Sd} {τ:Sv},Ac L H Y τ->Ac L H (Bp own Y) (clr own τ)
  |[],_,_,h=>h
  |i::r,Y,τ,h=>by
    refine Jl r (Y:=Y.set i none) (τ:=τ.set i none) ⟨by simp[h.1],λj d q=>?_⟩;rw[Dz]at q ⊢;split at q
    .split at q <;> cases q
    . rename_i z
      rw[AE z];exact h.2 j d q
noncomputable def CL (g:FG) (tc:FT) (te:FE) (Y:Sd) (all:List D) (gd:Option (Mem->Prop)):List D->Mem->Option (List D × Mem)
  |[],M=>open Classical in if DN gd all M then some ([],M) else none
  |x::r,M=>open Classical in if DN gd all M then match g x Y with
      |some σ1=>match tc σ1 M with
        |some (true,M1)=>match toD te σ1 M1 with
          |some (d,M2)=>match CL g tc te Y all gd r M2 with
            |some (ds,M3)=>some (d::ds,M3)
            |none=>none
          |none=>none
        |some (false,M1)=>CL g tc te Y all gd r M1
        |none=>none
      |none=>none
    else none
noncomputable def zj (own:Yj) (fi:FI) (g:FG) (tc:FT) (te:FE):FE:=λY M=>match fi Y M with
  |some (xs,gd,M1)=>if xs.length<=sizeLine then match CL g tc te (Bp own Y) xs gd xs M1 with
      |some (ys,M2)=>some (.fl ys,M2)
      |none=>none
    else none
  |none=>none
/-- what a target of a comprehension does: it sets names of its own -/
def Fl (own:Yj) (g:TG) (fg:FG):Prop:=∀ {L:Yg} {H:Hp} {Y Y':Sd} {τ τ0:Sv} {d:D} {v:V} {Q:Sv->Hp->Prop},Ac L H Y τ->Ext (clr own τ0) τ->Rep L H d v->fg d Y=some Y'->(∀ τ',Ac L H Y' τ'->Ext (clr own τ0) τ'->Q τ' H)->g v τ H Q
def Iz {own:Yj} {i:Nat} (hi:i∈own):Fl own (Cz i) (gN i):=by
  intro L H Y Y' τ τ0 d v Q rs ex r hf q;unfold gN at hf;cases hf;exact q _ (rs.set r) (ex.set hi)
set_option genInjectivity true in
inductive CW (K:Yb) (fg:FG) (tc:FT) (te:FE) (σ0:Sd) (xs:List D) (gd:Option (Mem->Prop)) (Mf:Mem) (zs:List D) (L1:Yg) (H1:Hp):Nat->Nat->List V->Hp->Prop
  |mk {i:Nat} {ys:List V} {H':Hp} {L':Yg} {M':Mem} {as bs:List D}:i<=xs.length->Stp L1 H1 L' H'->Cor K L' M' H'->zH L' H' as ys->as.length<=i->CL fg tc te σ0 xs gd (xs.drop i) M'=some (bs,Mf)->as++bs=zs->CW K fg tc te σ0 xs gd Mf zs L1 H1 i (xs.length-i) ys H'
def OY {K:Yb} {own:Yj} {fi:FI} {g:TG} {fg:FG} {tc:FT} {te:FE} (hg:Fl own g fg) {τ:Sv} {H:Hp} {Q:VK} (h:trE K (zj own fi fg tc te) τ H Q):KU own (trI K fi) g (trT K tc) (trD K (toD te)) τ H Q:=by
  obtain ⟨L,Y,M,d,Mf,c,rs,hf,q⟩:=h;unfold zj at hf;split at hf
  . rename_i xs gd M1 e1
    split at hf
    . rename_i hz
      split at hf
      . rename_i zs M2 e2
        cases hf;refine (mkI c rs e1 (λL1 H1 J s1 c1 it=>?_));refine ⟨CW K fg tc te (Bp own Y) xs gd Mf zs L1 H1,⟨_,.mk (Bz _) (.refl _ _) c1 .nil (AF _) (by simpa using e2) rfl⟩,?_⟩;rintro i m ys H' ⟨hi,s',c',r',hl,e',hab⟩;rename_i L' M' as bs;have hys:ys.length<=i:=by rw[r'.length];exact hl
        by_cases hlt:i<xs.length
        . rw[KC hlt]at e'
          unfold CL at e';split at e'
          . rename_i hgd
            obtain ⟨step,_⟩:=it L' H' M' s' c' hgd;obtain ⟨go,yl⟩:=step i xs[i] (AJ hlt);split at e'
            . rename_i σ1 eg
              refine .inr ⟨go,λv H2 hy=>?_⟩;obtain ⟨gr,rv⟩:=yl v H2 hy;have s2:Stp L1 H1 L' H2:=s'.yld gr;refine hg (Jl own ((rs.stp s1).stp s2)) (.refl _) rv eg λτ2 r2 x2=>⟨x2,?_⟩;split at e'
              . rename_i M3 e3
                split at e'
                . rename_i d M4 e4
                  split at e'
                  . rename_i ds M5 e5
                    cases e';refine (mkT (c'.grow gr) r2 e3 (λL3 H3 s3 c3=>FX ?_));refine (mkD c3 (r2.stp s3) e4 (λL4 H4 w s4 c4 r4=>?_));have st:Stp L' H' L4 H4:=((Stp.grow gr).trans s3).trans s4;refine ⟨Nat.lt_of_le_of_lt hys (Az hlt hz),xs.length-(i+1),by omega,.mk (as:=as++[d]) hlt (s'.trans st) c4 ((r'.stp st).app (.cons r4 .nil)) (by simp;omega) e5 (by rw[<-hab];simp)⟩
                  .cases e'
                .cases e'
              . rename_i M3 e3
                refine (mkT (c'.grow gr) r2 e3 (λL3 H3 s3 c3=>Ft ?_));have st:Stp L' H' L3 H3:=(Stp.grow gr).trans s3;exact ⟨xs.length-(i+1),by omega,.mk hlt (s'.trans st) c3 (r'.stp st) (by omega) e' hab⟩
              .cases e'
            .cases e'
          .cases e'
        . have hi':i=xs.length:=by omega
          subst hi';rw[List.drop_length]at e';unfold CL at e';split at e'
          . rename_i hgd
            cases e';obtain ⟨_,stop⟩:=it L' H' _ s' c' hgd;refine .inl ⟨stop,Ak hys hz,λp hp=>?_⟩;rw[CG]at hab;subst hab;exact q L' _ _ ((s1.trans s').trans (.upd hp)) (c'.upd hp) (zT.newLst (s1.trans s') c c' hp r')
          .cases e'
      .cases hf
    .cases hf
  .cases hf
structure QIfs (X:Cx) (ifs:Yi) (f:FT):Prop where
  un:G8 X ifs (trT X.K f)
noncomputable def zu:FT:=λ_ M=>some (true,M)
def U0:QIfs X [] zu:=.mk λzB s Y H Q I h=>by
  obtain ⟨L,Y',M,d,M',c,rs,hf,q⟩:=h;unfold zu at hf;cases hf;exact SA zB s Y H Q I (q L H (.refl L H) c)
def Wk {f:FT} (h:QT X c f):QIfs X [c] f:=.mk (Rz h.un)
/-- the parts of a comprehension in its block -/
structure QParts (X:Cx) (scope:Y0) (tg:Expr) (ifs:Yi) (elt:Expr) (g:TG) (tc:FT) (te:FE):Prop where
  g:∀ zB cl s H fp,PG (zo X zB scope cl s H fp) tg g
  c:∀ zB cl s H fp,QIfs (zo X zB scope cl s H fp) ifs tc
  e:∀ zB cl s H fp,QE (zo X zB scope cl s H fp) elt te
def QParts.parts {g:TG} {tc:FT} {te:FE} (p:QParts X scope tg ifs elt g tc te):CompParts X scope tg ifs elt g (trT X.K tc) (trD X.K (toD te)) :=
  ⟨p.g,λzB cl s H fp=>(p.c zB cl s H fp).un,λzB cl s H fp=>(BB (p.e zB cl s H fp)).un⟩
def Lf {own:Yj} {fi:FI} {g:TG} {fg:FG} {tc:FT} {te:FE} (hg:Fl own g fg) (C:CompIn X scope own) (hcalm:X.calm=true) (hi:QI X tg iter fi) (p:QParts X scope tg ifs elt g tc te) (hs:∀ x,foldedSetIterable iter X.env x=pure x:=by intro _;rfl) :
    QE X (.ListComp elt [⟨tg,iter,ifs,0⟩] scope pos) (zj own fi fg tc te):=.mk <| PE.imp (U6 C hcalm hi.un p.parts hs) λ_ _ _ h=>OY hg h
def Uw {i:Nat} {x:Str} {pos' pos'':Pos} {own:Yj} {fi:FI} {g:TG} {fg:FG} {tc:FT} {te:FE} (hN:X.N.Nodup) (hi':X.N[i]?=some x) (hx:Loc X.env.scope x) (hfn:X.fn x=true\/X.env.scope.names.lookup x=some .local)
    (hsw:swapsWith (.ListComp elt [⟨tg,iter,ifs,0⟩] scope pos) (some (.Name x pos')) pos''.line X.env=pure true)
    (hg:Fl own g fg) (C:CompIn X scope own) (hcalm:X.calm=true) (hi:QI X tg iter fi) (p:QParts X scope tg ifs elt g tc te) (hs:∀ x,foldedSetIterable iter X.env x=pure x:=by intro _;rfl) :
    QS X (.Assign [.Name x pos'] (.ListComp elt [⟨tg,iter,ifs,0⟩] scope pos) pos'') (AQ i (zj own fi fg tc te)) := 
  .mk <| PS.imp (Q8 hN hi' hx hfn C hcalm hi.un p.parts hsw hs) λ_ _ _ z=>NA (λ_ _ _ z=>OY hg z) z
end
noncomputable abbrev FF:=List D->Mem->Option (D × Mem)
noncomputable def spF (K:Yb) (n:Nat) (g:FF):Sp:=λvs H Q _=>∃ L ds M d M',Cor K L M H/\zH L H ds vs/\ds.length=n/\g ds M=some (d,M') /\ ∀ L' H' v,Stp L H L' H'->Cor K L' M' H'->Rep L' H' d v->Q v H'
noncomputable def zW (g:FF) (fa:FA):FE:=λY M=>match fa Y M with
 |some (ds,M1)=>match g ds M1 with
  |some (d,M2)=>some (.dat d,M2)
  |none=>none
 |none=>none
section
variable {X:Cx} {e:Expr} {es:Yi} {pos p:Pos} {x:Str} {k:Nat} {f:Yt} {fd:Yz} {ps:Yk}
def SG (F:FnOk X.prog X.w X.K X.mg X.base CX0 k f fd ps (spF X.K (e::es).length g)) (hr:Room k X.A) (hg:Gl X x) (hm:X.mg x=some (.ref f)) (hk:PySem.W.keepIn X.K (.ref f)=true) (hb:D3 X.K fd ps [])
  (ha:QA X (e::es) fa) (hl:∀ Y M ds M1,fa Y M=some (ds,M1)->ds.length=(e::es).length) (hdb:(x==("__debug__" : Str))=false:=by decide) (he:starEach (e::es) X.env=(false,eval e X.env)::starEach es X.env:=by rfl) (hpl:(backTo pos (starEach es X.env)).any (·.1)=false:=by rfl) :
  QE X (.Call (.Name x p) (e::es) [] pos) (zW g fa) :=
 .mk <| PE.imp (Si F hr hg hm hk hb .nil Nt ha.un hdb he hpl) λτ H Q zz=>by
  obtain ⟨L,Y,M,d,M',c,rs,hf,q⟩:=zz;unfold zW at hf;split at hf
  .rename_i ds M1 e1;split at hf
   .rename_i d' M2 e2;cases hf;refine ⟨L,Y,M,_,_,c,rs,e1,λL1 H1 vs s1 c1 r1=>?_⟩;dsimp only;rw[CG];exact ⟨L1,ds,M1,d',_,c1,r1,hl _ _ _ _ e1,e2,λL2 H2 v s2 c2 r2=>q L2 H2 v (s1.trans s2) c2 r2⟩
   .cases hf
  .cases hf
def Fw (fa:FA) (n:Nat):Prop:=∀ Y M ds M1,fa Y M=some (ds,M1)->ds.length=n
def G1:Fw zL 0:=λY M ds M1 h=>by unfold zL at h;cases h;rfl
def FP {f:FD} {g:FA} {n:Nat} (h:Fw g n):Fw (zD f g) (n+1):=λY M ds M1 q=>by
 unfold zD at q;split at q
 .split at q
  .rename_i e2;cases q;simp[h _ _ _ _ e2]
  .cases q
 .cases q
noncomputable def Ax (n:Nat) (b:FS):FF:=λds M=>match b (ds.map some++List.replicate (n-ds.length) none) M with
 |some (.ret d,_,M')=>some (d,M')
 |some (.nx,_,M')=>some (.non,M')
 |_=>none
def ID:∀ {ds:List D} {vs:List V},zH L H ds vs->Ac L H (ds.map some++List.replicate (N.length-ds.length) none) (L2.D0 N vs):=λ{ds vs} r=>by
 unfold L2.D0;have hl:=r.length;refine ⟨by simp[hl],λi d q=>?_⟩;by_cases hi:i<ds.length
 .rw[Ag (by simpa using hi),AR]at q;rw[Ag (by simpa [hl] using hi),AR];cases e1:ds[i]? with
  |none=>rw[e1]at q;cases q
  |some d'=>
   rw[e1]at q;cases q;obtain ⟨v,e2,r2⟩:=r.get e1;exact ⟨v,by rw[e2];rfl,r2⟩
 .rw[Cn (by simpa using hi),List.getElem?_replicate]at q;split at q <;> cases q
def B4 {P:Ym} {w:Yo} {K:Yb} {mg:Yh} {base:Heap} {qual:Str} {st:Stmt} {N:Yk} {b:FS} {n:Nat} (F:Fun K x qual st f fd) (S:FnScope N ps (zN st)) (hn:ps.length=n)
  (hb:∀ (cdv:Yu) (A:Yn) (outer:List Env) (s:Yl) (H:Hp) (E:XK),Room k (A.deeper (envOfC qual (zN st) s.heap.objs.size f cdv))->QSs (FK CX0 P w K mg base N qual (zN st) f cdv A outer s H E).nox (Dw st) b) :
  FnOk P w K mg base CX0 (k+1) f fd ps (spF K n (Ax N.length b)):=by
 refine F.ok S (λvs H Q E h=>?_) (λcdv A outer s H vs Q E hr h=>⟨_,(hb cdv A outer s H E hr).un,?_⟩)
 .obtain ⟨L,ds,M,d,M',c,r,hl,_⟩:=h;rw[r.length,hl,hn]
 .obtain ⟨L,ds,M,d,M',c,r,hl,hf,q⟩:=h;unfold Ax at hf;split at hf
  .rename_i d' Y' M1 e1;cases hf;exact ⟨L,_,M,_,_,_,c,ID r,e1,λL1 H1 s1 c1 v r1=>q L1 H1 v s1 c1 r1⟩
  .rename_i Y' M1 e1;cases hf;exact ⟨L,_,M,_,_,_,c,ID r,e1,λL1 H1 s1 c1 τ' r1=>q L1 H1 .non s1 c1 (by unfold Rep;rfl)⟩
  .cases hf
mutual
noncomputable def D.und (n:Nat):D->Bool
 |.tup ds=>D.unds n ds
 |.ref k=>decide (k<n)
 |.fn _ ds=>D.unds n ds
 |_=>true
noncomputable def D.unds (n:Nat):List D->Bool
 |[]=>true
 |d::ds=>D.und n d&&D.unds n ds
end
mutual
theorem Rep.less:∀ {d:D} {v:V},D.und L.length d=true->Rep (L++N) H d v->Rep L H d v
 |.non,_,_,h=>by unfold Rep at h ⊢;exact h
 |.bl _,_,_,h=>by unfold Rep at h ⊢;exact h
 |.int _,_,_,h=>by unfold Rep at h ⊢;exact h
 |.str _,_,_,h=>by unfold Rep at h ⊢;exact h
 |.tup ds,_,hb,h=>by
  unfold D.und at hb;unfold Rep at h ⊢;obtain ⟨a,vs,rfl,e,r⟩:=h;exact ⟨a,vs,rfl,e,zH.less hb r⟩
 |.ref n,_,hb,h=>by
  unfold D.und at hb;unfold Rep at h ⊢;obtain ⟨a,rfl,e⟩:=h;exact ⟨a,rfl,by rwa [Ag (Bv hb)]at e⟩
 |.fn _ ds,_,hb,h=>by
  unfold D.und at hb;unfold Rep at h ⊢;exact ⟨h.1,h.2.1,zH.less hb h.2.2⟩
theorem zH.less:∀ {ds:List D} {vs:List V},D.unds L.length ds=true->zH (L++N) H ds vs->zH L H ds vs
 |[],_,_,h=>by unfold zH at h ⊢;exact h
 |d::ds,_,hb,h=>by
  unfold D.unds at hb;rw[Ap]at hb;unfold zH at h ⊢;obtain ⟨v,r,rfl,h1,h2⟩:=h;exact ⟨v,r,rfl,Rep.less hb.1 h1,zH.less hb.2 h2⟩
end
def AM.less {κ:Type} {kf:D->Option κ} {L N:Yg} {H:Hp}:∀ {ps:List (D × D)} {vs:List (κ × V)},(ps.all λp=>D.und L.length p.1&&D.und L.length p.2)=true->AM kf (L++N) H ps vs->AM kf L H ps vs
 |[],_,_,h=>h
 |p::r,_,hb,h=>by
  rw[List.all_cons,Ap,Ap]at hb;obtain ⟨k,v,r',rfl,e,h1,h2⟩:=h;exact ⟨k,v,r',rfl,e,Rep.less hb.1.2 h1,AM.less hb.2 h2⟩
noncomputable def MO.und (n:Nat):MO->Bool
 |.lst xs=>D.unds n xs
 |.fro xs=>D.unds n xs
 |.dict kvs=>kvs.all λp=>D.und n p.1&&D.und n p.2
 |.dicT kvs=>kvs.all λp=>D.und n p.1&&D.und n p.2
 |.set xs=>D.unds n xs
 |.froT kvs=>kvs.all λp=>D.und n p.1&&D.und n p.2
 |.froK kvs=>kvs.all λp=>D.und n p.1&&D.und n p.2
noncomputable def EW (g:FF):FF:=λds M=>match g ds M with
 |some (d,M')=>if D.und M.length d&&(M'.take M.length).all (MO.und M.length)&&decide (M.length<=M'.length) then some (d,M'.take M.length) else none
 |none=>none
def IM {P:Ym} {w:Yo} {K:Yb} {mg:Yh} {base:Heap} {n:Nat} {g:FF} (h:FnOk P w K mg base CX0 k f fd ps (spF K n g)):FnOk P w K mg base CX0 k f fd ps (spF K n (EW g)) :=
 h.imp λvs H Q E ⟨L,ds,M,d,M',c,r,hl,hf,q⟩=>by
  unfold EW at hf;split at hf
  .rename_i d' M1 e1;split at hf
   .rename_i hb;cases hf;simp only[Ap,EA,Ab]at hb;obtain ⟨⟨hb1,hb2⟩,hb3⟩:=hb;refine ⟨L,ds,M,_,_,c,r,hl,e1,λL1 H1 v s1 c1 r1=>?_⟩;obtain ⟨N,rfl⟩:=s1.pre;rw[<-c.len]at hb1 hb2 hb3;refine q L H1 v ⟨⟨[],by simp⟩,λa ha=> .inl ha,s1.old,s1.tup,s1.frz,s1.tbl⟩ ⟨?_,?_,λi a m e2 e3=>?_,c1.tab⟩ (Rep.less hb1 r1)
    .rw[BN,<-c.len];omega
    .exact (Dm.mp c1.nd).1
    .rw[<-c.len]at e3;have hi:i<L.length:=(AK.mp e2).1;have hm:m∈M1.take L.length:=Ba e3;rw[Gj hi]at e3;have z:=c1.obj i a m (F8 e2) e3;have bl:=hb2 m hm;cases m with
     |lst xs=>obtain ⟨ws,e4,r4⟩:=z;exact ⟨ws,e4,zH.less bl r4⟩
     |fro xs=>obtain ⟨o,ws,e4,r4⟩:=z;exact ⟨o,ws,e4,zH.less bl r4⟩
     |dict ps=>obtain ⟨vs,e,r⟩:=z;exact ⟨vs,e,AM.less bl r⟩
     |dicT ps=>obtain ⟨vs,e,r⟩:=z;exact ⟨vs,e,AM.less bl r⟩
     |set _=>exact z
     |froT ps=>obtain ⟨o,vs,e,r⟩:=z;exact ⟨o,vs,e,AM.less bl r⟩
     |froK ps=>obtain ⟨o,vs,e,r⟩:=z;exact ⟨o,vs,e,AM.less bl r⟩
   .cases hf
  .cases hf
noncomputable def Dh (g:FF):FF:=λds M=>if D.unds 0 ds then match g ds [] with
  |some (d,_)=>if D.und 0 d then some (d,M) else none
  |none=>none
 else none
def FQ {P:Ym} {w:Yo} {K:Yb} {mg:Yh} {base:Heap} {n:Nat} {g:FF} (h:FnOk P w K mg base CX0 k f fd ps (spF K n g)):FnOk P w K mg base CX0 k f fd ps (spF K n (Dh g)) :=
 h.imp λvs H Q E ⟨L,ds,M,d,M',c,r,hl,hf,q⟩=>by
  unfold Dh at hf;split at hf
  .rename_i hb0;split at hf
   .rename_i d' M1 e1;split at hf
    .rename_i hb;cases hf;refine ⟨[],ds,[],_,_,⟨rfl,.nil,λi a m e=>by simp at e,c.tab⟩,zH.less (L:=[]) (N:=L) hb0 (by simpa using r),hl,e1,λL1 H1 v s1 c1 r1=>?_⟩;exact q L H1 v s1.bare (c.bare s1) ((Rep.less (L:=[]) (N:=L1) hb (by simpa using r1)).more L |> λz=>by simpa using z)
    .cases hf
   .cases hf
  .cases hf
def Sj (hl:PE X l tl):PI X tg l (λY H R=>tl Y H λx H1=>∃ a,x=.ref a/\((∃ xs,SqL X.K H1 a xs)/\R (Itl X.K a) H1\/(∃ xs,SqT X.K H1 a xs)/\R (Itt X.K a) H1)):=by
 intro zB s Y H R I h;refine thn (hl zB s Y H _ I h) λv s1 ⟨y,H1,I1,r1,a,hy,h1⟩=>?_;subst hy;cases r1;have fpk:∀ b∈[s1.heap.objs.size],B0 X zB H1 b:=λb hb=>by
  have e:b=s1.heap.objs.size:=by simpa using hb
  subst e;exact I1.fpOk (AF _) (I1.hok.fresh (AF _))
 rcases h1 with ⟨⟨xs,hq⟩,q⟩|⟨⟨xs,hq⟩,q⟩
 .obtain ⟨its,rv,pl,hz⟩:=I1.list hq;exact wpAny_pyIter_list pl.isList ⟨s1.heap.objs.size,[s1.heap.objs.size],_,_,H1,rfl,I1.kept (t':=s1.toks) λb o e=>AH _ e,Te a _,⟨_,AN _ rfl,rfl,rfl⟩,fpk,q⟩
 .obtain ⟨its,rv,pl,hz⟩:=I1.tuple hq;exact wpAny_pyIter_tuple (show s1.heap.IsTuple a its.toArray from pl) ⟨s1.heap.objs.size,[s1.heap.objs.size],_,_,H1,rfl,I1.kept (t':=s1.toks) λb o e=>AH _ e,eM a _,⟨_,AN _ rfl,rfl,rfl⟩,fpk,q⟩
noncomputable def HM (x:EV) (xs:List D):Option (Mem->Prop):=match x with
 |.dat (.ref n)=>some λM=>M[n]?=some (.lst xs)\/M[n]?=some (.fro xs)
 |_=>none
noncomputable def Ah (f:FE):FI:=λY M=>match f Y M with
 |some (x,M1)=>match Ai M1 x with
  |some xs=>some (xs,HM x xs,M1)
  |none=>none
 |none=>none
noncomputable def zl (f:FA):FI:=λY M=>match f Y M with
 |some ([.int j],M1)=>if -(2 ^ 62)<=j/\j<2 ^ 62 then some ((List.range j.toNat).map λ(k:Nat)=>D.int k,none,M1) else none
 |some ([.int i,.int j],M1)=>if -(2 ^ 62)<=i/\i<2 ^ 62 /\ -(2 ^ 62)<=j/\j<2 ^ 62 then some ((List.range (j-i).toNat).map λ(k:Nat)=>D.int (i+k),none,M1) else none
 |_=>none
def UC (h:QE X e g):QI X tg e (Ah g):=.mk <| PI.imp (Sj h.un) λτ H R zz=>by
 obtain ⟨L,Y,M,xs,gd,M',c,rs,hf,q⟩:=zz;unfold Ah at hf;split at hf
 .rename_i y M1 e1;split at hf
  .rename_i zs e2;cases hf;refine (mkE c rs e1 (λL1 H1 v s1 c1 r1=>?_));unfold Ai at e2;cases t:B7 y with
   |some ws=>
    rw[t]at e2;cases e2;obtain ⟨a,vs,rfl,e3,r3⟩:=En r1 t;refine ⟨a,rfl,.inr ⟨⟨vs,.of e3⟩,q L1 H1 _ s1 c1 λL2 H2 M2 s2 c2 _=>?_⟩⟩;have e4:=s2.tup a vs e3;have r4:=r3.stp s2;refine ⟨λi d hd=>?_,⟨vs,.of e4,by rw[r4.length];exact AF _⟩⟩;obtain ⟨u,hu,ru⟩:=r4.get hd;refine ⟨⟨vs,u,.of e4,hu⟩,λv H3 ⟨hH,hv⟩=>?_⟩;subst hH;have:=hv vs (.of e4);rw[hu]at this;cases this;exact ⟨λ_ _ z=>z,ru⟩
   |none=>
    rw[t]at e2;dsimp only at e2;obtain ⟨a,vs,rfl,e3,r3⟩:=Eb c1 r1 e2;refine ⟨a,rfl,.inl ⟨⟨vs,.inl e3⟩,q L1 H1 _ s1 c1 λL2 H2 M2 s2 c2 hgd=>?_⟩⟩;have key:∃ vs',SqL X.K H2 a vs'/\zH L2 H2 xs vs':=by
     cases y with
     |fl ys=>
      cases e2;obtain ⟨p',vs',hp',_,e5,e6,r6⟩:=r1;cases hp';exact ⟨vs',.of (s2.old _ _ e5 e6 (by intro _ z;cases z)),r6.stp s2⟩
     |dat d=>
      cases d with
      |ref n=>
       unfold zT Rep at r1;obtain ⟨a',ha',e5⟩:=r1;cases ha';have e6:L2[n]?=some a:=by obtain ⟨N,hN⟩:=s2.pre;rw[hN];exact F8 e5
       rcases hgd with z|z
       .obtain ⟨vs',e7,r7⟩:=c2.obj n a _ e6 z;exact ⟨vs',.of e7,r7⟩
       .obtain ⟨o,vs',e7,r7⟩:=c2.obj n a _ e6 z;exact ⟨vs',.inl (.inr ⟨o,e7⟩),r7⟩
      |_=>cases e2
    obtain ⟨vs',hq,r7⟩:=key;refine ⟨λi d hd=>?_,⟨vs',hq,by rw[r7.length];exact AF _⟩⟩;obtain ⟨u,hu,ru⟩:=r7.get hd;refine ⟨⟨vs',u,hq,hu⟩,λv H3 ⟨hH,hv⟩=>?_⟩;subst hH;have:=hv vs' hq;rw[hu]at this;cases this;exact ⟨λ_ _ z=>z,ru⟩
  .cases hf
 .cases hf
def Sh (h:zH L H [.int j] vs):vs=[.int j]:=by
 unfold zH at h;obtain ⟨v,r,rfl,h1,h2⟩:=h;unfold zH at h2;unfold Rep at h1;subst h1 h2;rfl
def Tx {K:Yb} {L:Yg} {H:Hp} {lo:Int} {n:Nat}:LU K (Itr lo n) L H ((List.range n).map λ(k:Nat)=>D.int (lo+k)) none:=by
 intro L' H' M' s c _;refine ⟨λi d hd=>?_,by simp[Itr]⟩;rw[AR]at hd;cases q:(List.range n)[i]? with
 |none=>rw[q]at hd;cases hd
 |some k=>
  rw[q]at hd;cases hd;have hi:i<n:=by have:=(AK.mp q).1;simpa using this
  rw[List.getElem?_range hi]at q;cases q;refine ⟨hi,λv H'' ⟨hH,hv⟩=>?_⟩;subst hH hv;exact ⟨λ_ _ z=>z,CV⟩
def Sw {tg a:Expr} {g:FA} (hg:Gl X "range") (hm:X.mg "range" = none) (ha:QA X [a] g) (hl:Fw g 1) (hs:starEach [a] X.env=[(false,eval a X.env)]:=by rfl):QI X tg (.Call (.Name "range" p) [a] [] pos) (zl g) :=
 .mk <| PI.imp (RL hg hm ha.un hs) λτ H R zz=>by
  obtain ⟨L,Y,M,xs,gd,M',c,rs,hf,q⟩:=zz;unfold zl at hf;split at hf
  .rename_i j M1 e1;split at hf
   .rename_i hb;cases hf;refine (mkA c rs e1 (λL1 H1 vs s1 c1 r1=>⟨j,Sh r1,hb.1,hb.2,q L1 H1 _ s1 c1 ?_⟩));have z:=Tx (K:=X.K) (L:=L1) (H:=H1) (lo:=0) (n:=j.toNat);simpa using z
   .cases hf
  .rename_i e1;have:=hl _ _ _ _ e1;simp at this
  .cases hf
end
section
variable {X:Cx} {a b c e:Expr} {es rest:Yi} {pos p apos cpos:Pos}
noncomputable def B3 (f g:FT):FT:=λY M=>match f Y M with
 |some (false,M1)=>g Y M1
 |r=>r
noncomputable def BX (f:FT):FT:=λY M=>match f Y M with
 |some (k,M1)=>some (!k,M1)
 |none=>none
structure QW (X:Cx) (e:Expr) (f:FT):Prop where
 un:PW X e (trT X.K f)
def PW.imp (h:PW X e t) (hi:∀ τ H Q,t' τ H Q->t τ H Q):PW X e t':=λwh zB s Y H Q I q=>h wh zB s Y H Q I (hi _ _ _ q)
def Uv (h:QT X a f):QW X (.BoolOp .Or [a] pos) f:=.mk (UM h.un)
def Nu (h1:QT X a f) (h2:QW X (.BoolOp .Or (b::rest) pos) g):QW X (.BoolOp .Or (a::b::rest) pos) (B3 f g):=.mk <| PW.imp (Zs h1.un h2.un) λτ H Q zz=>by
 obtain ⟨L,Y,M,d,M',c,rs,hf,q⟩:=zz;unfold B3 at hf;split at hf
 .rename_i M1 e1;exact (mkT c rs e1 (λL1 H1 s1 c1=>Ft (mkT c1 (rs.stp s1) hf (λL2 H2 s2 c2=>q L2 H2 (s1.trans s2) c2))))
 .rename_i hne;cases d with
  |false=>exact absurd hf (hne M')
  |true=>exact (mkT c rs hf (λL1 H1 s1 c1=>FX (q L1 H1 s1 c1)))
def Zq (h:QW X e f):QT X e f:=.mk (PW.pt h.un)
def dD (h:QT X a f):QT X (.UnaryOp .Not a pos) (BX f):=.mk <| PT.imp (T6 h.un) λτ H Q zz=>by
 obtain ⟨L,Y,M,d,M',c,rs,hf,q⟩:=zz;unfold BX at hf;split at hf
 .rename_i k M1 e1;cases hf;exact (mkT c rs e1 (λL1 H1 s1 c1=>q L1 H1 s1 c1))
 .cases hf
noncomputable def Dy (f g:FE):FE:=λY M=>match f Y M with
 |some (.dat (.bl true),M1)=>g Y M1
 |some (.dat (.bl false),M1)=>some (.dat (.bl false),M1)
 |_=>none
noncomputable def DP (f:FE):FE:=λY M=>match f Y M with
 |some (.dat (.bl k),M1)=>some (.dat (.bl (!k)),M1)
 |_=>none
def E8 (h:zT H0 L H (.dat (.bl k)) v):v=.bl k:=by unfold zT Rep at h;exact h
def cN {op} (h:QE X a f):QE X (.BoolOp op [a] pos) f:=.mk (ZL h.un)
def Ti (h1:QE X a f) (h2:QE X (.BoolOp .And (b::rest) pos) g):QE X (.BoolOp .And (a::b::rest) pos) (Dy f g):=.mk <| PE.imp (X4 h1.un h2.un) λτ H Q zz=>by
 obtain ⟨L,Y,M,d,M',c,rs,hf,q⟩:=zz;unfold Dy at hf;split at hf
 .rename_i M1 e1;exact (mkE c rs e1 (λL1 H1 v s1 c1 r1=>⟨true,E8 r1,FX (mkE c1 (rs.stp s1) hf (λL2 H2 w s2 c2 r2=>q L2 H2 w (s1.trans s2) c2 (r2.back s1 c s2.sub)))⟩))
 .rename_i M1 e1;cases hf;exact (mkE c rs e1 (λL1 H1 v s1 c1 r1=>⟨false,E8 r1,Ft (q L1 H1 _ s1 c1 (by have:=E8 r1;subst this;exact r1))⟩))
 .cases hf
def WR (h:QE X a f):QE X (.UnaryOp .Not a pos) (DP f):=.mk <| PE.imp (Tq h.un) λτ H Q zz=>by
 obtain ⟨L,Y,M,d,M',c,rs,hf,q⟩:=zz;unfold DP at hf;split at hf
 .rename_i k M1 e1;cases hf;exact (mkE c rs e1 (λL1 H1 v s1 c1 r1=>⟨k,E8 r1,q L1 H1 _ s1 c1 (by unfold zT Rep;rfl)⟩))
 .cases hf
noncomputable abbrev KM:=EV->List D->Mem->Option (D × Mem)
noncomputable def fM (k:KM) (f:FE) (g:FA):FE:=λY M=>match f Y M with
 |some (x,M1)=>match CH M1 x with
  |some _=>match g Y M1 with
   |some (ds,M2)=>match k x ds M2 with
    |some (d,M3)=>some (.dat d,M3)
    |none=>none
   |none=>none
  |none=>none
 |none=>none
def L8 (K:Yb) (r:V->List V->Hp->VK->Prop) (k:KM):Prop:=∀ {L:Yg} {M M':Mem} {H H0:Hp} {x:EV} {ds:List D} {d:D} {v:V} {vs:List V} {Q:VK},Cor K L M H->zT H0 L H x v->zH L H ds vs->k x ds M=some (d,M') ->
 (∀ L' H' u,Stp L H L' H'->Cor K L' M' H'->Rep L' H' d u->Q u H')->r v vs H Q
def QU {K:PySem.W.Frag} {r:V->List V->Hp->VK->Prop} {k:KM} {f:FE} {g:FA} (hk:L8 K r k) {τ:Sv} {H:Hp} {Q:VK} (h:trE K (fM k f g) τ H Q):tBM K "list" r (trE K f) (trA K g) τ H Q:=by
 obtain ⟨L,Y,M,d,M',c,rs,hf,q⟩:=h;unfold fM at hf;split at hf
 .rename_i x M1 e1;split at hf
  .rename_i xs e2;split at hf
   .rename_i ds M2 e3;split at hf
    .rename_i d' M3 e4;cases hf;refine (mkE c rs e1 (λL1 H1 v s1 c1 r1=>?_));obtain ⟨a,vs,rfl,e5,r5⟩:=Eb c1 r1 e2;refine ⟨.inl ⟨rfl,vs,.inl e5⟩,L1,Y,M1,_,_,c1,rs.stp s1,e3,λL2 H2 ws s2 c2 r2=>?_⟩;exact hk c2 (r1.stp s2) r2 e4 λL3 H3 u s3 c3 r3=>q L3 H3 u ((s1.trans s2).trans s3) c3 r3
    .cases hf
   .cases hf
  .cases hf
 .cases hf
noncomputable def Dp:KM:=λx ds M=>match x,ds with
 |.dat (.ref n),[d]=>match M[n]? with
  |some (.lst xs)=>if xs.length<sizeLine then some (.non,M.set n (.lst (xs++[d]))) else none
  |_=>none
 |_,_=>none
def zH.one (h:zH L H [d] vs):∃ v,vs=[v]/\Rep L H d v:=by
 unfold zH at h;obtain ⟨v,r,rfl,h1,h2⟩:=h;unfold zH at h2;subst h2;exact ⟨v,rfl,h1⟩
def YC {K:Yb}:L8 K QX Dp:=by
 intro L M M' H H0 x ds d v vs Q c rx rd hk q;unfold Dp at hk;split at hk
 .rename_i n d';split at hk
  .rename_i xs e1;split at hk
   .rename_i hz;cases hk;unfold zT Rep at rx;obtain ⟨a,rfl,e2⟩:=rx;obtain ⟨ws,e3,r3⟩:=c.obj n a _ e2 e1;obtain ⟨w,rfl,r4⟩:=rd.one;obtain ⟨c5,s5⟩:=c.write e2 e1 (r3.app (.cons r4 .nil));exact ⟨a,ws,w,rfl,rfl,e3,by rw[r3.length];exact hz,q L _ _ s5 c5 (by unfold Rep;rfl)⟩
   .cases hk
  .cases hk
 .cases hk
def Tt (h:QE X a f) (hg:QA X [e] g) (hbase:attributeBase a "append" X.env (eval a X.env)=eval a X.env:=by rfl)
  (hfew:((backTo cpos (starEach [e] X.env)).all (λx=> !x.1)&&(backToKw cpos (keywordEach [] X.env)).all (λx=>x.1.isSome)&&decide ([e].length+([]:List Keyword).length+(if ([]:List Keyword).isEmpty then 0 else 1)<30))=true:=by rfl)
  (hline:(apos.endLine==cpos.line)=true:=by rfl) (hs:starEach [e] X.env=(false,eval e X.env)::starEach [] X.env:=by rfl) (hplain:(backTo cpos (starEach [] X.env)).any (·.1)=false:=by rfl) :
  QE X (.Call (.Attribute a "append" apos) [e] [] cpos) (fM Dp f g) :=
 .mk <| PE.imp (OA PySem.F.plainAttrs_list PySem.F.slot_list_append PySem.F.type_list_append b9 h.un hg.un hbase hfew hline hs hplain) λ_ _ _ z=>QU YC z
noncomputable def HP (x:EV) (i:D) (d:D) (M:Mem):Option Mem:=match x,i with
 |.dat (.ref n),.int i=>match M[n]? with
  |some (.lst xs)=>match ixN xs.length i with
   |some j=>some (M.set n (.lst (xs.set j d)))
   |none=>none
  |_=>none
 |_,_=>none
noncomputable def D8 (fv fo fi:FE):FS:=λY M=>match toD fv Y M with
 |some (d,M1)=>match fo Y M1 with
  |some (x,M2)=>match toD fi Y M2 with
   |some (i,M3)=>match HP x i d M3 with
    |some M4=>some (.nx,Y,M4)
    |none=>none
   |none=>none
  |none=>none
 |none=>none
def aR (hv:QE X v fv) (ho:QE X o fo) (hi:QE X i fi)
  (ha:∀ v,assign (.Subscript o i p) X.env v=(do
   let ov <- holding [v] (eval o X.env);let iv <- holding [v,ov] (eval i X.env);standAt p;holding [v,ov,iv] (setItem ov iv v);release [v,ov,iv] []):=by intro _;rfl)
  (hs:swapsWithSole [.Subscript o i p] v pos.line X.env=pure false:=by rfl) (hw:swappedStores [.Subscript o i p] v X.env=pure none:=by rfl) (h1:(assignEach [.Subscript o i p] X.env).map (·.2)=[assign (.Subscript o i p) X.env]:=by rfl) :
  QS X (.Assign [.Subscript o i p] v pos) (D8 fv fo fi):=.mk <| PS.imp (MF (BB hv).un (Rg ho.un (BB hi).un Zl ha) hs hw h1) λE τ H zz=>by
 obtain ⟨L,Y,M,out,Y',M',c,rs,hf,q⟩:=zz;unfold D8 at hf;split at hf
 .rename_i d M1 e1;split at hf
  .rename_i x M2 e2;split at hf
   .rename_i j M3 e3;split at hf
    .rename_i M4 e4;cases hf;refine ⟨L,Y,M,_,_,c,rs,e1,λL1 H1 u s1 c1 r1=>⟨L1,Y,M1,_,_,c1,rs.stp s1,e2,λL2 H2 w s2 c2 r2=>⟨L2,Y,M2,_,_,c2,rs.stp (s1.trans s2),e3,λL3 H3 z s3 c3 r3=>?_⟩⟩⟩;have st:=(s1.trans s2).trans s3;unfold HP at e4;split at e4
     .rename_i n k;split at e4
      .rename_i xs e5;split at e4
       .rename_i m e6;cases e4;have r2':=r2.stp s3;unfold zT Rep at r2';obtain ⟨a,rfl,e7⟩:=r2';obtain ⟨ws,e8,r8⟩:=c3.obj n a _ e7 e5;obtain ⟨c9,s9⟩:=c3.write e7 e5 (zH.set ((r1.stp s2).stp s3) m r8);exact ⟨a,ws,k,m,rfl,by unfold Rep at r3;exact r3,e8,by rw[r8.length];exact e6,q L3 _ (st.trans s9) c9 τ ((rs.stp st).stp s9)⟩
       .cases e4
      .cases e4
     .cases e4
    .cases hf
   .cases hf
  .cases hf
 .cases hf
noncomputable def HB:D->Option V
 |.non=>some .non
 |.bl k=>some (.bl k)
 |.int i=>some (.int i)
 |.str x=>some (.str x)
 |_=>none
def IL (h:Rep L H d v) (e:HB d=some u):v=u:=by
 cases d with
 |non=>cases e;unfold Rep at h;exact h
 |bl _=>cases e;unfold Rep at h;exact h
 |int _=>cases e;unfold Rep at h;exact h
 |str _=>cases e;unfold Rep at h;exact h
 |tup _=>cases e
 |ref _=>cases e
 |fn _ _=>cases e
noncomputable def GC (neg:Bool):K2:=λx y M=>match x,y with
 |.dat d,.dat d'=>match HB d,HB d' with
  |some u,some w=>if Iv u w then some (.dat (.bl (if neg then !decide (u=w) else decide (u=w))),M) else none
  |_,_=>none
 |_,_=>none
def MV (h:GC neg x y M=some (r,M')):∃ d d' u w,x=.dat d/\y=.dat d'/\HB d=some u/\HB d'=some w/\Iv u w=true/\r=.dat (.bl (if neg then !decide (u=w) else decide (u=w)))/\M'=M:=by
 unfold GC at h;split at h
 .rename_i d d';split at h
  .rename_i u w e1 e2;split at h
   .rename_i hs;cases h;exact ⟨d,d',u,w,rfl,rfl,e1,e2,hs,rfl,rfl⟩
   .cases h
  .cases h
 .cases h
def PU {K:Yb}:BE K rEq (GC false):=by
 intro L M M' H H0 x y d v w Q c rx ry hk q;obtain ⟨d1,d2,u,z,rfl,rfl,e1,e2,hs,rfl,rfl⟩:=MV hk;have a1:=IL rx e1;have a2:=IL ry e2;subst a1 a2;exact ⟨hs,q L H _ (.refl L H) c (CI (L:=L) (H:=H))⟩
def eR {K:Yb}:BE K rNe (GC true):=by
 intro L M M' H H0 x y d v w Q c rx ry hk q;obtain ⟨d1,d2,u,z,rfl,rfl,e1,e2,hs,rfl,rfl⟩:=MV hk;have a1:=IL rx e1;have a2:=IL ry e2;subst a1 a2;exact ⟨hs,q L H _ (.refl L H) c (CI (L:=L) (H:=H))⟩
noncomputable def J3 (neg:Bool) (K:Yb):R2:=λx y H Q=>∃ p q xs,x=.ref p/\y=.ref q/\SqL K H p xs/\SqL K H q []/\Q (.bl (if neg then !xs.isEmpty else xs.isEmpty)) H
def LN (r:zX [] its):its=[]:=by cases r;rfl
def Pr (hu:X.A.units<cLine):OpR X (compareOp .Eq) (J3 false X.K):=by
 intro zB s Y H x y v u Q I rx ry h;obtain ⟨p,q,xs,rfl,rfl,h1,h2,hq⟩:=h;cases rx;cases ry;obtain ⟨its,rv,pl,_⟩:=I.list h1;obtain ⟨its2,rv2,pl2,_⟩:=I.list h2;cases LN rv2;cases rv with
 |nil=>exact SeqAt.eq_listAt (e:=λ_=>true) pl.isList pl2.isList rfl hu (λj h1=>by simp at h1) ⟨.bl true,H,I,rfl,hq⟩
 |cons _ _=>exact SeqAt.eq_list_lengthsAt pl.isList pl2.isList (by simp) hu ⟨.bl false,H,I,rfl,hq⟩
def Rv (hu:X.A.units<cLine):OpR X (compareOp .NotEq) (J3 true X.K):=by
 intro zB s Y H x y v u Q I rx ry h;obtain ⟨p,q,xs,rfl,rfl,h1,h2,hq⟩:=h;cases rx;cases ry;obtain ⟨its,rv,pl,_⟩:=I.list h1;obtain ⟨its2,rv2,pl2,_⟩:=I.list h2;cases LN rv2;cases rv with
 |nil=>exact SeqAt.RcNeAt.lists (e:=λ_=>true) pl.isList pl2.isList rfl hu (λj h1=>by simp at h1) _ _ _ _ ⟨.bl false,H,I,rfl,hq⟩
 |cons _ _=>exact SeqAt.RcNeAt.lists_lengths pl.isList pl2.isList (by simp) hu _ _ _ _ ⟨.bl true,H,I,rfl,hq⟩
noncomputable def IF (neg:Bool):K2:=λx y M=>match CH M x,CH M y with
 |some xs,some []=>some (.dat (.bl (if neg then !xs.isEmpty else xs.isEmpty)),M)
 |_,_=>none
def LY {K:Yb} {neg:Bool}:BE K (J3 neg K) (IF neg):=by
 intro L M M' H H0 x y d v w Q c rx ry hk q;unfold IF at hk;split at hk
 .rename_i xs e1 e2;cases hk;obtain ⟨p1,vs,rfl,h1,r1⟩:=Eb c rx e1;obtain ⟨p2,ws,rfl,h2,r2⟩:=Eb c ry e2;unfold zH at r2;subst r2;refine ⟨p1,p2,vs,rfl,rfl,.inl h1,.inl h2,q L H _ (.refl L H) c ?_⟩;have:vs.isEmpty=xs.isEmpty:=by
   have:=r1.length;cases vs <;> cases xs <;> simp_all
  rw[this];exact (CI (L:=L) (H:=H))
 .cases hk
noncomputable def kOr (k1 k2:K2):K2:=λx y M=>match k1 x y M with
 |some r=>some r
 |none=>k2 x y M
def IS {K:Yb} {r1 r2:R2} {k1 k2:K2} (h1:BE K r1 k1) (h2:BE K r2 k2):BE K (λx y H Q=>r1 x y H Q\/r2 x y H Q) (kOr k1 k2):=by
 intro L M M' H H0 x y d v w Q c rx ry hk q;unfold kOr at hk;split at hk
 .rename_i r e1;cases hk;exact .inl (h1 c rx ry e1 q)
 .exact .inr (h2 c rx ry hk q)
noncomputable abbrev kEq:K2:=kOr (GC false) (IF false)
noncomputable abbrev kNe:K2:=kOr (GC true) (IF true)
variable {f g:FE}
def Z8 (hu:X.A.units<cLine) (h1:QE X a f) (h2:QE X b g):QE X (.Compare a [.Eq] [b] pos) (fOp kEq f g):=JO (IS PU LY) (Ph.or (Pr hu)) h1 h2 (E1 _)
def bF (hu:X.A.units<cLine) (h1:QE X a f) (h2:QE X b g):QT X (.Compare a [.Eq] [b] pos) (tst (fOp kEq f g)):=Fg (IS PU LY) (Ph.or (Pr hu)) h1 h2 (E1 _)
def Sf (hu:X.A.units<cLine) (h1:QE X a f) (h2:QE X b g):QT X (.Compare a [.NotEq] [b] pos) (tst (fOp kNe f g)):=Fg (IS eR LY) (Uc.or (Rv hu)) h1 h2 (E1 _)
noncomputable def C9:KB:=λxs M=>match xs with
 |[.dat (.int i)]=>some (.dat (.int i),M)
 |[.dat (.bl k)]=>some (.dat (.int (if k then 1 else 0)),M)
 |_=>none
def XA {K:Yb}:Dd K (λxs H Q=>(∃ i,xs=[.int i]/\Q (.int i) H) \/ ∃ k,xs=[.bl k]/\Q (.int (if k then 1 else 0)) H) C9:=by
 intro L M M' H H0 xs d vs Q c r hk q;unfold C9 at hk;split at hk
 .rename_i i;cases hk;obtain ⟨v,rfl,r1⟩:=r.one;have:v=.int i:=by unfold zT Rep at r1;exact r1
  subst this;exact .inl ⟨i,rfl,q L H _ (.refl L H) c (CV (L:=L) (H:=H))⟩
 .rename_i k;cases hk;obtain ⟨v,rfl,r1⟩:=r.one;have:=E8 r1;subst this;exact .inr ⟨k,rfl,q L H _ (.refl L H) c (CV (L:=L) (H:=H))⟩
 .cases hk
end
section
variable {X:Cx} {a b c e:Expr} {es rest:Yi} {pos p apos cpos:Pos}
def Vj {prog:Ym} {w:Yo} {A:Yn} {E:Yc} {s:Yl} {t b:Yt} {ws:Yf} {Q:Yc} (ht:IsTup s.heap t #[]) (hb:IsTup s.heap b ws.toArray) (h1:Q (.ref b) s) :
  wpAny (model prog w) A (binaryOp .Add (.ref t) (.ref b)) Q E s:=by
 obtain ⟨⟨cls,dd,data,sl⟩,ho,hc,n,hd⟩:=id ht;obtain ⟨⟨cls2,dd2,data2,sl2⟩,ho2,hc2,n2,hd2⟩:=id hb;simp only at hc hd hc2 hd2;subst hc hd hc2 hd2
 exact concat_meets ⟨_,ho,rfl⟩ ⟨_,ho2,rfl⟩ noFill_tuple_add seq_tuple_add PySem.F.slot_tuple_add PySem.F.entry_tuple_add (PySem.F.args_tuple_add_2 _ _)
   (tuple_addW0 t b #[] ws.toArray n n2 dd dd2 sl sl2 (by simp)) ⟨ho,ho2,h1⟩
noncomputable def Md (K:Yb):R2:=λx y H Q=>∃ a b ys,x=.ref a/\y=.ref b/\SqT K H a []/\SqT K H b ys/\Q (.ref b) H
def XI:OpR X (binaryOp .Add) (Md X.K):=by
 intro zB s Y H x y v u Q I rx ry h;obtain ⟨a,b,ys,rfl,rfl,ha,hb,q⟩:=h;cases rx;cases ry;obtain ⟨its,r1,p1,_⟩:=I.tuple ha;obtain ⟨its2,r2,p2,_⟩:=I.tuple hb;cases LN r1;exact Vj p1 p2 ⟨.ref b,H,I,rfl,q⟩
noncomputable def GH:K2:=λx y M=>match B7 x,B7 y with
 |some xs,some ys=>if xs.length+ys.length<=sizeLine then some (.dat (.tup (xs++ys)),M) else none
 |_,_=>none
def TJ {K:Yb}:BE K (λx y H Q=>NP K x y H Q\/Md K x y H Q) GH:=by
 intro L M M' H H0 x y d v w Q c rx ry hk q;unfold GH at hk;split at hk
 .rename_i xs ys e1 e2;split at hk
  .rename_i hz;cases hk;obtain ⟨p1,vs,rfl,h1,r1⟩:=En rx e1;obtain ⟨p2,ws,rfl,h2,r2⟩:=En ry e2;cases xs with
   |nil=>
    refine .inr ⟨p1,p2,ws,rfl,rfl,.of (by unfold zH at r1;subst r1;exact h1),.of h2,q L H _ (.refl L H) c ?_⟩;unfold zT Rep;exact ⟨p2,ws,rfl,h2,r2⟩
   |cons x0 xr=>
    have hv:vs≠[]:=λz=>by have:=r1.length;rw[z]at this;simp at this
    refine .inl ⟨p1,p2,vs,ws,rfl,rfl,.of h1,.of h2,hv,by rw[r1.length,r2.length];exact hz,λz=>?_,λz pp hp=>?_⟩
    .have:ys=[]:=by
      have:=r2.length;rw[z]at this;cases ys with
      |nil=>rfl
      |cons _ _=>simp at this
     subst this;refine q L H _ (.refl L H) c ?_;unfold zT Rep;rw[CG];exact ⟨p1,vs,rfl,h1,r1⟩
    .exact q L _ _ (.upd hp) (c.upd hp) (Rep.newTup hp (r1.app r2))
  .cases hk
 .cases hk
noncomputable abbrev zt:K2:=kOr Kh GH
variable {f g:FE}
def cC (h1:QE X a f) (h2:QE X b g):QE X (.BinOp a .Add b pos) (fOp zt f g):=Ey (IS (FJ λ_ _ _ _=>CV) TJ) (Rx.or (Xm.or XI)) h1 h2
structure Kinds (K:Yb):Prop where
 k:∀ t T,t∈["NoneType", "bool", "int", "str", "list", "tuple", "dict"]->T∈["int", "bool", "str", "tuple"]->PySem.W.kitOne K (.type t) (.type T)=some (decide (t=T)||(decide (t = "bool")&&decide (T = "int")))
noncomputable def Fu (M:Mem):EV->Option String
 |.dat .non=>some "NoneType"
 |.dat (.bl _)=>some "bool"
 |.dat (.int _)=>some "int"
 |.dat (.str _)=>some "str"
 |.dat (.tup _)=>some "tuple"
 |.fl _=>some "list"
 |.dat (.ref n)=>match M[n]? with
  |some (.lst _)=>some "list"
  |some (.fro _)=>some "list"
  |some (.dict _)=>some "dict"
  |some (.dicT _)=>some "dict"
  |_=>none
 |.dat (.fn _ _)=>none
def Q9 {K:PySem.W.Frag} {L:List Addr} {M:Mem} {H H0:Hp} {x:EV} {v:V} {t:String} (c:Cor K L M H) (r:zT H0 L H x v) (h:Fu M x=some t):TyOf K H v (.type t)/\t∈["NoneType", "bool", "int", "str", "list", "tuple", "dict"]:=by
 unfold Fu at h;split at h
 .cases h;unfold zT Rep at r;subst r;exact ⟨.non,by simp⟩
 .cases h;unfold zT Rep at r;subst r;exact ⟨.bl _,by simp⟩
 .cases h;unfold zT Rep at r;subst r;exact ⟨.int _,by simp⟩
 .cases h;unfold zT Rep at r;subst r;exact ⟨.str _,by simp⟩
 .cases h;unfold zT Rep at r;obtain ⟨a,vs,rfl,e,_⟩:=r;exact ⟨.tup e,by simp⟩
 .cases h;obtain ⟨p,vs,rfl,_,e,_⟩:=r;exact ⟨.lst e,by simp⟩
 .unfold zT Rep at r;obtain ⟨a,rfl,e⟩:=r;split at h
  .rename_i e1;cases h;obtain ⟨vs,q,_⟩:=c.obj _ a _ e e1;exact ⟨.lst q,by simp⟩
  .rename_i e1;cases h;obtain ⟨o,vs,q,_⟩:=c.obj _ a _ e e1;exact ⟨.frz q,by simp⟩
  .rename_i e1;cases h;obtain ⟨vs,q,_⟩:=c.obj _ a _ e e1;exact ⟨.dK q,by simp⟩
  .rename_i e1;cases h;obtain ⟨vs,q,_⟩:=c.obj _ a _ e e1;exact ⟨.dT q,by simp⟩
  .cases h
 .cases h
noncomputable def isT (t T:String):Bool:=decide (t=T)||(decide (t = "bool")&&decide (T = "int"))
noncomputable def Bk (T:String) (f:FE):FE:=λY M=>match f Y M with
 |some (x,M1)=>match Fu M1 x with
  |some t=>some (.dat (.bl (isT t T)),M1)
  |none=>none
 |none=>none
def Pk (K:Yb) (T:String):List V->Hp->VK->Prop:=λxs H Q=>∃ x t b,xs=[x,.ty T]/\TyOf K H x t/\PySem.W.kitOne K t (.type T)=some b/\Q (.bl b) H
def UA:B9 X (.builtin "isinstance") (Pk X.K T):=by
 intro zB s Y H xs us Q I r h;obtain ⟨x,t,b,rfl,ty,e,q⟩:=h;cases r with
 |cons r1 r2=>
  cases r2 with
  |cons r3 r4=>
   cases r4;cases r3;exact RK I r1 ty e λtk=>⟨.bl b,H,I.tok _,rfl,q⟩
def Jw (hK:Kinds X.K) (hT:T∈["int", "bool", "str", "tuple"]) (hg:Gl X "isinstance") (hm:X.mg "isinstance" = none) (hg2:Gl X y) (hm2:X.mg y=none) (hv2:bootBuiltins y=some (.type T)) (hn2:y ≠ "__name__") (hd2:(y==("__debug__" : Str))=false) (h:QE X e f)
  (he:starEach (e::[.Name y p2]) X.env=(false,eval e X.env)::starEach [.Name y p2] X.env:=by rfl) (he2:starEach [.Name y p2] X.env=(false,eval (.Name y p2) X.env)::starEach [] X.env:=by rfl) (hpl:(backTo pos (starEach [.Name y p2] X.env)).any (·.1)=false:=by rfl) :
  QE X (.Call (.Name "isinstance" p1) [e,.Name y p2] [] pos) (Bk T f) :=
 .mk <| PE.imp (Og (r:=Pk X.K T) UA hg hm (by rfl) (Ek h.un (Ek (RY (v:=.ty T) hg2 hm2 hv2 rfl hn2 hd2) Hy he2) he) (by decide) (by decide) he hpl) λτ H Q zz=>by
  obtain ⟨L,Y,M,d,M',c,rs,hf,q⟩:=zz;unfold Bk at hf;split at hf
  .rename_i x M1 e1;split at hf
   .rename_i t e2;cases hf;refine (mkE c rs e1 (λL1 H1 v s1 c1 r1=>?_));obtain ⟨ty,ht⟩:=Q9 c1 r1 e2;exact ⟨v,_,_,rfl,ty,hK.k t T ht hT,q L1 H1 _ s1 c1 (CI (L:=L1) (H:=H1))⟩
   .cases hf
  .cases hf
def zH.two (h:zH L H [d,d'] vs):∃ v v',vs=[v,v']/\Rep L H d v/\Rep L H d' v':=by
 unfold zH at h;obtain ⟨v,r,rfl,h1,h2⟩:=h;obtain ⟨v',rfl,h3⟩:=h2.one;exact ⟨v,v',rfl,h1,h3⟩
section
variable {fa:FAE}
def Mv (hg:Gl X "len") (hm:X.mg "len" = none) (ha:QAE X [e] fa) (he:starEach [e] X.env=(false,eval e X.env)::starEach [] X.env:=by rfl) (hpl:(backTo pos (starEach [] X.env)).any (·.1)=false:=by rfl):QE X (.Call (.Name "len" p) [e] [] pos) (fB zg fa) :=
 Gn UP UD PySem.boot_len hg hm ha (by decide) (by decide) he hpl
def WY (hg:Gl X "tuple") (hm:X.mg "tuple" = none) (ha:QAE X [e] fa) (he:starEach [e] X.env=(false,eval e X.env)::starEach [] X.env:=by rfl) (hpl:(backTo pos (starEach [] X.env)).any (·.1)=false:=by rfl):QE X (.Call (.Name "tuple" p) [e] [] pos) (fB ze fa) :=
 J8 bX V8 (by rfl) hg hm ha (by decide) (by decide) he hpl
def Rh (hg:Gl X "int") (hm:X.mg "int" = none) (ha:QAE X [e] fa) (he:starEach [e] X.env=(false,eval e X.env)::starEach [] X.env:=by rfl) (hpl:(backTo pos (starEach [] X.env)).any (·.1)=false:=by rfl):QE X (.Call (.Name "int" p) [e] [] pos) (fB C9 fa) :=
 J8 XA Uy (by rfl) hg hm ha (by decide) (by decide) he hpl
end
end
noncomputable def JG (sc scope:Y0):Bool:=scope.names.all λy=>
 (y.2 != .local||scope.names.lookup y.1==some .local)&&(y.2 != .cell||scope.names.lookup y.1==some .cell)&&(y.2 != .free||(sc.names.lookup y.1==some .cell||sc.names.lookup y.1==some .free))
noncomputable def Iw (N:Yk) (scope:Y0) (own:Yj):Bool:=(List.range N.length).all λi=>match N[i]? with
 |some x=>decide (i∈own)||(scope.names.lookup x==none)||(scope.names.lookup x==some .free)
 |none=>true
def Nv (hk:scope.kind=.function) (hs:X.env.scope=sc) (hN:X.N=N) (h1:JG sc scope=true) (h2:Iw N scope own=true):CompIn X scope own:=by
 unfold JG at h1;rw[Ab]at h1;refine ⟨⟨hk,λy hy e=>?_,λy hy e=>?_,λy hy e=>?_⟩,λi x e=>?_⟩
 .have:=h1 y hy;simp[e]at this;exact this
 .have:=h1 y hy;simp[e]at this;exact this
 .have:=h1 y hy;simp[e]at this;show X.env.scope.names.lookup y.1=_\/X.env.scope.names.lookup y.1=_;rw[hs];exact this
 .unfold Iw at h2;rw[Ab]at h2;rw[hN]at e;have hi:i<N.length:=(AK.mp e).1;have:=h2 i (by simpa using hi);rw[e]at this;simp only[Bool.or_eq_true,EA,beq_iff_eq,or_assoc]at this;exact this
noncomputable def GD (K:Yb):Bool:=K.all λp=>match p.2.cls with
 |.type n=>n != "list"
 |_=>true
theorem LH:∀ {K:Yb},K.lookup a=some o->(a,o)∈K
 |[],h=>by cases h
 | (b,u)::r,h=>by
  have h':List.lookup a ((b,u)::r)=some o:=h;rw[D6]at h';cases q:a==b with
  |true=>rw[q]at h';cases h';rw[beq_iff_eq.mp q];exact AW
  |false=>rw[q]at h';exact Am _ (LH h')
def QL {K:PySem.W.Frag} (h:GD K=true) {o:Obj} (e:K.lookup a=some o) (hc:o.cls=.type "list"):False:=by
 unfold GD at h;rw[Ab]at h;have:=h (a,o) (LH e);simp[hc]at this
theorem Oc:∀ (ns:Ye),zH L H (ns.map D.int) (ns.map V.int)
 |[]=> .nil
 |n::r=> .cons (by unfold Rep;rfl) (Oc r)
def RU {K:Yb} {m:FF} {H:Hp} {a:Yt} {ns:Ye} {E:XK} (hL:GD K=true) (hT:GA K H) (hO:∀ b xs,H b≠some (.lst xs)) (hS:SqL K H a (ns.map V.int)) (h:∃ M',m [.ref 0] [.fro (ns.map D.int)]=some (.bl true,M')) :
  spF K 1 m [.ref a] H (λv _=>v=.bl true) E:=by
 obtain ⟨M',e⟩:=h;have hf:∃ o,H a=some (.frz o (.lst (ns.map V.int))):=by
  rcases hS with (h1|h1)|⟨o,its,n,h1,h2,_⟩
  .exact (hO _ _ h1).elim
  .exact h1
  .exact (QL hL h1 h2).elim
 obtain ⟨o,hf⟩:=hf;refine ⟨[a],[.ref 0],[.fro (ns.map D.int)],_,_,⟨rfl,by simp,λn b m e1 e2=>?_,hT⟩,.cons ?_ .nil,rfl,e,λL' H' v s c r=>?_⟩
 .cases n with
  |zero=>simp at e1 e2;subst e1;subst e2;exact ⟨o,_,hf,Oc ns⟩
  |succ n=>simp at e1
 .unfold Rep;exact ⟨a,rfl,rfl⟩
 .unfold Rep at r;exact r
def Ok {α:Type} (x:Option (α × Mem)) (P:α->Mem->Prop):Prop:=∃ a M,x=some (a,M)/\P a M
def OkS (x:Option (Out × Sd × Mem)) (P:Out->Sd->Mem->Prop):Prop:=∃ o Y M,x=some (o,Y,M)/\P o Y M
def Ok.mono {α:Type} {x:Option (α × Mem)} {P Q:α->Mem->Prop} (h:Ok x P) (hq:∀ a M,P a M->Q a M):Ok x Q:=let ⟨a,M,e,p⟩:=h;⟨a,M,e,hq a M p⟩
def OkS.mono {x:Option (Out × Sd × Mem)} {P Q:Out->Sd->Mem->Prop} (h:OkS x P) (hq:∀ o Y M,P o Y M->Q o Y M):OkS x Q:=let ⟨a,Y,M,e,p⟩:=h;⟨a,Y,M,e,hq a Y M p⟩
def Be {α:Type} {a:α} {M:Mem} {P:α->Mem->Prop}:Ok (some (a,M)) P ↔ P a M:=⟨λ⟨_,_,e,p⟩=>by cases e;exact p,λp=>⟨a,M,rfl,p⟩⟩
def JY {α:Type} {P:α->Mem->Prop}:Ok (none:Option (α × Mem)) P ↔ False:=⟨(λ⟨_,_,e,_⟩=>(nomatch e)),λh=>h.elim⟩
def Sg {o:Out} {Y:Sd} {M:Mem} {P:Out->Sd->Mem->Prop}:OkS (some (o,Y,M)) P ↔ P o Y M:=⟨λ⟨_,_,_,e,p⟩=>by cases e;exact p,λp=>⟨o,Y,M,rfl,p⟩⟩
def ES {i:Nat}:Ok (zC i Y M) P ↔ ∃ d,Y[i]?=some (some d)/\P (.dat d) M:=by
 unfold zC;constructor
 .rintro ⟨a,M1,e,p⟩;split at e
  .rename_i d e1;cases e;exact ⟨d,e1,p⟩
  .cases e
 .rintro ⟨d,e1,p⟩;rw[e1];exact ⟨_,_,rfl,p⟩
def Er {d:D}:Ok (fC d Y M) P ↔ P (.dat d) M:=Be
def Du {k:K2}:Ok (fOp k f g Y M) P ↔ Ok (f Y M) λx M1=>Ok (g Y M1) λy M2=>Ok (k x y M2) P:=by
 unfold fOp;constructor
 .rintro ⟨a,M1,e,p⟩;split at e
  .rename_i x M2 e1;split at e
   .rename_i y M3 e2;exact ⟨x,M2,e1,y,M3,e2,a,M1,e,p⟩
   .cases e
  .cases e
 .rintro ⟨x,M2,e1,y,M3,e2,a,M1,e,p⟩;rw[e1];dsimp only;rw[e2];exact ⟨a,M1,e,p⟩
def DS (P:D->Mem->Prop):EV->Mem->Prop
 |.dat d,M=>P d M
 |.fl xs,M=>P (.ref M.length) (M++[.lst xs])
def C4 {P:D->Mem->Prop}:Ok (toD f Y M) P ↔ Ok (f Y M) (DS P):=by
 unfold toD;constructor
 .rintro ⟨a,M1,e,p⟩;split at e
  .rename_i d M2 e1;cases e;exact ⟨_,_,e1,p⟩
  .rename_i xs M2 e1;cases e;exact ⟨_,_,e1,p⟩
  .cases e
 .rintro ⟨x,M2,e1,p⟩;rw[e1];cases x with
  |dat d=>exact ⟨d,M2,rfl,p⟩
  |fl xs=>exact ⟨_,_,rfl,p⟩
def zQ {P:D->Mem->Prop} {d:D} {M:Mem}:DS P (.dat d) M ↔ P d M:=Iff.rfl
def fE {P:D->Mem->Prop} {xs:List D} {M:Mem}:DS P (.fl xs) M ↔ P (.ref M.length) (M++[.lst xs]):=Iff.rfl
def FV:Ok (zL Y M) P ↔ P [] M:=Be
def Ho {f:FD} {g:FA}:Ok (zD f g Y M) P ↔ Ok (f Y M) λd M1=>Ok (g Y M1) λds M2=>P (d::ds) M2:=by
 unfold zD;constructor
 .rintro ⟨a,M1,e,p⟩;split at e
  .rename_i x M2 e1;split at e
   .rename_i y M3 e2;cases e;exact ⟨x,M2,e1,y,_,e2,p⟩
   .cases e
  .cases e
 .rintro ⟨x,M2,e1,y,M3,e2,p⟩;rw[e1];dsimp only;rw[e2];exact ⟨_,_,rfl,p⟩
def G5 {a:FA}:Ok (BO a Y M) P ↔ Ok (a Y M) λds M1=>ds.length<=sizeLine/\P (.fl ds) M1:=by
 unfold BO;constructor
 .rintro ⟨x,M1,e,p⟩;split at e
  .rename_i ds M2 e1;split at e
   .rename_i hz;cases e;exact ⟨ds,_,e1,hz,p⟩
   .cases e
  .cases e
 .rintro ⟨ds,M1,e1,hz,p⟩;rw[e1];dsimp only;rw[AD hz];exact ⟨_,_,rfl,p⟩
def FC {m:FF} {a:FA}:Ok (zW m a Y M) P ↔ Ok (a Y M) λds M1=>Ok (m ds M1) λd M2=>P (.dat d) M2:=by
 unfold zW;constructor
 .rintro ⟨x,M1,e,p⟩;split at e
  .rename_i ds M2 e1;split at e
   .rename_i d M3 e2;cases e;exact ⟨ds,_,e1,d,_,e2,p⟩
   .cases e
  .cases e
 .rintro ⟨ds,M1,e1,d,M2,e2,p⟩;rw[e1];dsimp only;rw[e2];exact ⟨_,_,rfl,p⟩
def Hl {k:KM} {a:FA}:Ok (fM k f a Y M) P ↔ Ok (f Y M) λx M1=>(∃ xs,CH M1 x=some xs)/\Ok (a Y M1) λds M2=>Ok (k x ds M2) λd M3=>P (.dat d) M3:=by
 unfold fM;constructor
 .rintro ⟨x,M1,e,p⟩;split at e
  .rename_i y M2 e1;split at e
   .rename_i xs e2;split at e
    .rename_i ds M3 e3;split at e
     .rename_i d M4 e4;cases e;exact ⟨y,_,e1,⟨xs,e2⟩,ds,_,e3,d,_,e4,p⟩
     .cases e
    .cases e
   .cases e
  .cases e
 .rintro ⟨y,M1,e1,⟨xs,e2⟩,ds,M2,e3,d,M3,e4,p⟩;rw[e1];dsimp only;rw[e2];dsimp only;rw[e3];dsimp only;rw[e4];exact ⟨_,_,rfl,p⟩
def blP (P:Bool->Mem->Prop):EV->Mem->Prop
 |.dat (.bl k),M=>P k M
 |_,_=>False
def GS {P:Bool->Mem->Prop} {k:Bool} {M:Mem}:blP P (.dat (.bl k)) M ↔ P k M:=Iff.rfl
def N2 {P:Bool->Mem->Prop}:Ok (tst f Y M) P ↔ Ok (f Y M) (blP P):=by
 unfold tst;constructor
 .rintro ⟨x,M1,e,p⟩;split at e
  .rename_i i M2 e1;cases e;exact ⟨_,_,e1,p⟩
  .cases e
 .rintro ⟨x,M1,e1,p⟩;rw[e1];cases x with
  |fl xs=>exact p.elim
  |dat d=>
   cases d with
   |bl i=>exact ⟨_,_,rfl,p⟩
   |_=>exact p.elim
def PF:Ok (zu Y M) P ↔ P true M:=Be
def Vl:Ok (BX s Y M) P ↔ Ok (s Y M) λk M1=>P (!k) M1:=by
 unfold BX;constructor
 .rintro ⟨x,M1,e,p⟩;split at e
  .rename_i k M2 e1;cases e;exact ⟨k,_,e1,p⟩
  .cases e
 .rintro ⟨k,M1,e1,p⟩;rw[e1];exact ⟨_,_,rfl,p⟩
def nxP (k:Sd->Mem->Prop) (P:Out->Sd->Mem->Prop):Out->Sd->Mem->Prop
 |.nx,Y,M=>k Y M
 |o,Y,M=>P o Y M
def zR {k:Sd->Mem->Prop}:nxP k P .nx Y M ↔ k Y M:=Iff.rfl
def IX {k:Sd->Mem->Prop} {d:D}:nxP k P (.ret d) Y M ↔ P (.ret d) Y M:=Iff.rfl
def D4:OkS (An Y M) P ↔ P .nx Y M:=Sg
def zM:OkS (zO f g Y M) P ↔ OkS (f Y M) (nxP (λσ1 M1=>OkS (g σ1 M1) P) P):=by
 unfold zO;constructor
 .rintro ⟨o,σ1,M1,e,p⟩;split at e
  .rename_i σ2 M2 e1;exact ⟨_,_,_,e1,o,σ1,M1,e,p⟩
  .rename_i hn;refine ⟨o,σ1,M1,e,?_⟩;cases o with
   |nx=>exact absurd e (hn σ1 M1)
   |_=>exact p
 .rintro ⟨o,σ1,M1,e1,p⟩;rw[e1];cases o with
  |nx=>exact p
  |_=>exact ⟨_,_,_,rfl,p⟩
def CM {c:FT}:OkS (sIf c f g Y M) P ↔ Ok (c Y M) λk M1=>if k then OkS (f Y M1) P else OkS (g Y M1) P:=by
 unfold sIf;constructor
 .rintro ⟨o,σ1,M1,e,p⟩;split at e
  .rename_i M2 e1;exact ⟨_,_,e1,by dsimp only;rw[AD rfl];exact ⟨o,σ1,M1,e,p⟩⟩
  .rename_i M2 e1;exact ⟨_,_,e1,by simpa using ⟨o,σ1,M1,e,p⟩⟩
  .cases e
 .rintro ⟨x,M1,e1,p⟩;rw[e1];cases x with
  |true=>simpa using p
  |false=>simpa using p
def NF {h:FE}:OkS (AO h Y M) P ↔ Ok (h Y M) (DS λd M1=>P (.ret d) Y M1):=by
 rw[<-C4];unfold AO;constructor
 .rintro ⟨o,σ1,M1,e,p⟩;split at e
  .rename_i d M2 e1;cases e;exact ⟨_,_,e1,p⟩
  .cases e
 .rintro ⟨x,M1,e1,p⟩;rw[e1];exact ⟨_,_,_,rfl,p⟩
def zf {i:Nat} {h:FE}:OkS (AQ i h Y M) P ↔ Ok (h Y M) (DS λd M1=>P .nx (Y.set i (some d)) M1):=by
 rw[<-C4];unfold AQ;constructor
 .rintro ⟨o,σ1,M1,e,p⟩;split at e
  .rename_i d M2 e1;cases e;exact ⟨_,_,e1,p⟩
  .cases e
 .rintro ⟨x,M1,e1,p⟩;rw[e1];exact ⟨_,_,_,rfl,p⟩
def Gz {h:FE}:OkS (Cd h Y M) P ↔ Ok (h Y M) λ_ M1=>P .nx Y M1:=by
 unfold Cd;constructor
 .rintro ⟨o,σ1,M1,e,p⟩;split at e
  .rename_i d M2 e1;cases e;exact ⟨_,_,e1,p⟩
  .cases e
 .rintro ⟨x,M1,e1,p⟩;rw[e1];exact ⟨_,_,_,rfl,p⟩
def Qe {v o i:FE}:OkS (D8 v o i Y M) P ↔ Ok (v Y M) (DS λd M1=>Ok (o Y M1) λx M2=>Ok (i Y M2) (DS λj M3=>∃ M4,HP x j d M3=some M4/\P .nx Y M4)):=by
 rw[<-C4];unfold D8;constructor
 .rintro ⟨o,σ1,M1,e,p⟩;split at e
  .rename_i d M2 e1;split at e
   .rename_i x M3 e2;split at e
    .rename_i j M4 e3;split at e
     .rename_i M5 e4;cases e;refine ⟨_,_,e1,_,_,e2,?_⟩;dsimp only;rw[<-C4];exact ⟨_,_,e3,_,e4,p⟩
     .cases e
    .cases e
   .cases e
  .cases e
 .rintro ⟨d,M1,e1,x,M2,e2,p⟩;rw[<-C4]at p;obtain ⟨j,M3,e3,M4,e4,p⟩:=p;rw[e1];dsimp only;rw[e2];dsimp only;rw[e3];dsimp only;rw[e4];exact ⟨_,_,_,rfl,p⟩
def Bj {n:Nat} {ds:List D} {Q:D->Mem->Prop}:Ok (Ax n f ds M) Q ↔ OkS (f (ds.map some++List.replicate (n-ds.length) none) M) λo _ M1=>match o with|.ret d=>Q d M1|.nx=>Q .non M1|_=>False:=by
 unfold Ax;constructor
 .rintro ⟨o,M1,e,p⟩;split at e
  .rename_i d σ1 M2 e1;cases e;exact ⟨_,_,_,e1,p⟩
  .rename_i σ1 M2 e1;cases e;exact ⟨_,_,_,e1,p⟩
  .cases e
 .rintro ⟨o,σ1,M1,e1,p⟩;rw[e1];cases o with
  |ret d=>exact ⟨_,_,rfl,p⟩
  |nx=>exact ⟨_,_,rfl,p⟩
  |brk=>exact p.elim
  |cnt=>exact p.elim
theorem D7 {g:FG} {b:FS} {all:List D} {gd:Option (Mem->Prop)} (I:List D->Sd->Mem->Prop)
  (hs:∀ x r Y M,I (x::r) Y M->DN gd all M /\ ∃ σ1,g x Y=some σ1/\OkS (b σ1 M) λo σ2 M2=>match o with|.nx=>I r σ2 M2|.cnt=>I r σ2 M2|.brk=>P .nx σ2 M2|.ret d=>P (.ret d) σ2 M2)
  (he:∀ Y M,I [] Y M->DN gd all M/\P .nx Y M):∀ (xs:List D) (Y:Sd) (M:Mem),I xs Y M->OkS (Dl g b all gd xs Y M) P
 |[],Y,M,hi=>by
  unfold Dl;obtain ⟨h1,h2⟩:=he Y M hi;rw[AD h1];exact ⟨_,_,_,rfl,h2⟩
 |x::r,Y,M,hi=>by
  unfold Dl;obtain ⟨h1,σ1,e1,o,σ2,M2,e2,q⟩:=hs x r Y M hi;rw[AD h1,e1];dsimp only;rw[e2];cases o with
  |nx=>exact D7 I hs he r σ2 M2 q
  |cnt=>exact D7 I hs he r σ2 M2 q
  |brk=>exact ⟨_,_,_,rfl,q⟩
  |ret d=>exact ⟨_,_,_,rfl,q⟩
def Bq {i:FI} {g:FG} {b:FS}:OkS (Ao i g b Y M) P ↔ ∃ xs gd M1,i Y M=some (xs,gd,M1)/\OkS (Dl g b xs gd xs Y M1) P:=by
 unfold Ao;constructor
 .rintro ⟨o,σ1,M1,e,p⟩;split at e
  .rename_i xs gd M2 e1;exact ⟨_,_,_,e1,_,_,_,e,p⟩
  .cases e
 .rintro ⟨xs,gd,M1,e1,p⟩;rw[e1];exact p
theorem Gp {g:FG} {tc:FT} {te:FE} {all:List D} {gd:Option (Mem->Prop)} (I:List D->List D->Mem->Prop)
  (hs:∀ x r acc M,I (x::r) acc M->DN gd all M /\ ∃ σ1,g x Y=some σ1/\Ok (tc σ1 M) λk M1=>if k then Ok (te σ1 M1) (DS λd M2=>I r (acc++[d]) M2) else I r acc M1)
  {Q:List D->Mem->Prop} (he:∀ acc M,I [] acc M->DN gd all M/\Q acc M):∀ (xs acc:List D) (M:Mem),I xs acc M->Ok (CL g tc te Y all gd xs M) λys M1=>Q (acc++ys) M1
 |[],acc,M,hi=>by
  unfold CL;obtain ⟨h1,h2⟩:=he acc M hi;rw[AD h1];exact ⟨_,_,rfl,by simpa using h2⟩
 |x::r,acc,M,hi=>by
  unfold CL;obtain ⟨h1,σ1,e1,k,M1,e2,q⟩:=hs x r acc M hi;rw[AD h1,e1];dsimp only;rw[e2];cases k with
  |false=>exact Gp I hs he r acc M1 (by simpa using q)
  |true=>
   rw[AD rfl,<-C4]at q;obtain ⟨d,M2,e3,q⟩:=q;dsimp only;rw[e3];obtain ⟨ys,M3,e4,p⟩:=Gp I hs he r (acc++[d]) M2 q;dsimp only;rw[e4];exact ⟨_,_,rfl,by simpa using p⟩
def GP {own:Yj} {i:FI} {g:FG} {tc:FT} {te:FE} {Q:EV->Mem->Prop}:Ok (zj own i g tc te Y M) Q ↔ ∃ xs gd M1,i Y M=some (xs,gd,M1)/\xs.length<=sizeLine/\Ok (CL g tc te (Bp own Y) xs gd xs M1) λys M2=>Q (.fl ys) M2:=by
 unfold zj;constructor
 .rintro ⟨o,M1,e,p⟩;split at e
  .rename_i xs gd M2 e1;split at e
   .rename_i hz;split at e
    .rename_i ys M3 e2;cases e;exact ⟨_,_,_,e1,hz,_,_,e2,p⟩
    .cases e
   .cases e
  .cases e
 .rintro ⟨xs,gd,M1,e1,hz,ys,M2,e2,p⟩;rw[e1];dsimp only;rw[AD hz,e2];exact ⟨_,_,rfl,p⟩
def Fq {h:FE} {x:EV} {M1:Mem} {xs:List D} (e:h Y M=some (x,M1)) (e2:Ai M1 x=some xs):Ah h Y M=some (xs,HM x xs,M1):=by
 unfold Ah;rw[e];dsimp only;rw[e2]
def Ol {a:FA} {M1:Mem} {j:Int} (e:a Y M=some ([.int j],M1)) (h1:0<=j) (h2:j<2 ^ 62):zl a Y M=some ((List.range j.toNat).map λ(k:Nat)=>D.int k,none,M1):=by
 unfold zl;rw[e];dsimp only;rw[AD ⟨by omega,h2⟩]
def By:Ok (zt (.dat (.int i)) (.dat (.int j)) M) P ↔ P (.dat (.int (i+j))) M:=Be
def Hj:Ok (Cb (.dat (.int i)) (.dat (.int j)) M) P ↔ P (.dat (.int (i-j))) M:=Be
def Z9:Ok (DI (.dat (.int i)) (.dat (.int j)) M) P ↔ HH i j=true/\P (.dat (.int (i*j))) M:=by
 unfold DI kI;dsimp only;split
 .rename_i h;rw[Be];simp[h]
 .rename_i h;rw[JY];simp[h]
def XH:Ok (CD (.dat (.int i)) (.dat (.int j)) M) P ↔ 0<j/\P (.dat (.int (i % j))) M:=by
 unfold CD kI;dsimp only;split
 .rename_i h;rw[Be];simp at h;simp[h]
 .rename_i h;rw[JY];simp at h;simp;intro h';omega
def TM:Ok (Fo (.dat (.int i)) (.dat (.int j)) M) P ↔ (0<j/\j<1073741824)/\P (.dat (.int (i / j))) M:=by
 unfold Fo kI;dsimp only;split
 .rename_i h;rw[Be];simp at h;simp[h]
 .rename_i h;rw[JY];simp at h;simp;intro h' h2;have:=h h';omega
def Xb:Ok (G3 (.dat (.int i)) (.dat (.int j)) M) P ↔ (0<=j/\j<=1000000/\i.natAbs<2 ^ 64)/\P (.dat (.int (i ^ j.toNat))) M:=by
 unfold G3 kI;dsimp only;split
 .rename_i h;rw[Be];simp only[Ap,EA]at h;simp[h]
 .rename_i h;rw[JY];simp only[Ap,EA,not_and]at h;simp only[false_iff,not_and];intro ⟨a,b,c⟩;exact absurd c (h ⟨a,b⟩)
def II:Ok (kLt (.dat (.int i)) (.dat (.int j)) M) P ↔ P (.dat (.bl (decide (i<j)))) M:=Be
def LZ:Ok (kLe (.dat (.int i)) (.dat (.int j)) M) P ↔ P (.dat (.bl (decide (i<=j)))) M:=Be
def KY:Ok (kGt (.dat (.int i)) (.dat (.int j)) M) P ↔ P (.dat (.bl (decide (j<i)))) M:=Be
def Ez:Ok (kEq (.dat (.int i)) (.dat (.int j)) M) P ↔ P (.dat (.bl (decide (i=j)))) M:=by
 have:kEq (.dat (.int i)) (.dat (.int j)) M=some (.dat (.bl (decide (V.int i=V.int j))),M):=rfl;rw[this,Be];simp
def Jh {x:EV} {xs:List D} {d:D} (h:Ai M x=some xs) (hd:atI xs i=some d) (p:P (.dat d) M):Ok (kIx x (.dat (.int i)) M) P:=by
 have:kIx x (.dat (.int i)) M=some (.dat d,M):=by unfold kIx;dsimp only;rw[h];dsimp only;rw[hd]
 rw[this,Be];exact p
def NQ {xs:List D} {k:Nat} {d:D} (h:xs[k]?=some d):atI xs (k:Int)=some d:=DL h
def EJ {xs:List D} {i:Int} {d:D} (h0:0<=i) (h:xs[i.toNat]?=some d):atI xs i=some d:=by
 have:i=((i.toNat:Nat):Int):=by omega
 rw[this];exact DL h
def SJ {x:EV} {xs:List D} (h:Ai M x=some xs):Ok (zg [x] M) P ↔ P (.dat (.int xs.length)) M:=by
 have:zg [x] M=some (.dat (.int xs.length),M):=by unfold zg;dsimp only;rw[h]
 rw[this,Be]
def Xr {x:EV} {xs:List D} (h:Ai M x=some xs):Ok (ze [x] M) P ↔ P (.dat (.tup xs)) M:=by
 have:ze [x] M=some (.dat (.tup xs),M):=by unfold ze;dsimp only;rw[h]
 rw[this,Be]
def XU {k:Bool}:Ok (C9 [.dat (.bl k)] M) P ↔ P (.dat (.int (if k then 1 else 0))) M:=Be
def S9 {x:EV} {xs:List D} {lo hi:Ys} (h:CH M x=some xs) (ht:B7 x=none):Ok (kSl x lo hi M) P ↔ P (.fl (C2 xs lo hi)) M:=by
 have:kSl x lo hi M=some (.fl (C2 xs lo hi),M):=by unfold kSl;rw[ht];dsimp only;rw[h]
 rw[this,Be]
def zV {xs:List D}:Ai M (.dat (.tup xs))=some xs:=rfl
def Cy {xs:List D}:Ai M (.fl xs)=some xs:=rfl
def Kg {xs:List D}:CH M (.fl xs)=some xs:=rfl
def Fm {n:Nat} {xs:List D} (h:M[n]?=some (.lst xs)):CH M (.dat (.ref n))=some xs:=by unfold CH;dsimp only;rw[h]
def Tw {n:Nat} {xs:List D} (h:M[n]?=some (.fro xs)):CH M (.dat (.ref n))=some xs:=by unfold CH;dsimp only;rw[h]
def zv {n:Nat} {xs:List D} (h:M[n]?=some (.lst xs)):Ai M (.dat (.ref n))=some xs:=Fm h
def Mh {n:Nat} {xs:List D} (h:M[n]?=some (.fro xs)):Ai M (.dat (.ref n))=some xs:=Tw h
def Lj {n:Nat} {xs:List D} {d:D} {Q:D->Mem->Prop} (h:M[n]?=some (.lst xs)) (hz:xs.length<sizeLine):Ok (Dp (.dat (.ref n)) [d] M) Q ↔ Q .non (M.set n (.lst (xs++[d]))):=by
 have:Dp (.dat (.ref n)) [d] M=some (.non,M.set n (.lst (xs++[d]))):=by unfold Dp;dsimp only;rw[h];dsimp only;rw[AD hz]
 rw[this,Be]
def Oa {n k:Nat} {xs:List D} {d:D} (h:M[n]?=some (.lst xs)) (hk:k<xs.length):HP (.dat (.ref n)) (.int k) d M=some (M.set n (.lst (xs.set k d))):=by
 unfold HP;dsimp only;rw[h];dsimp only;have e:ixN xs.length (k:Int)=some k:=by unfold ixN;rw[AD (by omega),AD (by omega)];simp
 rw[e]
def Ih {m:FF} {ds:List D} {M:Mem} {Q:D->Mem->Prop} (h:Ok (m ds M) λd M1=>(D.und M.length d=true/\M.length<=M1.length /\ ∀ (j:Nat) u,j<M.length->M1[j]?=some u->MO.und M.length u=true)/\Q d (M1.take M.length)):Ok (EW m ds M) Q:=by
 obtain ⟨d,M1,e,⟨h1,h2,h3⟩,q⟩:=h;unfold EW;rw[e];dsimp only;rw[AD]
 .exact ⟨_,_,rfl,q⟩
 .simp only[Ap,EA,Ab];refine ⟨⟨h1,λu hu=>?_⟩,h2⟩;obtain ⟨j,hj⟩:=List.getElem?_of_mem hu;have hlt:j<M.length:=by
   have:=(AK.mp hj).1;rw[BN]at this;omega
  rw[Gj hlt]at hj;exact h3 j u hlt hj
def Eo {m:FF} {ds:List D} {M:Mem} {Q:D->Mem->Prop} (h0:D.unds 0 ds=true) (h:Ok (m ds []) λd _=>D.und 0 d=true/\Q d M):Ok (Dh m ds M) Q:=by
 obtain ⟨d,M1,e,h1,q⟩:=h;unfold Dh;rw[AD h0,e];dsimp only;rw[AD h1];exact ⟨_,_,rfl,q⟩
def Tup.but (x:h.IsTuple a its) (hs:Heap.ExtBut b h h') (n:a≠b):h'.IsTuple a its:=x.extBut hs n
def Ua (I:s.heap.IsTupleIter it t i) (T:s.heap.IsTuple t its) (hx:its[i]?=some x)
  (q:∀ h',h'.IsTupleIter it t (i+1)->Heap.SameBut it s.heap h'->Q x { s with heap:=h' }):wpAny (model prog w) A (Builtin.SmallTypes.nextOf (.ref it)) Q E s:=by
 obtain ⟨o,O,C,FD⟩:=id I;obtain ⟨u,U,_,m,G⟩:=T;unfold Builtin.SmallTypes.nextOf;refine AA (CY I.typeIs PySem.F.slot_tuple_iterator_next (BY PySem.F.slot_tuple_iterator_next I.typeIs PySem.F.entry_tuple_iterator_next ?_ (PySem.F.args_tuple_iterator_next_1 _)));refine AA (m:=field (.ref it) 0) (Cm O FD (x:=.ref t) rfl ?_);rw[AE (show ¬ ((Value.ref t==Value.none)=true) by exact AY)];refine AA (Cm O FD rfl ?_);refine AA (wpAny_seqItems U G ?_);simp only[hx,BG];refine AA (DW O FD (by simp) (AB ⟨x,rfl,AB (q _ ⟨_,EF _ O (Obj.isFreed_of_fields (Dj FD _)),(Obj.cls_mapFields ..).trans C,?_⟩ (Ct ..))⟩));rw[Dj FD];simp[rawInt]
def MM (hh:A.handled=none) (I:s.heap.IsTupleIter it t i) (T:s.heap.IsTuple t its) (hx:its[i]?=none)
  (q:∀ h' e,Heap.ExtBut it s.heap h'->(∃ o,h'.get? e=some o/\o.cls=.type "StopIteration")->E (.ref e) { s with heap:=h' }):wpAny (model prog w) A (Builtin.SmallTypes.nextOf (.ref it)) Q E s:=by
 obtain ⟨o,O,C,FD⟩:=id I;obtain ⟨u,U,_,m,G⟩:=T;unfold Builtin.SmallTypes.nextOf;refine AA (CY I.typeIs PySem.F.slot_tuple_iterator_next (BY PySem.F.slot_tuple_iterator_next I.typeIs PySem.F.entry_tuple_iterator_next ?_ (PySem.F.args_tuple_iterator_next_1 _)));refine AA (m:=field (.ref it) 0) (Cm O FD (x:=.ref t) rfl ?_);rw[AE (show ¬ ((Value.ref t==Value.none)=true) by exact AY)];refine AA (Cm O FD rfl ?_);refine AA (wpAny_seqItems U G ?_);simp only[hx,BG];refine AA (Ca (AA (DW O FD (by simp) ?_)));refine AA ?_;simp only[newTuple,newExc];refine AA (BI (AA (wpAny_of_eq (by first|rfl|(simp only[firstArgMember];rfl)) (BI ?_ (by size_fits)))) (by size_fits));simp only[raiseNew];refine AA (wpAny_handled ?_);first|rw[hh]|rw[show A.in1.handled=none from hh]
 exact AA (AB (wpAny_throw (q _ _ (((Ct ..).extBut.push _).push _) ⟨_,AN _ rfl,rfl⟩)))
def OR {X:Cx} {zB:Yd} {Y:L2.St} {H:Hp} {s:Yl} {h':Heap} {t':Nat} {ch:Yg} {T:Yt} {o:HO} (I:Inv X zB Y H s) (hf:∀ b∈ch,B0 X zB H b)
  (k:∀ b u,b∉ch->s.heap.get? b=some u->h'.get? b=some u) (hT:s.heap.objs.size<=T) (new:zr X.prog X.w (upd H T o) h' T o):Inv X zB Y (upd H T o) { s with heap:=h',toks:=t' }:=by
 have hn:H T=none:=I.hok.fresh hT;have nch:∀ b u,H b=some u->b∉ch:=λb u e z=>by rw[(hf b z).1]at e;cases e
 have un:∀ b u,H b=some u->upd H T o b=some u:=λb u e=>by rw[zP (zi e hn)];exact e
 refine I.step (g':=s.gens) (d':=s.drawn) (ch:=ch) (λb hb=>⟨(hf b hb).2.2.2.1,(hf b hb).2.1,(hf b hb).2.2.2.2.1,(hf b hb).2.2.2.2.2⟩) (λb u _ _ hc e _=>k b u hc e) (λb u _ _ hc e _=>⟨u.slots,k b u hc e⟩)
  (λb u _ e n=>by rw[zP (λz=>by rw[z]at e;exact absurd (AI e) (Nat.not_lt.mpr hT))];exact n) (λb u hc e=>⟨u,k b u hc e⟩) (λb xs e=>un b _ e) (λb p u e=>un b _ e) (λb ps e=>⟨#[],by rw[un b _ e];simp⟩) (λm hm=>?_) (λb u e=>?_) I.bare
 .obtain ⟨p,es,ep,ho,r⟩:=hm;exact ⟨p,es,ep,k _ p (λz=>(hf _ z).2.1 rfl) ho,r⟩
 .by_cases hb:b=T
  .subst hb;rw[zq]at e;cases e;exact new
  .rw[zP hb]at e;refine (I.hok b u e).stay (λc v hc q=>k c v ?_ q) (λc q=>un c _ q) λc xs q=>un c _ q;rcases hc with z|z
   .rw[z];exact nch b u e
   .exact nch c _ z
def Me {X:Cx} {zB:Yd} {Y:L2.St} {H:Hp} {s:Yl} {h':Heap} {t':Nat} {ch:Yg} (I:Inv X zB Y H s) (hf:∀ b∈ch,B0 X zB H b)
  (k:∀ b u,b∉ch->s.heap.get? b=some u->h'.get? b=some u):Inv X zB Y H { s with heap:=h',toks:=t' }:=by
 have nch:∀ b u,H b=some u->b∉ch:=λb u e z=>by rw[(hf b z).1]at e;cases e
 refine I.step (g':=s.gens) (d':=s.drawn) (ch:=ch) (λb hb=>⟨(hf b hb).2.2.2.1,(hf b hb).2.1,(hf b hb).2.2.2.2.1,(hf b hb).2.2.2.2.2⟩) (λb u _ _ hc e _=>k b u hc e) (λb u _ _ hc e _=>⟨u.slots,k b u hc e⟩)
  (λb u _ e n=>n) (λb u hc e=>⟨u,k b u hc e⟩) (λb xs e=>e) (λb p u e=>e) (λb ps e=>⟨#[],by rw[e];simp⟩) (λm hm=>?_) (λb u e=>?_) I.bare
 .obtain ⟨p,es,ep,ho,r⟩:=hm;exact ⟨p,es,ep,k _ p (λz=>(hf _ z).2.1 rfl) ho,r⟩
 .refine (I.hok b u e).stay (λc v hc q=>k c v ?_ q) (λc q=>q) λc xs q=>q;rcases hc with z|z
  .rw[z];exact nch b u e
  .exact nch c _ z
noncomputable def Dq (i j:Nat):FG:=λd Y=>match d with
 |.tup [x,y]=>some ((Y.set i (some x)).set j (some y))
 |_=>none
noncomputable abbrev gP2 (K:Yb) (i j:Nat):TG:=Lu K 2 (G2 (Cz i) (G2 (Cz j) KP))
def eW {K:Yb} {i j:Nat}:GOk (gP2 K i j) (Dq i j):=by
 intro L H Y Y' τ d v Q rs r hf q;unfold Dq at hf;split at hf
 .rename_i x y;cases hf;unfold Rep at r;obtain ⟨a,vs,rfl,e,r⟩:=r;obtain ⟨v1,v2,rfl,r1,r2⟩:=r.two;exact ⟨a,_,rfl,.of e,rfl,v1,[v2],rfl,v2,[],rfl,rfl,q _ ((rs.set r1).set r2)⟩
 .cases hf
def Vy {K:Yb} {own:Yj} {i j:Nat} (hi:i∈own) (hj:j∈own):Fl own (gP2 K i j) (Dq i j):=by
 intro L H Y Y' τ τ0 d v Q rs ex r hf q;unfold Dq at hf;split at hf
 .rename_i x y;cases hf;unfold Rep at r;obtain ⟨a,vs,rfl,e,r⟩:=r;obtain ⟨v1,v2,rfl,r1,r2⟩:=r.two;exact ⟨a,_,rfl,.of e,rfl,v1,[v2],rfl,v2,[],rfl,rfl,q _ ((rs.set r1).set r2) ((ex.set hi).set hj)⟩
 .cases hf
section
variable {X:Cx} {a b c e:Expr} {es:Yi} {pos p p2 pos2:Pos} {f g h:FE}
theorem Kf:∀ {bs:List Bool} {its:Yf},zX (bs.map V.bl) its -> ∀ (i:Nat) v,its[i]?=some v -> ∃ k,bs[i]?=some k/\v=.bool k
 |[],_,.nil,_,_,h=>by simp at h
 |k::bs,_,.cons r t,0,v,h=>by
  simp at h;subst h;exact ⟨k,rfl,r⟩
 |k::bs,_,.cons r t,i+1,v,h=>by
  obtain ⟨k',e1,e2⟩:=Kf t i v (by simpa using h);exact ⟨k',by simpa using e1,e2⟩
def aK (bs:List Bool):((List.range bs.length).all λi=>(bs[i]?).getD true)=bs.all id:=by
 rw[Dt,Ab,Ab];constructor
 .intro q k hk;obtain ⟨i,hi,rfl⟩:=DZ hk;have:=q i (DD.mpr hi);rw[AJ hi]at this;exact this
 .intro q i hi;rw[AJ (DD.mp hi)];exact q _ (Aq _)
def RC (bs:List Bool):((List.range bs.length).any λi=>(bs[i]?).getD false)=bs.any id:=by
 rw[Dt,El,El];constructor
 .rintro ⟨i,hi,q⟩;rw[AJ (DD.mp hi)]at q;exact ⟨_,Aq _,q⟩
 .rintro ⟨k,hk,q⟩;obtain ⟨i,hi,rfl⟩:=DZ hk;exact ⟨i,DD.mpr hi,by rw[AJ hi];exact q⟩
def LR (K:Yb) (F:List Bool->Bool):List V->Hp->VK->Prop:=λxs H Q=>∃ q bs,xs=[.ref q]/\SqL K H q (bs.map V.bl)/\Q (.bl (F bs)) H
def RJ (hc:X.calm=true):B9 X (.builtin "all") (LR X.K λbs=>bs.all id):=by
 intro zB s Y H xs us Q I r h;obtain ⟨l,bs,rfl,hq,q⟩:=h;obtain ⟨u,rfl,rx⟩:=D5 r;cases rx;obtain ⟨its,rv,pl,_⟩:=I.list hq;have hlt:l<s.heap.objs.size:=by obtain ⟨_,z,_⟩:=pl.isList;exact AI z
 refine call_all_walk (wpAny_pyIter_list pl.isList ⟨s.heap.objs.size,[s.heap.objs.size,l],[s.heap.objs.size],its.toArray.size,_,_,λi=>(bs[i]?).getD true,rfl,Walks.list (A:=X.A.in1) (I.ok.hd hc) _ l (AX hlt) its.toArray,
  ⟨⟨_,AN _ rfl,rfl,rfl⟩,pl.isList.push _⟩,λi v s' Q' E' hP hQ=>?_,λh' tk hk=>?_⟩)
 .obtain ⟨k,z,rfl⟩:=Kf rv i v (by simpa using hP);dsimp only at hQ;rw[z]at hQ;exact EL hQ
 .have hl:=rv.length;rw[AG]at hl;rw[AZ,<-hl,aK];exact ⟨.bl _,H,I.kept (t':=tk) λb o z=>hk b o (λm=>by rw[AU.mp m]at z;exact Bh _ (AI z)) (AH _ z),rfl,q⟩
def Ur (hc:X.calm=true):B9 X (.builtin "any") (LR X.K λbs=>bs.any id):=by
 intro zB s Y H xs us Q I r h;obtain ⟨l,bs,rfl,hq,q⟩:=h;obtain ⟨u,rfl,rx⟩:=D5 r;cases rx;obtain ⟨its,rv,pl,_⟩:=I.list hq;have hlt:l<s.heap.objs.size:=by obtain ⟨_,z,_⟩:=pl.isList;exact AI z
 refine call_any_walk (wpAny_pyIter_list pl.isList ⟨s.heap.objs.size,[s.heap.objs.size,l],[s.heap.objs.size],its.toArray.size,_,_,λi=>(bs[i]?).getD false,rfl,Walks.list (A:=X.A.in1) (I.ok.hd hc) _ l (AX hlt) its.toArray,
  ⟨⟨_,AN _ rfl,rfl,rfl⟩,pl.isList.push _⟩,λi v s' Q' E' hP hQ=>?_,λh' tk hk=>?_⟩)
 .obtain ⟨k,z,rfl⟩:=Kf rv i v (by simpa using hP);dsimp only at hQ;rw[z]at hQ;exact EL hQ
 .have hl:=rv.length;rw[AG]at hl;rw[AZ,<-hl,RC];exact ⟨.bl _,H,I.kept (t':=tk) λb o z=>hk b o (λm=>by rw[AU.mp m]at z;exact Bh _ (AI z)) (AH _ z),rfl,q⟩
noncomputable def Et:List D->Option (List Bool)
 |[]=>some []
 |.bl k::r=>match Et r with
  |some bs=>some (k::bs)
  |none=>none
 |_=>none
theorem MP:∀ {ds:List D} {bs:List Bool} {vs:List V},Et ds=some bs->zH L H ds vs->vs=bs.map V.bl
 |[],bs,vs,e,r=>by cases e;unfold zH at r;exact r
 |d::ds,bs,vs,e,r=>by
  unfold zH at r;obtain ⟨v,r',rfl,r1,r2⟩:=r;cases d with
  |bl k=>
   unfold Et at e;cases q:Et ds with
   |none=>rw[q]at e;cases e
   |some bs'=>
    rw[q]at e;cases e;unfold Rep at r1;rw[r1,MP q r2];rfl
  |_=>cases e
noncomputable def Fp (F:List Bool->Bool):KB:=λxs M=>match xs with
 |[x]=>match CH M x with
  |some ds=>match Et ds with
   |some bs=>some (.dat (.bl (F bs)),M)
   |none=>none
  |none=>none
 |_=>none
def OG {K:Yb} {F:List Bool->Bool}:Dd K (LR K F) (Fp F):=by
 intro L M M' H H0 xs d vs Q c r hk q;unfold Fp at hk;split at hk
 .rename_i x;split at hk
  .rename_i ds e1;split at hk
   .rename_i bs e2;cases hk;obtain ⟨v,rfl,r1⟩:=r.one;obtain ⟨l,ws,rfl,h1,r2⟩:=Eb c r1 e1;have:=MP e2 r2;subst this;exact ⟨l,bs,rfl,.inl h1,q L H _ (.refl L H) c (CI (L:=L) (H:=H))⟩
   .cases hk
  .cases hk
 .cases hk
noncomputable abbrev EN:KB:=Fp λbs=>bs.all id
noncomputable abbrev Fc:KB:=Fp λbs=>bs.any id
section
variable {fa:FAE}
def VS (hc:X.calm=true) (hg:Gl X "all") (hm:X.mg "all" = none) (ha:QAE X [e] fa) (he:starEach [e] X.env=(false,eval e X.env)::starEach [] X.env:=by rfl) (hpl:(backTo pos (starEach [] X.env)).any (·.1)=false:=by rfl):QE X (.Call (.Name "all" p) [e] [] pos) (fB EN fa) :=
 Gn OG (RJ hc) (by rfl) hg hm ha (by decide) (by decide) he hpl
def Zo (hc:X.calm=true) (hg:Gl X "any") (hm:X.mg "any" = none) (ha:QAE X [e] fa) (he:starEach [e] X.env=(false,eval e X.env)::starEach [] X.env:=by rfl) (hpl:(backTo pos (starEach [] X.env)).any (·.1)=false:=by rfl):QE X (.Call (.Name "any" p) [e] [] pos) (fB Fc fa) :=
 Gn OG (Ur hc) (by rfl) hg hm ha (by decide) (by decide) he hpl
end
def Jm (h:CH M x=some ds) (hb:Et ds=some bs):Ok (Fp F [x] M) P ↔ P (.dat (.bl (F bs))) M:=by
 have:Fp F [x] M=some (.dat (.bl (F bs)),M):=by unfold Fp;dsimp only;rw[h];dsimp only;rw[hb]
 rw[this,Be]
theorem IW:∀ bs:List Bool,Et (bs.map D.bl)=some bs
 |[]=>rfl
 |k::bs=>by rw[Ad];unfold Et;rw[IW bs]
noncomputable def LW:V->Bool
 |.non=>true
 |.bl _=>true
 |_=>false
def VI:OpR X (compareOp .Is) (λx y H Q=>LW y=true/\Q (.bl (decide (x=y))) H):=by
 intro zB s Y H x y v u Q I rx ry h;obtain ⟨hp,q⟩:=h;cases y with
 |non=>
  cases ry;refine wpAny_is_plain (by cases x <;> first|(cases rx;rfl)|(obtain ⟨t,rfl⟩:=rx;rfl)) (zm I q ?_);cases x <;> first|(cases rx;rfl)|(obtain ⟨t,rfl⟩:=rx;rfl)
 |bl k=>
  cases ry;refine wpAny_is_plain (by cases x <;> first|(cases rx;rfl)|(obtain ⟨t,rfl⟩:=rx;rfl)) (zm I q ?_);cases x with
  |bl k'=>cases rx;cases k <;> cases k' <;> rfl
  |_=>first|(cases rx;rfl)|(obtain ⟨t,rfl⟩:=rx;rfl)
 |_=>cases hp
noncomputable def isD:EV->D->Option Bool
 |x,.non=>match x with
  |.dat .non=>some true
  |_=>some false
 |x,.bl k=>match x with
  |.dat (.bl k')=>some (decide (k'=k))
  |_=>some false
 |_,_=>none
noncomputable def kIs (neg:Bool):K2:=λx y M=>match y with
 |.dat d=>match isD x d with
  |some k=>some (.dat (.bl (if neg then !k else k)),M)
  |none=>none
 |_=>none
def XZ (rx:zT H0 L H x v) (ry:Rep L H d w) (e:isD x d=some k):LW w=true/\decide (v=w)=k:=by
 cases d with
 |non=>
  unfold Rep at ry;subst ry;refine ⟨rfl,?_⟩;cases x with
  |fl xs=>obtain ⟨q,vs,rfl,_⟩:=rx;cases e;rfl
  |dat d'=>
   cases d' with
   |non=>unfold zT Rep at rx;subst rx;cases e;rfl
   |bl _=>unfold zT Rep at rx;subst rx;cases e;rfl
   |int _=>unfold zT Rep at rx;subst rx;cases e;rfl
   |str _=>unfold zT Rep at rx;subst rx;cases e;rfl
   |tup _=>unfold zT Rep at rx;obtain ⟨q,vs,rfl,_⟩:=rx;cases e;rfl
   |ref _=>unfold zT Rep at rx;obtain ⟨q,rfl,_⟩:=rx;cases e;rfl
   |fn _ _=>unfold zT Rep at rx;obtain ⟨rfl,_⟩:=rx;cases e;rfl
 |bl k'=>
  unfold Rep at ry;subst ry;refine ⟨rfl,?_⟩;cases x with
  |fl xs=>obtain ⟨q,vs,rfl,_⟩:=rx;cases e;rfl
  |dat d'=>
   cases d' with
   |non=>unfold zT Rep at rx;subst rx;cases e;rfl
   |bl j=>unfold zT Rep at rx;subst rx;cases e;cases j <;> cases k' <;> rfl
   |int _=>unfold zT Rep at rx;subst rx;cases e;rfl
   |str _=>unfold zT Rep at rx;subst rx;cases e;rfl
   |tup _=>unfold zT Rep at rx;obtain ⟨q,vs,rfl,_⟩:=rx;cases e;rfl
   |ref _=>unfold zT Rep at rx;obtain ⟨q,rfl,_⟩:=rx;cases e;rfl
   |fn _ _=>unfold zT Rep at rx;obtain ⟨rfl,_⟩:=rx;cases e;rfl
 |_=>cases e
def Wn (h:kIs neg x y M=some (r,M')):∃ d k,y=.dat d/\isD x d=some k/\r=.dat (.bl (if neg then !k else k))/\M'=M:=by
 unfold kIs at h;split at h
 .rename_i d;split at h
  .rename_i k e1;cases h;exact ⟨d,k,rfl,e1,rfl,rfl⟩
  .cases h
 .cases h
def bH {K:Yb}:BE K (λx y H Q=>LW y=true/\Q (.bl (decide (x=y))) H) (kIs false):=by
 intro L M M' H H0 x y d v w Q cc rx ry hk q;obtain ⟨d',k,rfl,e,rfl,rfl⟩:=Wn hk;obtain ⟨h1,h2⟩:=XZ rx ry e;refine ⟨h1,?_⟩;rw[h2];exact q L H _ (.refl L H) cc (CI (L:=L) (H:=H))
def cU (h1:QE X a f) (h2:QE X b g):QT X (.Compare a [.Is] [b] pos) (tst (fOp (kIs false) f g)):=Fg bH VI h1 h2 (E1 _)
noncomputable def FH (k k':K2) (f g h:FE):FE:=λY M=>match f Y M with
 |some (x,M1)=>match g Y M1 with
  |some (y,M2)=>match k x y M2 with
   |some (.dat (.bl true),M3)=>match h Y M3 with
    |some (w,M4)=>k' y w M4
    |none=>none
   |some (.dat (.bl false),M3)=>some (.dat (.bl false),M3)
   |_=>none
  |none=>none
 |none=>none
def VD {K:Yb} {r r':R2} {k k':K2} (hk:BE K r k) (hk':BE K r' k') {τ:Sv} {H:Hp} {Q:VK} (z:trE K (FH k k' f g h) τ H Q):NZ r r' (trE K f) (trE K g) (trE K h) τ H Q:=by
 obtain ⟨L,Y,M,d,M',cc,rs,hf,q⟩:=z;unfold FH at hf;split at hf
 .rename_i x M1 e1;split at hf
  .rename_i y M2 e2;refine (mkE cc rs e1 (λL1 H1 v s1 c1 r1=>(mkE c1 (rs.stp s1) e2 (λL2 H2 w s2 c2 r2=>?_))));split at hf
   .rename_i M3 e3;split at hf
    .rename_i u M4 e4;refine hk (H0:=H) c2 (r1.stp s2) (r2.back s1 cc s2.sub) e3 λL3 H3 t s3 c3 r3=>⟨true,E8 r3,FX ?_⟩;refine (mkE c3 (rs.stp ((s1.trans s2).trans s3)) e4 (λL4 H4 w4 s4 c4 r4=>?_));have s13:=(s1.trans s2).trans s3;refine hk' (H0:=H) c4 (((r2.back s1 cc s2.sub).stp s3).stp s4) (r4.back s13 cc s4.sub) hf λL5 H5 u5 s5 c5 r5=>?_;exact q L5 H5 u5 ((s13.trans s4).trans s5) c5 (r5.back (s13.trans s4) cc s5.sub)
    .cases hf
   .rename_i M3 e3;cases hf;refine hk (H0:=H) c2 (r1.stp s2) (r2.back s1 cc s2.sub) e3 λL3 H3 t s3 c3 r3=>⟨false,E8 r3,Ft ?_⟩;exact q L3 H3 _ ((s1.trans s2).trans s3) c3 (by have:=E8 r3;subst this;exact r3)
   .cases hf
  .cases hf
 .cases hf
def UO (hk:BE X.K r k) (hk':BE X.K r' k') (ho:OpR X (compareOp op) r) (ho':OpR X (compareOp op') r') (h1:QE X a f) (h2:QE X b g) (h3:QE X c h)
  (hm:lastMarks [op,op'] [b,c]=false:=by with_unfolding_all rfl):QE X (.Compare a [op,op'] [b,c] pos) (FH k k' f g h):=.mk <| PE.imp (dR ho ho' h1.un h2.un h3.un hm) λ_ _ _ z=>VD hk hk' z
section
variable {M:Mem} {Y:Sd} {P:EV->Mem->Prop}
def U1:Ok (FH k k' f g h Y M) P ↔ Ok (f Y M) λx M1=>Ok (g Y M1) λy M2=>Ok (k x y M2) (blP λt M3=>if t then Ok (h Y M3) λw M4=>Ok (k' y w M4) P else P (.dat (.bl false)) M3):=by
 unfold FH;constructor
 .rintro ⟨x,M1,z,q⟩;split at z
  .rename_i y M2 e1;split at z
   .rename_i y' M3 e2;split at z
    .rename_i M4 e3;split at z
     .rename_i w M5 e4;exact ⟨_,_,e1,_,_,e2,_,_,e3,by rw[GS,AD rfl];exact ⟨_,_,e4,_,_,z,q⟩⟩
     .cases z
    .rename_i M4 e3;cases z;exact ⟨_,_,e1,_,_,e2,_,_,e3,by rw[GS];simpa using q⟩
    .cases z
   .cases z
  .cases z
 .rintro ⟨x,M1,e1,y,M2,e2,t,M3,e3,q⟩;rw[e1];dsimp only;rw[e2];dsimp only;rw[e3];cases t with
  |fl _=>exact q.elim
  |dat d=>
   cases d with
   |bl t=>
    rw[GS]at q;cases t with
    |true=>
     rw[AD rfl]at q;obtain ⟨w,M4,e4,q⟩:=q;dsimp only;rw[e4];exact q
    |false=>exact ⟨_,_,rfl,by simpa using q⟩
   |_=>exact q.elim
end
noncomputable def Dn:KB:=λxs M=>match xs with
 |[x]=>match Ai M x with
  |some ys=>some (.fl ys,M)
  |none=>none
 |_=>none
def cH:Dd X.K (λxs H Q=>∃ q ys,xs=[.ref q]/\(SqL X.K H q ys\/SqT X.K H q ys) /\ ∀ l,H l=none->Q (.ref l) (upd H l (.lst ys))) Dn:=by
 intro L M M' H H0 xs d vs Q cc r hk q;unfold Dn at hk;split at hk
 .rename_i x;split at hk
  .rename_i ys e1;cases hk;obtain ⟨v,rfl,r1⟩:=r.one;obtain ⟨l,ws,rfl,hs,r2⟩:=F1 cc r1 e1;refine ⟨l,ws,rfl,hs,λk hk=>?_⟩;exact q L _ _ (.upd hk) (cc.upd hk) (zT.newLst (.refl L H) cc cc hk r2)
  .cases hk
 .cases hk
def Tj (hg:Gl X "list") (hm:X.mg "list" = none) (ha:QAE X [e] fa) (he:starEach [e] X.env=(false,eval e X.env)::starEach [] X.env:=by rfl) (hpl:(backTo pos (starEach [] X.env)).any (·.1)=false:=by rfl):QE X (.Call (.Name "list" p) [e] [] pos) (fB Dn fa) :=
 J8 cH d8 (by rfl) hg hm ha (by decide) (by decide) he hpl
end
open AutoSeq1 (wpAny_loadPart')
def SO {r:Yt} {lo hi:Int} {t u v:Tok} {n:Nat} {Q:List Value->Shared->Prop} (hh:A.handled=none) (R:IsRange s.heap r lo hi 1 t u v) (sm:Builtin.Range.small lo hi 1=true) (hn:Builtin.Range.rangeSize lo hi 1=n) (hz:n<=2 ^ 24)
  (q:∀ h' tk (acc:Yp),(∀ b o,s.heap.get? b=some o->h'.get? b=some o)->ItemsOf (λi v=>∃ t,v=.int (lo+i*1) t) acc n->Q acc.toList { s with heap:=h',toks:=tk }):wpAny (model prog w) A (collect (.ref r)) Q E s:=by
 unfold collect;refine AA (wpAny_runValue (C1 PySem.F.entry_proto_collect ?_));rw[Dv PySem.F.plain_proto_collect _];refine AA (m:=newList []) (BI (AB ⟨plainId_quiet PySem.F.plain_list_iadd _,C1 PySem.F.entry_list_iadd ?_⟩));rw[Dv PySem.F.plain_list_iadd _];have S0:(s.heap.push { cls:=.type "list", data:=.seq ([]:List Value).toArray }).get? s.heap.objs.size=some { cls:=.type "list", data:=.seq #[] 0 }:=AN _ rfl
 have fin:∀ (h':Heap) (tk:Nat) (acc:Array Value) (k:Nat),(∀ b o,b≠s.heap.objs.size->(s.heap.push { cls:=.type "list", data:=.seq ([]:List Value).toArray }).get? b=some o->h'.get? b=some o) ->
   h'.get? s.heap.objs.size=some { cls:=.type "list", dict:=none,data:=.seq acc k,slots:=#[] }->ItemsOf (λi v=>∃ t,v=.int (lo+i*1) t) acc n ->
   wpAny (model prog w) A (match Value.ref s.heap.objs.size with
    |Value.ref a=>do
     match (<- load a).data with
      |Data.seq xs _=>pure xs.toList
      |_=>unsupported "internal:collect"
    |_=>unsupported "internal:collect") Q E { s with heap:=h',toks:=tk }:=λh' tk acc k kp e it=>by
  refine AA (m:=load s.heap.objs.size) (wpAny_load e (AB (q h' tk acc (λb o m=>kp b o (AX (AI m)) (AH _ m)) it)))
 refine Ar (wpAny_extend_range (A:=A) (s:={ s with heap:=s.heap.push { cls:=.type "list", data:=.seq ([]:List Value).toArray } })
  (R:=λr s'=>r=.ok (.ret (.ref s.heap.objs.size)) /\ ∃ h' tk acc k,s'={ s with heap:=h',toks:=tk }/\(∀ b o,b≠s.heap.objs.size->(s.heap.push { cls:=.type "list", data:=.seq ([]:List Value).toArray }).get? b=some o->h'.get? b=some o) /\
   h'.get? s.heap.objs.size=some { cls:=.type "list", dict:=none,data:=.seq acc k,slots:=#[] }/\ItemsOf (λi v=>∃ t,v=.int (lo+i*1) t) acc n)
  hh (AH _ R) sm hn hz s.heap.objs.size (.ref s.heap.objs.size) 0 S0 λh' tk acc k kp e it=>⟨rfl,h',tk,acc,k,rfl,kp,e,it⟩) (λf s' z=>?_) (λe s' z=>?_)
 .cases f with
  |done f=>
   obtain ⟨e,h',tk,acc,k,rfl,z1,z2,z3⟩:=z;cases e;exact fin h' tk acc k z1 z2 z3
  |again c'=>exact ⟨z.1,codeAny_mono z.2 λr s'' z=>by obtain ⟨rfl,h',tk,acc,k,rfl,z1,z2,z3⟩:=z;exact fin h' tk acc k z1 z2 z3⟩
 .exact absurd z.1 (by simp)
def U4 (r:Yt) (lo hi:Int) (t u v:Tok) (n:Nat) (sm:Builtin.Range.small lo hi 1=true) (hn:Builtin.Range.rangeSize lo hi 1=n) (hz:n<=2 ^ 24) :
  Meets (Builtin.«tuple.__new__» ⟨[.type "tuple", .ref r],[]⟩) (λA R s=>A.handled=none/\IsRange s.heap r lo hi 1 t u v /\
   ∀ (h':Heap) (tk:Nat) (acc:Array Value),(∀ b o,s.heap.get? b=some o->h'.get? b=some o)->ItemsOf (λi v=>∃ t,v=.int (lo+i*1) t) acc n->R (.ok (.ret (.ref h'.objs.size))) { s with heap:=h'.push { cls:=.type "tuple", data:=.seq acc },toks:=tk }) :=
 .of_wp λprog w A R s h=>by
  obtain ⟨hp,g,d,tk,os⟩:=s;obtain ⟨hh,Ra,h⟩:=h;have h1:=sub_tuple_self;have h2:=init_tuple_lookup;have h3:=madeHere_tuple;have T:Shared.TypeIs ⟨hp,g,d,tk,os⟩ (.ref r) "range" := ⟨_,Ra,rfl⟩;wp_walk using wpAny_loadPart' Ra,wpAny_typeOf T,SO (show A.in1.handled=none from hh) Ra sm hn hz;intro h' tk' acc kp it;refine AA (m:=Builtin.Tuple.tupleExact acc.toList.toArray) ?_;unfold Builtin.Tuple.tupleExact;have sz:acc.toList.toArray.size<=sizeLine:=by rw[AZ,BD,it.1,sizeLine_eq];omega
  refine BI (AB ⟨_,rfl,?_⟩) sz;have e:acc.toList.toArray=acc:=by simp
  rw[e];exact h h' tk' acc kp it
section
variable {X:Cx} {a e:Expr} {es:Yi} {pos p p2 pos2:Pos} {f:FE}
def Wf:B9 X (.type "range") (λxs H Q=>∃ j,xs=[.int j] /\ ∀ l,H l=none->Q (.ref l) (upd H l (.rng 0 j))):=by
 intro zB s Y H xs us Q I r h;obtain ⟨j,rfl,q⟩:=h;obtain ⟨u,rfl,rx⟩:=D5 r;obtain ⟨t,rfl⟩:=rx;refine call_range_1 ⟨.ref s.heap.objs.size,_,I.laid (λb o z=>AH _ z) (AF _) ?_,rfl,q _ (I.hok.fresh (AF _))⟩;exact ⟨_,_,_,AN _ rfl⟩
noncomputable def upV (n:Nat):List V:=(List.range n).map λ(k:Nat)=>V.int k
def YQ (h:ItemsOf (λi v=>∃ t,v=.int ((0:Int)+i*1) t) acc n):zX (upV n) acc.toList:=by
 obtain ⟨hz,hi⟩:=h;have:∀ (xs:Yf) (k:Nat),(∀ j v,xs[j]?=some v -> ∃ t,v=Value.int ((k+j:Nat):Int) t)->zX ((List.range' k xs.length).map λ(k:Nat)=>V.int k) xs:=by
  intro xs;induction xs with
  |nil=>intro k _;exact .nil
  |cons x xs ih=>
   intro k hk;rw[B5,List.range'_succ,Ad];refine .cons ?_ (ih (k+1) λj v e=>?_)
   .obtain ⟨t,e⟩:=hk 0 x rfl;exact ⟨t,by simpa using e⟩
   .obtain ⟨t,e'⟩:=hk (j+1) v (by simpa using e);exact ⟨t,by rw[e'];congr 2;omega⟩
 have q:=this acc.toList 0 (λj v e=>by
  obtain ⟨t,e'⟩:=hi j v (by simpa using e);exact ⟨t,by rw[e'];congr 1;omega⟩)
 unfold upV;rw[List.range_eq_range'];rw[BD,hz]at q;exact q
def Ut (h0:0<=j) (h1:j<=16777216):Builtin.Range.small 0 j 1=true/\Builtin.Range.rangeSize 0 j 1=(j.toNat:Int):=by
 refine ⟨small_one (by omega) (by omega) (by omega) (by omega),?_⟩;rw[rangeSize_one];split <;> omega
def Um (mk:List V->HO):List V->Hp->VK->Prop:=λxs H Q=>∃ r j,xs=[.ref r]/\H r=some (.rng 0 j)/\0<=j/\j<=16777216 /\ ∀ l,H l=none->Q (.ref l) (upd H l (mk (upV j.toNat)))
def S8 (n:Nat):(upV n).length=n:=by unfold upV;simp
def Sa (hc:X.calm=true):B9 X (.type "tuple") (Um HO.tup):=by
 intro zB s Y H xs us Q I r h;obtain ⟨l,j,rfl,hr,h0,h1,q⟩:=h;obtain ⟨u,rfl,rx⟩:=D5 r;cases rx;obtain ⟨t,u,v,er⟩:=(show zr X.prog X.w H s.heap l (.rng 0 j)from I.hok l _ hr);obtain ⟨sm,sz⟩:=Ut h0 h1
 refine callType_new PySem.F.called_tuple (by decide) (PySem.F.typeCall_tuple_1 _) (PySem.F.newCall_tuple_1 _) (λobj=>PySem.F.args_object_init_2 obj _) PySem.F.entry_tuple_new (U4 l 0 j t u v j.toNat sm sz (by omega))
  ⟨I.ok.hd hc,er,λh' tk acc kp it=>⟨⟨_,AN _ rfl,rfl⟩,?_⟩⟩
 have I1:Inv X zB Y H { s with heap:=h',toks:=tk }:=I.kept kp;refine ⟨.ref h'.objs.size,_,I1.laid (t':=tk) (λb o z=>AH _ z) (AF _) ?_,rfl,q _ (I1.hok.fresh (AF _))⟩;exact ⟨by rw[S8,sizeLine_eq];omega,acc.toList,YQ it,by simpa using C7.new h' acc⟩
noncomputable def upD (n:Nat):List D:=(List.range n).map λ(k:Nat)=>D.int k
def Wu (n:Nat):zH L H (upD n) (upV n):=by
 have:∀ xs:List Nat,zH L H (xs.map λ(k:Nat)=>D.int k) (xs.map λ(k:Nat)=>V.int k):=by
  intro xs;induction xs with
  |nil=>exact .nil
  |cons x xs ih=>exact .cons CV ih
 exact this _
noncomputable def Iq (f:FE):FE:=λY M=>match f Y M with
 |some (.dat (.int j),M1)=>if 0<=j/\j<=16777216 then some (.dat (.tup (upD j.toNat)),M1) else none
 |_=>none
def d5 (hc:X.calm=true) (hg:Gl X "tuple") (hm:X.mg "tuple" = none) (hg2:Gl X "range") (hm2:X.mg "range" = none) (ha:QE X a f)
  (he:starEach [Expr.Call (.Name "range" p2) [a] [] pos2] X.env=(false,eval (Expr.Call (.Name "range" p2) [a] [] pos2) X.env)::starEach [] X.env:=by rfl) (hpl:(backTo pos (starEach [] X.env)).any (·.1)=false:=by rfl)
  (he2:starEach [a] X.env=(false,eval a X.env)::starEach [] X.env:=by rfl) (hpl2:(backTo pos2 (starEach [] X.env)).any (·.1)=false:=by rfl) :
  QE X (.Call (.Name "tuple" p) [.Call (.Name "range" p2) [a] [] pos2] [] pos) (Iq f) :=
 .mk <| PE.imp (J1 (Sa hc) hg hm (by rfl) (Ek (J1 Wf hg2 hm2 boot_range (Ek ha.un Hy he2) (by decide) (by decide) he2 hpl2) Hy he) (by decide) (by decide) he hpl) λτ H Q zz=>by
  obtain ⟨L,Y,M,d,M',c,rs,hf,q⟩:=zz;unfold Iq at hf;split at hf
  .rename_i j M1 e1;split at hf
   .rename_i hb;cases hf;refine (mkE c rs e1 (λL1 H1 v s1 c1 r1=>⟨j,by unfold zT Rep at r1;rw[r1],λl hl=>⟨l,j,rfl,zq,hb.1,hb.2,λk hk=>?_⟩⟩));exact q L1 _ _ ((s1.trans (.upd hl)).trans (.upd hk)) ((c1.upd hl).upd hk) (Rep.newTup hk (Wu _))
   .cases hf
  .cases hf
end
noncomputable def Lr:Expr->Bool
 |.Starred .. =>false
 |_=>true
def zK (h:Lr e=true):starEach (e::es) env=(false,eval e env)::starEach es env:=by
 cases e <;> first|rfl|cases h
def Xp (h:Lr e=true):starEach [e] env=[(false,eval e env)]:=zK h
theorem D9:∀ {es:Yi},es.all Lr=true->(backTo pos (starEach es env)).any (·.1)=false
 |[],_=>rfl
 |e::es,h=>by
  rw[List.all_cons,Ap]at h;rw[zK h.1];have:=D9 (pos:=pos) (env:=env) h.2;simpa [backTo] using this
def Cor.pushO {K:Yb} {L:Yg} {M:List MO} {H:Hp} {p:Yt} {o:HO} {m:MO} (c:Cor K L M H) (h:H p=none) (new:B6 K (L++[p]) (L2.upd H p o) p m) :
  Cor K (L++[p]) (M++[m]) (L2.upd H p o)/\Stp L H (L++[p]) (L2.upd H p o):=by
 have hp:p∉L:=λz=>by obtain ⟨o,e⟩:=c.tracked z;rw[h]at e;cases e
 have st:Stp L H (L++[p]) (L2.upd H p o):=by
  refine ⟨⟨[p],rfl⟩,λa ha=>?_,λa o e _ _=>?_,λa o e=>?_,λa o u e=>?_,JQ (λa o u e=>?_) λa ps e=>?_⟩
  .rcases AV.mp ha with z|z
   .exact .inl z
   .have:a=p:=by simpa using z
    subst this;exact .inr h
  all_goals (rw[zP (zi e h)];exact e)
 refine ⟨⟨by simp[c.len],?_,λn a m e1 e2=>?_,c.tab.stp st⟩,st⟩
 .rw[Dm];exact ⟨c.nd,by simp,λa ha b hb z=>by
   have:b=p:=by simpa using hb
   subst this;subst z;exact hp ha⟩
 .by_cases hn:n<L.length
  .rw[Ag hn]at e1;rw[Ag (by rw[<-c.len];exact hn)]at e2;exact (c.obj n a m e1 e2).stp st λo _ e=>by rw[zP (zi e h)];exact e
  .have hn':n=L.length:=by
    have:=(AK.mp e1).1;rw[Ae]at this;simp at this;omega
   subst hn';simp at e1;rw[c.len]at e2;simp at e2;subst e1;subst e2;exact new
def B6.nt {K:Yb} {L:Yg} {H:Hp} {a:Yt} {m:MO} (h:B6 K L H a m) {o:HO} (e:H a=some o):NT o:=λps z=>by
 subst z;cases m with
 |lst xs=>obtain ⟨vs,e',_⟩:=h;rw[e]at e';cases e'
 |fro xs=>obtain ⟨o,vs,e',_⟩:=h;rw[e]at e';cases e'
 |dict ps=>obtain ⟨vs,e',_⟩:=h;rw[e]at e';cases e'
 |dicT ps=>obtain ⟨vs,e',_⟩:=h;rw[e]at e';cases e'
 |set _=>obtain ⟨o,u,e'⟩:=h;rw[e]at e';cases e'
 |froT ps=>obtain ⟨o,vs,e',_⟩:=h;rw[e]at e';cases e'
 |froK ps=>obtain ⟨o,vs,e',_⟩:=h;rw[e]at e';cases e'
def Cor.nt {K:Yb} {L:Yg} {M:List MO} {H:Hp} {n:Nat} {p:Yt} {o:HO} (c:Cor K L M H) (h1:L[n]?=some p) (ho:H p=some o):NT o :=
 (c.obj n p _ h1 (AJ (by rw[<-c.len];exact (AK.mp h1).1))).nt ho
def Cor.put {K:Yb} {L:Yg} {M:List MO} {H:Hp} {n:Nat} {p:Yt} {o o':HO} {m:MO} (c:Cor K L M H) (h1:L[n]?=some p) (ho:H p=some o) (ht:∀ xs,o≠.tup xs) (hf:∀ a u,o≠.frz a u)
  (new:Stp L H L (L2.upd H p o')->B6 K L (L2.upd H p o') p m):Cor K L (M.set n m) (L2.upd H p o')/\Stp L H L (L2.upd H p o'):=by
 have st:Stp L H L (L2.upd H p o'):=by
  have nt:=c.nt h1 ho;refine ⟨⟨[],by simp⟩,λa ha=> .inl ha,λa o e ha _=>?_,λa xs e=>?_,λa b u e=>?_,JQ (λa b u e=>?_) λa ps e=>?_⟩
  .rw[zP (show a≠p from λz=>ha (by rw[z];exact Ba h1))];exact e
  .rw[zP (C6 e ho (λz=>ht xs z.symm))];exact e
  .rw[zP (C6 e ho (λz=>hf b u z.symm))];exact e
  .rw[zP (C6 e ho (λz=>hf b u z.symm))];exact e
  .rw[zP (C6 e ho (λz=>nt ps z.symm))];exact e
 refine ⟨⟨by simp[c.len],c.nd,λk a m' e1 e2=>?_,c.tab.stp st⟩,st⟩;rw[Dz]at e2;split at e2
 .rename_i hk;subst hk;rw[h1]at e1;cases e1;split at e2
  .cases e2;exact new st
  .cases e2
 .rename_i hk;have hne:a≠p:=λz=>hk (by
   subst z;exact (List.getElem?_inj (AK.mp h1).1 c.nd).mp (h1.trans e1.symm))
  exact (c.obj k a m' e1 e2).stp st λo _ e=>by rw[zP hne];exact e
section
variable {X:Cx} {a b e:Expr} {pos:Pos} {f g:FE}
noncomputable def IC:FE:=λ_ M=>some (.dat (.ref M.length),M++[.dicT []])
def YW:QE X (.Dict [] [] pos) IC:=.mk <| PE.imp ZO λτ H Q ⟨L,Y,M,d,M',c,rs,hf,q⟩ p hp=>by
 unfold IC at hf;cases hf;obtain ⟨c2,s2⟩:=c.pushO (m:=.dicT []) hp ⟨[],zq,rfl⟩;refine q _ _ _ s2 c2 ?_;unfold zT Rep;exact ⟨p,rfl,by rw[<-c.len];simp⟩
def Ip (h:Rep L H d v) (e:Bl d=some k):v=kV k:=by
 cases d with
 |int i=>cases e;unfold Rep at h;exact h
 |str x=>cases e;unfold Rep at h;exact h
 |_=>cases e
noncomputable def Cw (M:Mem):EV->Option (List D)
 |.fl xs=>some xs
 |.dat (.ref n)=>match M[n]? with
  |some (.lst xs)=>some xs
  |_=>none
 |_=>none
def Lk {K:Yb} {L:Yg} {M:Mem} {H H0:Hp} {x:EV} {v:V} {xs:List D} (c:Cor K L M H) (r:zT H0 L H x v) (h:Cw M x=some xs):∃ a vs,v=.ref a/\H a=some (.lst vs)/\zH L H xs vs:=by
 cases x with
 |fl ys=>
  cases h;obtain ⟨p,vs,rfl,_,e,_,r⟩:=r;exact ⟨p,vs,rfl,e,r⟩
 |dat d=>
  cases d with
  |ref n=>
   unfold zT Rep at r;obtain ⟨a,rfl,e⟩:=r;unfold Cw at h;dsimp only at h;split at h
   .rename_i ys q;cases h;obtain ⟨vs,e1,r1⟩:=c.obj n a _ e q;exact ⟨a,vs,rfl,e1,r1⟩
   .cases h
  |_=>cases h
noncomputable def Ds:K2:=λx y M=>match Cw M x,Cw M y with
 |some xs,some ys=>if xs.length+ys.length<=sizeLine then some (.fl (xs++ys),M) else none
 |_,_=>none
def S2 {K:Yb}:BE K QB Ds:=by
 intro L M M' H H0 x y d v w Q c rx ry hk q;unfold Ds at hk;split at hk
 .rename_i xs ys e1 e2;split at hk
  .rename_i hz;cases hk;obtain ⟨l,vs,rfl,h1,r1⟩:=Lk c rx e1;obtain ⟨l2,ws,rfl,h2,r2⟩:=Lk c ry e2;refine ⟨l,l2,vs,ws,rfl,rfl,h1,h2,by rw[r1.length,r2.length];exact hz,λp hp=>?_⟩;exact q L _ _ (.upd hp) (c.upd hp) (zT.newLst (.refl L H) c c hp (r1.app r2))
  .cases hk
 .cases hk
def Tg (h1:QE X a f) (h2:QE X b g):QE X (.BinOp a .Add b pos) (fOp Ds f g):=Ey S2 So h1 h2
end
noncomputable def BC:List D->Option (List Int)
 |[]=>some []
 |.int i::r=>match BC r with
  |some bs=>some (i::bs)
  |none=>none
 |_=>none
theorem IZ:∀ {ds:List D} {bs:Ye} {vs:List V},BC ds=some bs->zH L H ds vs->vs=bs.map V.int
 |[],bs,vs,e,r=>by cases e;unfold zH at r;exact r
 |d::ds,bs,vs,e,r=>by
  unfold zH at r;obtain ⟨v,r',rfl,r1,r2⟩:=r;cases d with
  |int k=>
   unfold BC at e;cases q:BC ds with
   |none=>rw[q]at e;cases e
   |some bs'=>
    rw[q]at e;cases e;unfold Rep at r1;rw[r1,IZ q r2];rfl
  |_=>cases e
theorem DU:∀ xs:List Int,BC (xs.map D.int)=some xs
 |[]=>rfl
 |x::r=>by rw[Ad];unfold BC;rw[DU r]
def WD (xs:Ye):(xs.map V.int).all EI=true:=by
 rw[Ab];intro x hx;obtain ⟨i,_,rfl⟩:=Aj.mp hx;rfl
def Y5 (i:Int) (xs:Ye):inV (.int i) (xs.map V.int)=xs.any λy=>decide (y=i):=by
 unfold inV;rw[List.any_map];congr 1
noncomputable def kIn (neg:Bool):K2:=λx y M=>match x with
 |.dat (.int i)=>match Ai M y with
  |some ds=>match BC ds with
   |some xs=>some (.dat (.bl (if neg then !(xs.any λy=>decide (y=i)) else xs.any λy=>decide (y=i))),M)
   |none=>none
  |none=>none
 |_=>none
def Of {K:Yb} {neg:Bool}:BE K (rIn K neg) (kIn neg):=by
 intro L M M' H H0 x y d v w Q cc rx ry hk q;unfold kIn at hk;split at hk
 .rename_i i;split at hk
  .rename_i ds e1;split at hk
   .rename_i xs e2;cases hk;have ev:v=.int i:=by unfold zT Rep at rx;exact rx
    obtain ⟨p,vs,rfl,hs,r⟩:=F1 cc ry e1;have:=IZ e2 r;subst this;refine ⟨p,_,rfl,hs,by rw[ev];rfl,WD xs,?_⟩;rw[ev,Y5];exact q L H _ (.refl L H) cc (CI (L:=L) (H:=H))
   .cases hk
  .cases hk
 .cases hk
def Zh (h1:QE X a f) (h2:QE X b g) (hm:behindInMarks .In b=false:=by rfl):QE X (.Compare a [.In] [b] pos) (fOp (kIn false) f g):=JO Of ZP h1 h2 hm
def RA (h1:QE X a f) (h2:QE X b g) (hm:behindInMarks .NotIn b=false:=by rfl):QT X (.Compare a [.NotIn] [b] pos) (tst (fOp (kIn true) f g)):=Fg Of Ro h1 h2 hm
end L3
namespace L2
def YL (elt target iter:Expr) (ifs:Yi) (scope:Y0) (pos:Pos) (it acc:Yu) (env:Env) :
  compTurn (.SetComp elt [⟨target,iter,ifs,0⟩] scope pos) 0 it acc env=(do
   standAt iter.pos;match <- pyNext it with
   |none=>pure (.done .next)
   |some v=>
    letOwnedTupleGo target it v;assign target env v;let mut ok:=true
    for c in ifs do
     if ok then ok <- isTrue c env (eval c env)
    if ok then (do let v <- eval elt env;standAt elt.pos;let _ <- call (.builtin "set.add") [acc,v])
    again (.compLoop (.SetComp elt [⟨target,iter,ifs,0⟩] scope pos) 0 it acc env)):=by rfl
def Ue (I:Nat->Shared->Prop)
  (turn:∀ n s,I n s->wpAny (model prog w) A (pyNext it) (λr s₁=>match r with
   |none=>R (.ok .next) s₁
   |some v=>wpAny (model prog w) A (letOwnedTupleGo target it v) (λ_ s₁'=>wpAny (model prog w) A (assign target env v) (λ_ s₂=>
     wpAny (model prog w) A (forIn ifs true λc r=>if r=true then do let ok <- isTrue c env (eval c env);pure (ForInStep.yield ok) else pure (ForInStep.yield r)) (λok s₃=>
      if ok=true then wpAny (model prog w) A (eval elt env) (λx s₄=>
       wpAny (model prog w) A (call (.builtin "set.add") [acc,x]) (λ_ s₅=>∃ m,m<n/\I m s₅) (λ_ _=>False) s₄) (λ_ _=>False) s₃
      else ∃ m,m<n/\I m s₃) (λ_ _=>False) s₂) (λ_ _=>False) s₁') (λ_ _=>False) s₁) (λ_ _=>False) s)
  (n:Nat) (h:I n s) :
  codeAny (model prog w) A (.compLoop (.SetComp elt [⟨target,iter,ifs,0⟩] scope pos) 0 it acc env) R s:=by
 refine codeAny_loop rfl I (λn s hI=>?_) n h;show wpAny _ A ((compTurn (.SetComp elt [⟨target,iter,ifs,0⟩] scope pos) 0 it acc env).onRaise (λx=>do noteFrame x env;theTreesLotGoes x)) _ _ s;refine wpAny_noted ?_;rw[YL];refine AA (wpAny_standAt (AA (Ar (turn n s hI) (λr s₁ h₁=>?_) λ_ _ h'=>h'.elim)));cases r with
 |none=>exact AB h₁
 |some v=>
  refine AA (Ar h₁ (λ_ s₁' h₁'=>?_) λ_ _ h'=>h'.elim);refine AA (Ar h₁' (λ_ s₂ h₂=>AA (Ar h₂ (λok s₃ h₃=>?_) λ_ _ h'=>h'.elim)) λ_ _ h'=>h'.elim);cases ok with
  |false=>exact AB ⟨rfl,h₃⟩
  |true=>
   exact AA (AA (Ar h₃ (λx s₄ h₄=>AA (wpAny_standAt (AA (Ar h₄ (λ_ s₅ h₅=>AB (AB ⟨rfl,h₅⟩)) λ_ _ h'=>h'.elim)))) λ_ _ h'=>h'.elim))
end L2
end
namespace ST
open PySem
abbrev Up (xs:Array Nat):Prop:=xs.toList.Pairwise (· < ·)
def Up.get (h:Up xs) (hik:i<k) (hk:k<xs.size):xs[i]'(by omega)<xs[k]:=by
 have:=List.pairwise_iff_getElem.mp h i k (by simpa using (show i<xs.size by omega)) (by simpa using hk) hik;simpa using this
theorem Ke (h:Up xs) (j:Nat):∀ (fuel lo hi:Nat),lo<=hi->hi<=xs.size->hi-lo<=fuel->(∀ i (hi':i<xs.size),i<lo->xs[i]<j)->(∀ i (hi':i<xs.size),hi<=i->j<=xs[i]) ->
  (SetTable.below.go xs j fuel lo hi<=xs.size)/\(∀ i (hi':i<xs.size),i<SetTable.below.go xs j fuel lo hi->xs[i]<j)/\(∀ i (hi':i<xs.size),SetTable.below.go xs j fuel lo hi<=i->j<=xs[i])
 |0,lo,hi,h1,h2,h3,a,b=>by
  have:lo=hi:=by omega
  subst this;unfold SetTable.below.go;exact ⟨h2,a,b⟩
 |fuel+1,lo,hi,h1,h2,h3,a,b=>by
  unfold SetTable.below.go;by_cases hl:lo<hi
  .rw[AD hl];dsimp only;have hm:(lo+hi) / 2<xs.size:=by omega
   have eg:xs.getD ((lo+hi) / 2) j=xs[(lo+hi) / 2]:=by simp[Array.getD,hm]
   rw[eg];by_cases hc:xs[(lo+hi) / 2]<j
   .rw[AD hc];refine Ke h j fuel _ _ (by omega) h2 (by omega) (λi hi' hlt=>?_) b;rcases Dk i ((lo+hi) / 2)with z|z
    .exact Nat.lt_trans (h.get z hm) hc
    .have:i=(lo+hi) / 2:=by omega
     subst this;exact hc
   .rw[AE hc];refine Ke h j fuel _ _ (by omega) (by omega) (by omega) a (λi hi' hge=>?_);rcases Dk ((lo+hi) / 2) i with z|z
    .have:=h.get z hi';omega
    .have:i=(lo+hi) / 2:=by omega
     subst this;omega
  .rw[AE hl];have:lo=hi:=by omega
   subst this;exact ⟨h2,a,b⟩
def JH (h:Up xs) (j:Nat):SetTable.below xs j<=xs.size/\(∀ i (hi':i<xs.size),i<SetTable.below xs j->xs[i]<j)/\(∀ i (hi':i<xs.size),SetTable.below xs j<=i->j<=xs[i]):=by
 unfold SetTable.below;exact Ke h j xs.size 0 xs.size (Bz _) (AF _) (by omega) (λi _ z=>by omega) (λi hi' z=>by omega)
def a8 (h:Up xs):SetTable.below xs 0=0:=by
 obtain ⟨a,b,c⟩:=JH h 0;rcases Nat.eq_zero_or_pos (SetTable.below xs 0)with z|z
 .exact z
 .have:=b 0 (by omega) z;omega
def VY (h:Up xs) (hk:k<xs.size):SetTable.below xs (xs[k]+1)=k+1:=by
 obtain ⟨a,b,c⟩:=JH h (xs[k]+1);rcases Nat.lt_trichotomy (SetTable.below xs (xs[k]+1)) (k+1)with z|z|z
 .have:=c k hk (by omega);omega
 .exact z
 .have h1:k+1<xs.size:=by omega
  have:=b (k+1) h1 z;have:=h.get (show k<k+1 by omega) h1;omega
def dB {α:Type} (xs:Array α) (p:Nat) (x:α):(SetTable.insertAt xs p x).toList=xs.toList.take p++x::xs.toList.drop p:=by
  unfold SetTable.insertAt;simp;have:xs.toList.length<=xs.size:=by simp
  rw[GL (by simp)]
def d9 (h : Up xs) (hj : j ∉ xs.toList) : Up (SetTable.insertAt xs (SetTable.below xs j) j) := by
  obtain ⟨a, b, c⟩ := JH h j;unfold Up;rw [dB];rw [List.pairwise_append];have hT : ∀ x ∈ xs.toList.take (SetTable.below xs j), x < j := fun x hx => by
    obtain ⟨i,hi,e⟩:=DZ hx;rw[List.getElem_take]at e;rw[BN]at hi
    have h1 : i < xs.size := by have : xs.toList.length = xs.size := by simp
                                omega
    have:=b i h1 (by omega);rw[<-e];simpa using this
  have hD : ∀ x ∈ xs.toList.drop (SetTable.below xs j), j < x := fun x hx => by
    obtain ⟨i,hi,e⟩:=DZ hx;rw[List.getElem_drop]at e;rw[Ea]at hi
    have h1 : SetTable.below xs j + i < xs.size := by have : xs.toList.length = xs.size := by simp
                                                      omega
    have h2:=c _ h1 (by omega);have h3:x≠j:=λz=>hj (z▸Em hx);have e':xs[SetTable.below xs j+i]=x:=by simpa using e
    omega
  refine ⟨h.sublist (List.take_sublist _ _),Cj.mpr ⟨hD,h.sublist (List.drop_sublist _ _)⟩,λx hx y hy=>?_⟩;rcases AL.mp hy with z|z
  .rw[z];exact hT x hx
  .exact Nat.lt_trans (hT x hx) (hD y z)
def Qn (j:Nat):SetTable.has #[] j=false:=by
 unfold SetTable.has;simp
def We {t:SetTable} (h:Up t.place) (he:t.slot j=.empty):j∉t.place.toList:=λhm=>by
 obtain ⟨a,b,c⟩:=JH h j;obtain ⟨k,hk,e⟩:=DZ hm;have hk':k<t.place.size:=by simpa using hk
 have e':t.place[k]=j:=by simpa using e
 have eb:SetTable.below t.place j=k:=by
  rcases Nat.lt_trichotomy (SetTable.below t.place j) k with z|z|z
  .have h1:SetTable.below t.place j<t.place.size:=by omega
   have:=c _ h1 (AF _);have:=h.get z hk';omega
  .exact z
  .have:=b k hk' z;omega
 unfold SetTable.slot at he;rw[eb,AD (by simp[hk',e'])]at he;cases he
theorem QY (hd:t.dummies = #[]):∀ (fuel:Nat) (p:SetTable.Probe) {j:Nat} {d:Option Nat},p.dummy=none->SetTable.probe.go t hashAt h fuel p=some (.empty j d)->d=none/\t.slot j=.empty
 |0,_,_,_,_,e=>by unfold SetTable.probe.go at e;cases e
 |fuel+1,p,j,d,hp,e=>by
  unfold SetTable.probe.go at e;split at e
  .rename_i hs;cases e;exact ⟨hp,hs⟩
  .rename_i hs;unfold SetTable.slot at hs;dsimp only at hs;rw[hd,Qn]at hs;split at hs <;> first|cases hs|simp at hs
  .split at e
   .cases e
   .refine QY hd fuel _ ?_ e;unfold SetTable.advance;split <;> simp[hp]
def ZY {t:SetTable} (hu:Up t.place) (hd:t.dummies = #[]) (e:t.freeSlot h=some (j,b)):b=false/\j∉t.place.toList:=by
 unfold SetTable.freeSlot at e;split at e
 .rename_i j' d hp;unfold SetTable.probe at hp;obtain ⟨h1,h2⟩:=QY hd _ _ (by rfl) hp;subst h1;simp at e;obtain ⟨rfl,rfl⟩:=e;exact ⟨rfl,We hu h2⟩
 .cases e
structure Au (w:Yo) (t:SetTable):Prop where
 led:t.led = !w.params.followText "set-order"
 up:Up t.place
 nod:t.dummies = #[]
def WO (n:Nat):Up (Array.range n):=by
 unfold Up;rw[Array.toList_range];exact List.pairwise_lt_range
def Au.standIn (h:Au w t) (n:Nat):Au w (t.standIn n):=⟨h.led,WO n,rfl⟩
def Au.orStandIn (h:Au w t) (n:Nat):Au w (t.orStandIn n):=by
 unfold SetTable.orStandIn;split
 .exact h
 .exact h.standIn n
def Au.put (h:Au w t) (hj:j∉t.place.toList):Au w (t.put j).1:=by
 unfold SetTable.put;refine ⟨h.led,d9 h.up hj,?_⟩;rw[h.nod,Qn];rfl
theorem Au.layNew (h:Au w t) (es:Yw) (hh:Int) (x:Yu):Au w (layNew t es hh x).2.1:=by
 unfold PySem.layNew;split
 .rename_i j b e;exact (h.put (ZY h.up h.nod e).2).orStandIn _
 .exact h.standIn _
def Au.relaid (h:Au w t) (e:t.relaid hs wanted=some (t',order)):Au w t':=by
 unfold SetTable.relaid SetTable.laid at e;cases q:SetTable.layClean (SetTable.sizeAbove wanted-1) hs with
 |none=>rw[q]at e;cases e
 |some owner=>
  rw[q]at e;simp only[Option.bind_eq_bind,Option.bind_some,Option.pure_def,Option.some.injEq,Prod.mk.injEq]at e;obtain ⟨rfl,_⟩:=e;refine ⟨h.led,?_,rfl⟩;unfold Up;rw[List.pairwise_map,List.pairwise_filterMap];refine List.pairwise_lt_range.imp λ{a b} hab x hx y hy=>?_;cases o1:owner.getD a none with
  |none=>rw[o1]at hx;cases hx
  |some u=>
   cases o2:owner.getD b none with
   |none=>rw[o2]at hy;cases hy
   |some v=>
    rw[o1]at hx;rw[o2]at hy;cases hx;cases hy;exact hab
theorem Au.relayAll (h:Au w t) (es:Yw) (wanted:Nat):Au w (relayAll t es wanted).2.1:=by
 unfold PySem.relayAll;split
 .rename_i t' order e;dsimp only;split
  .exact h.relaid e
  .exact h.standIn _
 .exact h.standIn _
theorem Au.plain (h:Au w t) (b:Bool):Au w { t with plain:=b }:=⟨h.led,h.up,h.nod⟩
def Au.fresh:Au w (SetTable.fresh 0 0 (!w.params.followText "set-order")):=⟨rfl,List.Pairwise.nil,rfl⟩
open Sem (wp)
set_option genInjectivity true in
inductive F2 {α β:Type} (R:α->β->Prop):List α->List β->Prop
 |nil:F2 R [] []
 |cons {x y xs ys}:R x y->F2 R xs ys->F2 R (x::xs) (y::ys)
section
variable [DecidableEq K]
def Lo (knd:KeyKind prog w K) (e:Int × Value) (k:K):Prop:=(knd.is k e.2=true/\e.1=knd.hash k)/\e.2.scannable=true
structure SetK (knd:KeyKind prog w K) (o:Obj) (es:Yw) (ep:Nat) (t:SetTable) (ks:List K):Prop where
 ex:o.ExactSet
 data:o.data=.set es ep t
 tab:Au w t
 fits:t.fits es.size=true
 bound:es.size<scanBound
 ent:∃ ks',ks'.Perm ks/\F2 (Lo knd) es.toList ks'
noncomputable def ins (ks:List K) (k:K):List K:=if k∈ks then ks else ks++[k]
variable {knd:KeyKind prog w K}
theorem Js {α β:Type} {R:α->β->Prop}:∀ {xs:List α} {ys:List β},F2 R xs ys->xs.length=ys.length
 |_,_,.nil=>rfl
 |_,_,.cons _ h=>by simp[Js h]
theorem Jv {α β:Type} {R:α->β->Prop}:∀ {xs:List α} {ys:List β},F2 R xs ys -> ∀ x∈xs,∃ y∈ys,R x y
 |_,_,.nil,x,hx=>by cases hx
 |_,_,.cons h r,x,hx=>by
  rcases AL.mp hx with z|z
  .subst z;exact ⟨_,AW,h⟩
  .obtain ⟨y,hy,q⟩:=Jv r x z;exact ⟨y,Am _ hy,q⟩
theorem QG {α β:Type} {R:α->β->Prop}:∀ {xs:List α} {ys:List β},F2 R xs ys -> ∀ y∈ys,∃ x∈xs,R x y
 |_,_,.nil,x,hx=>by cases hx
 |_,_,.cons h r,x,hx=>by
  rcases AL.mp hx with z|z
  .subst z;exact ⟨_,AW,h⟩
  .obtain ⟨y,hy,q⟩:=QG r x z;exact ⟨y,Am _ hy,q⟩
theorem NM {α β:Type} {R:α->β->Prop}:∀ {xs:List α} {ys:List β} {us:List α} {vs:List β},F2 R xs ys->F2 R us vs->F2 R (xs++us) (ys++vs)
 |_,_,_,_,.nil,h=>h
 |_,_,_,_,.cons h r,q=> .cons h (NM r q)
def PM {α β:Type} {R:α->β->Prop} {xs xs':List α} (p:xs'.Perm xs):∀ {ys:List β},F2 R xs ys -> ∃ ys',ys'.Perm ys/\F2 R xs' ys':=by
 have p':=p.symm;clear p;induction p' with
 |nil=>intro ys h;exact ⟨ys,.refl _,h⟩
 |cons x _ ih=>
  intro ys h;cases h with
  |cons h r=>
   obtain ⟨ys',q1,q2⟩:=ih r;exact ⟨_,q1.cons _,.cons h q2⟩
 |swap x y l=>
  intro ys h;cases h with
  |cons h r=>
   cases r with
   |cons h2 r=>
    exact ⟨_,List.Perm.swap _ _ _,.cons h2 (.cons h r)⟩
 |trans _ _ ih1 ih2=>
  intro ys h;obtain ⟨ys',q1,q2⟩:=ih1 h;obtain ⟨ys'',r1,r2⟩:=ih2 q2;exact ⟨ys'',r1.trans q1,r2⟩
def SetK.size (h:SetK knd o es ep t ks):es.size=ks.length:=by
 obtain ⟨ks',p,f⟩:=h.ent;rw[<-p.length_eq,<-Js f,BD]
def SetK.elems (h:SetK knd o es ep t ks):ElemsOf knd es.toList:=λe he=>by
 obtain ⟨ks',p,f⟩:=h.ent;obtain ⟨k,_,q⟩:=Jv f e he;exact ⟨⟨k,q.1⟩,q.2⟩
def SetK.mem (h:SetK knd o es ep t ks) (k:K):k∈ks ↔ ∃ e∈es.toList,knd.is k e.2=true:=by
 obtain ⟨ks',p,f⟩:=h.ent;rw[<-p.mem_iff];constructor
 .intro hk;obtain ⟨e,he,q⟩:=QG f k hk;exact ⟨e,he,q.1.1⟩
 .rintro ⟨e,he,q⟩;obtain ⟨k',hk',q'⟩:=Jv f e he;rw[knd.inj e.2 k k' q q'.1.1];exact hk'
variable {s:Yl}
def SetK.typeIs (h:SetK knd o es ep t ks) (ho:s.heap.get? a=some o):s.TypeIs (.ref a) "set" := ⟨o,ho,h.ex.1⟩
def MA {h:Heap} (ho:h.get? a=some o) (hd:o.data=.set es ep t) :
  (h.update a (Obj.putSet es' t')).get? a=some { o with data:=.set es' (ep+1) t' }:=by
 have:=EF (Obj.putSet es' t') ho (by rw[putSet_of es' t' hd];rfl);rw[putSet_of es' t' hd]at this;exact this
def Oh {Q:Bool->Shared->Prop} (hkey:knd.is k x=true) (hsc:x.scannable=true) (ho:s.heap.get? a=some o) (hS:SetK knd o es ep t ks) (hroom:ks.length+1<scanBound)
  (h:∀ h' o' es' ep' t' b,Heap.SameBut a s.heap h'->h'.get? a=some o'->SetK knd o' es' ep' t' (ins ks k)->Q b { s with heap:=h' }) :
  wpAny (model prog w) A (setAddHashed a x (knd.hash k)) Q E s:=by
 have hd:=hS.data;have hf:=hS.fits;have hel:=hS.elems;have hb:=hS.bound;have hb1:es.size+1<scanBound:=by rw[hS.size];exact hroom
 unfold setAddHashed setAddHashedIn;refine Bw (AA (wpAny_setState_of ho hd hf ?_));dsimp only;rw[byScan_of hsc hb hel];simp only[↓reduceIte];unfold setAddByScan;refine AA ?_;refine AA (Ca ?_);refine AA (wpAny_setScan_of hkey ho hd hf hel ?_);cases hr:List.findIdx? (λe=>knd.is k e.2) es.toList with
 |some j=>
  obtain ⟨hj,hpj,_⟩:=List.findIdx?_eq_some_iff_getElem.mp hr;have hSk:k∈ks:=(hS.mem k).mpr ⟨es.toList[j],Aq hj,hpj⟩;refine AB (AB ?_);have e:s={ s with heap:=s.heap }:=by cases s;rfl
  rw[e];refine h s.heap o es ep t _ (Heap.SameBut.refl a s.heap) ho ?_;unfold ins;rw[AD hSk];exact hS
 |none=>
  have hSk:k∉ks:=λhk=>by
   obtain ⟨e,he,hp⟩:=(hS.mem k).mp hk;have:=List.findIdx?_eq_none_iff.mp hr e he;rw[hp]at this;exact Bool.noConfusion this
  have hgw:∀ (b:Bool) {s₁:Shared} {Q':Unit->Shared->Prop},Q' () s₁->wpAny (model prog w) A (match b with|true=>rule "set.scan.the-table-gave-way" |false=>pure ()) Q' E s₁ :=
   λb s₁ Q' hq=>by cases b <;> first|exact AB hq|exact Ca hq
  have hperm:=layNew_perm t es (knd.hash k) x;have hfits:=layNew_fits t es (knd.hash k) x;have htab:=hS.tab.layNew es (knd.hash k) x;generalize hL:layNew t es (knd.hash k) x=L at hperm hfits htab ⊢;obtain ⟨es1,t1,wasDummy,gave⟩:=L;rw[Array.toList_push]at hperm;have hb1':es1.size<scanBound:=by rw[<-BD,hperm.length_eq,Ae,BD];simpa using hb1
  obtain ⟨ks',p,f⟩:=hS.ent;have f1:F2 (Lo knd) (es.toList++[(knd.hash k,x)]) (ks'++[k]):=NM f (.cons ⟨⟨hkey,rfl⟩,hsc⟩ .nil);obtain ⟨ks1,p1,f2⟩:=PM hperm f1;have pI:ks1.Perm (ins ks k):=by
   unfold ins;rw[AE hSk];exact p1.trans (p.append_right _)
  refine AA (hgw _ ?_)
  have tail:∀ t2:SetTable,Au w t2->t2.fits es1.size=true->wpAny (model prog w) A (do
    storeSet a es1 t2
    if (!wasDummy&&t2.tooFull)=true then do
      (match (relayAll t2 es1 (SetTable.grown es1.size)).2.2 with|true=>rule "set.scan.the-table-gave-way" |false=>pure ())
      storeSet a (relayAll t2 es1 (SetTable.grown es1.size)).1 (relayAll t2 es1 (SetTable.grown es1.size)).2.1;pure (some true)
     else pure (some true)) (λr s'=>wpAny (model prog w) A (match r with|some added=>pure added|none=>setAddHashedIn a x (knd.hash k) 99999) Q E s') E s:=by
   intro t2 T2 F2;refine AA (wpAny_storeSet_of ho hd ?_ (fits_of_scanBound hb1'));have g1:=MA (es':=es1) (t':=t2) ho hd;have sb1:=Ct s.heap a (Obj.putSet es1 t2);have S1:SetK knd { o with data:=.set es1 (ep+1) t2 } es1 (ep+1) t2 (ins ks k):=⟨hS.ex,rfl,T2,F2,hb1',ks1,pI,f2⟩;split
   .have hp:=relayAll_perm t2 es1 (SetTable.grown es1.size);have hfr:=relayAll_fits t2 es1 (SetTable.grown es1.size);have htr:=T2.relayAll es1 (SetTable.grown es1.size);generalize hRl:relayAll t2 es1 (SetTable.grown es1.size)=Rl at hp hfr htr ⊢;obtain ⟨es2,t3,gave2⟩:=Rl;have hsz:es2.size=es1.size:=by rw[<-BD,hp.length_eq,BD]
    have hb2:es2.size<scanBound:=by rw[hsz];exact hb1'
    obtain ⟨ks2,p2,f3⟩:=PM hp f2;refine AA (hgw _ ?_);refine AA (wpAny_storeSet_of g1 rfl ?_ (fits_of_scanBound hb2));have g2:=MA (es':=es2) (t':=t3) g1 rfl;exact AB (AB (h _ _ _ _ _ _ (sb1.trans (Ct _ a _)) g2 ⟨hS.ex,rfl,htr,hfr,hb2,ks2,p2.trans pI,f3⟩))
   .exact AB (AB (h _ _ _ _ _ _ sb1 g1 S1))
  split
  .refine AA ?_;rw[hashByValue_scannable 8 hsc];refine AB ?_;refine tail _ ?_ ?_
   .split
    .exact htab
    .exact htab.plain _
   .split
    .exact hfits
    .exact SetTable.fits_plain_off hfits
  .refine AA (AB ?_);simp only[↓reduceIte];exact tail _ htab hfits
def T7 (hkey:knd.is k x=true) (hsc:x.scannable=true) (ho:s.heap.get? a=some o) (hS:SetK knd o es ep t ks) (hroom:ks.length+1<scanBound)
  (h:∀ h' o' es' ep' t',Heap.SameBut a s.heap h'->h'.get? a=some o'->SetK knd o' es' ep' t' (ins ks k)->Q .none { s with heap:=h',toks:=s.toks+1 }) :
  wpAny (model prog w) A (call (.builtin "set.add") [.ref a,x]) Q E s:=by
 refine BY F.slot_set_add (hS.typeIs ho) F.entry_set_add ?_ (F.args_set_add_2 _ _);unfold Builtin.«set.add» Builtin.Frozenset.oneOther;simp only[List.isEmpty_nil,bind_assoc];unfold Builtin.Frozenset.addrOf setAdd;refine AA (AB ?_);try dsimp only
 refine AA (AB ?_);try dsimp only
 refine AA ?_;refine Bw ?_;refine AA (knd.pyHash hkey ?_);refine Oh (s:={ s with toks:=s.toks+1 }) hkey hsc ho hS hroom λh' o' es' ep' t' b hsb ho' hS'=>?_;exact AB ⟨_,rfl,h h' o' es' ep' t' hsb ho' hS'⟩
noncomputable def zY (w:World):Obj:={ cls:=.type "set", dict:=none,data:=.set #[] 0 (.fresh 0 0 (!w.params.followText "set-order")) }
def SetK.fresh:SetK knd (zY w) #[] 0 (.fresh 0 0 (!w.params.followText "set-order")) []:=⟨⟨rfl,rfl,rfl⟩,rfl,.fresh,by rfl,by decide,[],.refl _,.nil⟩
def W6 (h:Q (.ref s.heap.objs.size) { s with heap:=s.heap.push (zY w) }) :
  wpAny (model prog w) A (newSet (.type "set")) Q E s:=by
 unfold newSet setsByText;refine AA (AA (wpAny_askSetting (AB ?_)));simp only[newObj];exact AA (wpAny_alloc (AB h))
end
open PySem.Spec PyProof.Rows
open Sem (wp)
def Pu:Manifest.owners.lookup (String.ofList ['r','o','t','a','r','e','t','i','_','t','e','s'].reverse)=some Manifest.sig_set_iterator:=by kernel_rfl
def Dr:Slot "set_iterator" "__next__" "set_iterator.__next__" := .of (owner := "set_iterator") (n := "__next__") (by rw[typeLookup_type,builtinLookup_eq_fast];kernel_rfl) (by decide+kernel) (by decide+kernel) (by decide+kernel) (by first|exact .inl (by decide+kernel)|exact .inr (by decide+kernel)) (by rw[isSubtype_type];kernel_rfl)
def Nq:Slot "set_iterator" "__iter__" "set_iterator.__iter__" := .of (owner := "set_iterator") (n := "__iter__") (by rw[typeLookup_type,builtinLookup_eq_fast];kernel_rfl) (by decide+kernel) (by decide+kernel) (by decide+kernel) (by first|exact .inl (by decide+kernel)|exact .inr (by decide+kernel)) (by rw[isSubtype_type];kernel_rfl)
def Ib (a:Value):argsOk "set_iterator.__next__" ⟨[a],[]⟩:=by
 unfold argsOk;rw[signature?_of (n:=['_','_','t','x','e','n','_','_']) (by kernel_rfl) Pu];kernel_rfl
def Sr (a:Value):argsOk "set_iterator.__iter__" ⟨[a],[]⟩:=by
 unfold argsOk;rw[signature?_of (n:=['_','_','r','e','t','i','_','_']) (by kernel_rfl) Pu];kernel_rfl
def Ir:entryFor table "set_iterator.__next__" = some Builtin.«set_iterator.__next__»:=entryFor_of_tree (by kernel_rfl)
def Zv:entryFor table "set_iterator.__iter__" = some Builtin.«dict_keyiterator.__iter__» :=
 entryFor_alias (id' := "dict_keyiterator.__iter__") (by kernel_rfl) (by first|rfl|decide+kernel|(unfold String.splitOn;simp +decide [String.splitOnAux])) (by decide+kernel) (by kernel_rfl)
def XQ:entryFor table "set.__iter__" = some Builtin.«frozenset.__iter__» :=
 entryFor_alias (id' := "frozenset.__iter__") (by kernel_rfl) rfl (by decide+kernel) (by kernel_rfl)
noncomputable def BR (f:Value) (i:Nat) (a:Addr) (n ep:Nat):Obj:={ cls:=.type "set_iterator", data:=.fields #[f,rawInt i,.ref a,rawInt n,rawInt ep] }
theorem KH {α:Type}:∀ {l:List α} {i:Nat} (h:i<l.length),(l[i]::l.eraseIdx i).Perm l
 |[],i,h=>by simp at h
 |x::l,0,h=>by simp
 |x::l,i+1,h=>by
  have:=KH (by simpa using h);rw[List.getElem_cons_succ,List.eraseIdx_cons_succ];exact (List.Perm.swap _ _ _).trans (this.cons x)
def O8 {α:Type} {l:List α} (h:i<l.length) (e:n+1=l.length):n=(l.eraseIdx i).length:=by
 rw[List.length_eraseIdx,AD h];omega
theorem OX {α:Type} (next:Nat->Nat):∀ (fuel k:Nat) (left:List α) (out:Array α),fuel=left.length->(pickOrder.go next fuel k left out).toList.Perm (out.toList++left)
 |0,k,left,out,h=>by
  have:left=[]:=GB.mp h.symm;subst this;unfold pickOrder.go;simp
 |fuel+1,k,left,out,h=>by
  unfold pickOrder.go;have hl:0<left.length:=by omega
  have hm:next k % left.length<left.length:=Nat.mod_lt _ hl
  rw[AJ hm];refine (OX next fuel (k+1) _ _ (O8 hm h)).trans ?_;rw[Array.toList_push,Bu];exact (KH hm).append_left _
def O9 {α:Type} (next:Nat->Nat) (xs:Array α):(pickOrder next xs).toList.Perm xs.toList:=by
 unfold pickOrder;simpa using OX next xs.size 0 xs.toList #[] (by simp)
section
variable {s:Yl}
def XX (h0:n≠0) (h:∀ r d,r<n->Q r { s with drawn:=d }):wpAny (model prog w) A (choose src n) Q E s :=
 λΓ p hΓ=>⟨h0,h _ _ (Nat.mod_lt _ (by omega))⟩
theorem Qo {α:Type}:∀ (n:Nat) (xs:List α) {s:Yl} {Q:List α->Shared->Prop},n=xs.length->(∀ ys d,ys.Perm xs->Q ys { s with drawn:=d })->wpAny (model prog w) A (drawOrder n xs) Q E s
 |0,xs,s,Q,h,q=>by
  have:xs=[]:=GB.mp h.symm;subst this;have e:s={ s with drawn:=s.drawn }:=by cases s;rfl
  rw[e];exact AB (q [] s.drawn (.refl _))
 |n+1,[],s,Q,h,q=>by cases h
 |n+1,x::xs,s,Q,h,q=>by
  unfold drawOrder;refine AA (XX (by simp) λr d hr=>?_);rw[AJ hr];refine AA (Qo n _ (O8 hr h) λys d' hp=>AB ?_);exact q _ d' ((hp.cons _).trans (KH hr))
variable {K:Type} [DecidableEq K] {ks:List K}
def Fe (h:s.heap.get? I=some (BR f i a n ep)):s.TypeIs (.ref I) "set_iterator" := ⟨_,h,rfl⟩
def OI (hI:s.heap.get? I=some (BR f i a n ep)) (h:Q (.ref I) s):wpAny (model prog w) A (pyIter (.ref I)) Q E s:=by
 refine wpAny_pyIter_slot (Fe hI) Nq (BY Nq (Fe hI) Zv ?_ (Sr _));exact AB ⟨_,rfl, "set_iterator", _,Fe hI,Dr.lookup,h⟩
structure Nexts (prog:Ym) (w:Yo) (o:Obj) (a:Yt) (ep:Nat) (n:Nat) (at_:Nat->Nat) (ord:Yf):Prop where
 len:ord.length=n
 nx:∀ (A:Yn) (E:Yc) (i:Nat) (s:Yl) (Q:Option (Value × Nat)->Shared->Prop),i<=n->s.heap.get? a=some o->Q ((ord[i]?).map λx=>(x,at_ (i+1))) s->wpAny (model prog w) A (setNext a (at_ i) i ep) Q E s
def V9 (N:Nexts prog w o a ep ks.length at_ ord) (hS:SetK knd o es ep t ks) (hI:s.heap.get? I=some (BR (rawInt (at_ i)) i a ks.length ep)) (ho:s.heap.get? a=some o)
  (hx:ord[i]?=some x) (hQ:∀ h',h'.get? I=some (BR (rawInt (at_ (i+1))) (i+1) a ks.length ep)->Heap.SameBut I s.heap h'->Q (some x) { s with heap:=h' }):wpAny (model prog w) A (pyNext (.ref I)) Q E s:=by
 have hT:=Fe hI;have hi:i<ks.length:=by have:=(AK.mp hx).1;rw[N.len]at this;exact this
 unfold pyNext;refine AA (ED (CY hT Dr (BY Dr hT Ir ?_ (Ib _))));unfold Builtin.«set_iterator.__next__» slotArgs;simp only[List.isEmpty_nil,Bool.not_true,Ck,↓reduceIte,DY,bne_self_eq_false,pure_bind,bind_assoc];refine AA (wpAny_fieldsOf hI rfl ?_);dsimp only[rawInt];refine AA (wpAny_setEntries_of ho hS.data hS.fits ?_);rw[AE (by rw[hS.size];simp)];refine AA (N.nx _ _ i s _ (by omega) ho ?_);rw[hx];dsimp only[Option.map];refine AA (DW hI rfl (by simp) ?_);have e1:=EF (Obj.mapFields λvs=>vs.set! 0 (rawInt (at_ (i+1)))) hI (Obj.isFreed_of_fields (Dj rfl _));refine AA (DW e1 (Dj rfl _) (by simp) ?_);have e2:=EF (Obj.mapFields λvs=>vs.set! 1 (rawInt ((i:Int)+1))) e1 (Obj.isFreed_of_fields (Dj (Dj rfl _) _));refine AB ⟨x,rfl,AB (hQ _ ?_ ((Ct ..).trans (Ct ..)))⟩;refine e2.trans ?_;simp[Obj.mapFields,BR,rawInt]
end
open Sem (wp)
section
variable {K:Type} [DecidableEq K] {knd:KeyKind prog w K}
def KZ (hh:A.handled=none) (N:Nexts prog w o a ep ks.length at_ ord) (hS:SetK knd o es ep t ks) (hI:s.heap.get? I=some (BR (rawInt (at_ ks.length)) ks.length a ks.length ep)) (ho:s.heap.get? a=some o)
  (hQ:∀ h',Heap.ExtBut I s.heap h'->Q none { s with heap:=h' }):wpAny (model prog w) A (pyNext (.ref I)) Q E s:=by
 have hT:=Fe hI;unfold pyNext;refine AA (ED (CY (name:=Str.ofString "__next__") hT Dr (BY Dr hT Ir ?_ (Ib _))));unfold Builtin.«set_iterator.__next__» slotArgs;simp only[List.isEmpty_nil,Bool.not_true,Ck,↓reduceIte,DY,bne_self_eq_false,pure_bind,bind_assoc];refine AA (wpAny_fieldsOf hI rfl ?_);dsimp only[rawInt];refine AA (wpAny_setEntries_of ho hS.data hS.fits ?_);rw[AE (by rw[hS.size];simp)];refine AA (N.nx _ _ ks.length s _ (AF _) ho ?_);rw[EG (by rw[N.len];exact AF _)];dsimp only[Option.map];refine AA (DW hI rfl (by simp) ?_);simp only[newExc,newTuple,bind_assoc,pure_bind];refine AA (BI (AA (m:=firstArgMember _ _) (wpAny_of_eq (a:=Value.none) (by first|rfl|(simp only[firstArgMember];rfl)) (AA (BI ?_ (by size_fits))))) (by size_fits));simp only[raiseNew];refine AA (wpAny_handled ?_);rw[show A.in1.handled=none from hh];refine AA (AB (wpAny_throw ?_));refine AA (wpAny_isInstance (T := "StopIteration") (b:=true) ⟨_,AN _ rfl,rfl⟩ isSubtype_stop (AB ?_));exact hQ _ (((Ct ..).extBut.push _).push _)
def ZN (hh:A.handled=none) (hne:a≠I) (N:Nexts prog w o a ep ks.length at_ ord) (hS:SetK knd o es ep t ks) :
  Walks prog w A I [I,a] [I] ks.length (λi v=>ord[i]?=some v) (λi h=>h.get? I=some (BR (rawInt (at_ i)) i a ks.length ep)/\h.get? a=some o) where
 sub:=λb hb=>by simp at hb;simp[hb]
 frame:=λ_ _ _ st hk=>⟨hk I (by simp) _ st.1,hk a (by simp) _ st.2⟩;item:=λi s Q E hi st hQ=>by
  have hx:ord[i]?=some (ord[i]'(by rw[N.len];exact hi)):=AJ _;refine V9 N hS st.1 st.2 hx λh' hI' hs'=>?_;exact hQ _ h' s.toks hx ⟨hI',hs'.extBut a o hne st.2⟩ λb u hb ee=>hs'.extBut b u (λh=>hb (by simp[h])) ee
 done:=λs Q E st hQ=>KZ hh N hS st.1 st.2 λh' he'=>hQ h' s.toks λb u hb ee=>he' b u (λh=>hb (by simp[h])) ee;self:=λ_ _ _ _ st hQ=>OI st.1 hQ
def R5 {pl:Yj} (hS:SetK knd o es ep t ks) (hl:pl.length=ks.length) (hI:s.heap.get? I=some (BR (.ref T) i a ks.length ep)) (ho:s.heap.get? a=some o)
  (hT:IsTup s.heap T (pl.map λ(k:Nat)=>rawInt k).toArray)
  (hx:(pl[i]?).bind (λk=>(es[k]?).map (·.2))=some x) (hQ:∀ h',h'.get? I=some (BR (.ref T) (i+1) a ks.length ep)->Heap.SameBut I s.heap h'->Q (some x) { s with heap:=h' }):wpAny (model prog w) A (pyNext (.ref I)) Q E s:=by
 have hTy:=Fe hI;obtain ⟨oT,hoT,hcT,nT,hdT⟩:=id hT;cases hp:pl[i]? with
 |none=>rw[hp]at hx;cases hx
 |some k=>
  rw[hp]at hx;cases he:es[k]? with
  |none=>simp only[Option.bind_some]at hx;rw[he]at hx;cases hx
  |some e=>
   simp only[Option.bind_some]at hx;rw[he]at hx;cases hx;unfold pyNext;refine AA (ED (CY (name:=Str.ofString "__next__") hTy Dr (BY Dr hTy Ir ?_ (Ib _))));unfold Builtin.«set_iterator.__next__» slotArgs;simp only[List.isEmpty_nil,Bool.not_true,Ck,↓reduceIte,DY,bne_self_eq_false,pure_bind,bind_assoc];refine AA (wpAny_fieldsOf hI rfl ?_);dsimp only[rawInt];refine AA (wpAny_setEntries_of ho hS.data hS.fits ?_);rw[AE (by rw[hS.size];simp)];refine AA (wpAny_seqItems hoT hdT ?_);dsimp only;have e5:(List.map (λ(k:Nat)=>rawInt k) pl).toArray[(i:Int).toNat]?=some (rawInt k):=by simp[hp]
   rw[e5];dsimp only[rawInt];unfold setNextDrawn;simp only[bind_assoc];refine AA (wpAny_setState_of ho hS.data hS.fits ?_);rw[AE (by simp)];have e6:es[(k:Int).toNat]?=some e:=by simpa using he
   rw[e6];obtain ⟨e1,e2⟩:=e;simp only[pure_bind];refine AA (DW hI rfl (by simp) ?_);refine AB ⟨e2,rfl,AB (hQ _ ?_ (Ct ..))⟩;refine (EF _ hI (Obj.isFreed_of_fields (Dj rfl _))).trans ?_;simp[Obj.mapFields,BR,rawInt]
def Q7 {pl:Yj} (hh:A.handled=none) (hS:SetK knd o es ep t ks) (hl:pl.length=ks.length) (hI:s.heap.get? I=some (BR (.ref T) ks.length a ks.length ep)) (ho:s.heap.get? a=some o)
  (hT:IsTup s.heap T (pl.map λ(k:Nat)=>rawInt k).toArray) (hQ:∀ h',Heap.ExtBut I s.heap h'->Q none { s with heap:=h' }):wpAny (model prog w) A (pyNext (.ref I)) Q E s:=by
 have hTy:=Fe hI;obtain ⟨oT,hoT,hcT,nT,hdT⟩:=id hT;unfold pyNext;refine AA (ED (CY (name:=Str.ofString "__next__") hTy Dr (BY Dr hTy Ir ?_ (Ib _))));unfold Builtin.«set_iterator.__next__» slotArgs;simp only[List.isEmpty_nil,Bool.not_true,Ck,↓reduceIte,DY,bne_self_eq_false,pure_bind,bind_assoc];refine AA (wpAny_fieldsOf hI rfl ?_);dsimp only[rawInt];refine AA (wpAny_setEntries_of ho hS.data hS.fits ?_);rw[AE (by rw[hS.size];simp)];refine AA (wpAny_seqItems hoT hdT ?_);dsimp only;have e5:(List.map (λ(k:Nat)=>rawInt k) pl).toArray[(ks.length:Int).toNat]?=none:=by simp[hl]
 rw[e5];dsimp only[rawInt];refine AA (DW hI rfl (by simp) ?_);have e1:=EF (Obj.mapFields λvs=>vs.set! 0 (rawInt 0)) hI (Obj.isFreed_of_fields (Dj rfl _));refine AA (DW e1 (Dj rfl _) (by simp) ?_);simp only[newExc,newTuple,bind_assoc,pure_bind];refine AA (BI (AA (m:=firstArgMember _ _) (wpAny_of_eq (a:=Value.none) (by first|rfl|(simp only[firstArgMember];rfl)) (AA (BI ?_ (by size_fits))))) (by size_fits));simp only[raiseNew];refine AA (wpAny_handled ?_);rw[show A.in1.handled=none from hh];refine AA (AB (wpAny_throw ?_));refine AA (wpAny_isInstance (T := "StopIteration") (b:=true) ⟨_,AN _ rfl,rfl⟩ isSubtype_stop (AB ?_));exact hQ _ ((((Ct ..).trans (Ct ..)).extBut.push _).push _)
def TU {pl:Yj} (hh:A.handled=none) (hne:a≠I) (hneT:T≠I) (hS:SetK knd o es ep t ks) (hl:pl.length=ks.length) (hb:∀ k∈pl,k<es.size) :
  Walks prog w A I [I,a,T] [I] ks.length (λi v=>(pl[i]?).bind (λk=>(es[k]?).map (·.2))=some v) (λi h=>h.get? I=some (BR (.ref T) i a ks.length ep)/\h.get? a=some o/\IsTup h T (pl.map λ(k:Nat)=>rawInt k).toArray) where
 sub:=λb hb=>by simp at hb;simp[hb]
 frame:=λ_ _ _ st hk=>⟨hk I (by simp) _ st.1,hk a (by simp) _ st.2.1,let ⟨oT,ho,r⟩:=st.2.2;⟨oT,hk T (by simp) oT ho,r⟩⟩;item:=λi s Q E hi st hQ=>by
  have hi':i<pl.length:=by rw[hl];exact hi
  have hk:pl[i]<es.size:=hb _ (Aq hi');have hx:(pl[i]?).bind (λk=>(es[k]?).map (·.2))=some (es[pl[i]].2):=by
   rw[AJ hi'];simp[hk]
  refine R5 hS hl st.1 st.2.1 st.2.2 hx λh' hI' hs'=>?_;exact hQ _ h' s.toks hx ⟨hI',hs'.extBut a o hne st.2.1,st.2.2.extBut hs'.extBut hneT⟩ λb u hb ee=>hs'.extBut b u (λh=>hb (by simp[h])) ee
 done:=λs Q E st hQ=>Q7 hh hS hl st.1 st.2.1 st.2.2 λh' he'=>hQ h' s.toks λb u hb ee=>he' b u (λh=>hb (by simp[h])) ee;self:=λ_ _ _ _ st hQ=>OI st.1 hQ
end
open Sem (wp)
def Xi {prog:Ym} {w:Yo} {A:Yn} {I:Yt} {fp wr:Yg} {n:Nat} {P P':Nat->Value->Prop} {St:Nat->Heap->Prop} (W:Walks prog w A I fp wr n P St) (h:∀ i v,P i v->P' i v):Walks prog w A I fp wr n P' St where
 sub:=W.sub;frame:=W.frame;item:=λi s Q E hi st hQ=>W.item i s Q E hi st λv h' tk hP=>hQ v h' tk (h i v hP);done:=W.done;self:=W.self
section
variable {K:Type} [DecidableEq K] {knd:KeyKind prog w K}
def JC (h:Q (w.params.followText "set-order") s):wpAny (model prog w) A setsByText Q E s:=by
 unfold setsByText;exact AA (wpAny_askSetting (AB h))
def Xz (hS:SetK knd o es ep t ks) (hT:w.params.followText "set-order" = true):Nexts prog w o a ep ks.length (λ_=>0) ((pickOrder (w.params.setOrder a ep) es).toList.map (·.2)) where
 len:=by rw[AG,(O9 _ es).length_eq,BD,hS.size]
 nx:=λA E i s Q hi ho hQ=>by
  unfold setNext;refine AA (wpAny_setState_of ho hS.data hS.fits ?_);refine AA (JC ?_);rw[hT,AD rfl,AE (by simp)];refine AA ?_;unfold setWalk;refine AA (wpAny_setState_of ho hS.data hS.fits ?_);refine AA (JC ?_);rw[hT,AD rfl];refine AA (wpAny_askSetting (AB ?_));refine AB ?_;have e:(Option.map (λ(e:Int × Value)=>(e.2,0)) (pickOrder (w.params.setOrder a ep) es)[i]?)=Option.map (λx=>(x,0)) ((pickOrder (w.params.setOrder a ep) es).toList.map (·.2))[i]?:=by
   rw[AR,Bb];cases (pickOrder (w.params.setOrder a ep) es)[i]? <;> rfl
  show Q (Option.map (λ(e:Int × Value)=>(e.2,0)) (pickOrder (w.params.setOrder a ep) es)[i]?) s;rw[e];exact hQ
noncomputable def KO (t:SetTable):Nat->Nat
 |0=>0
 |i+1=>t.place.getD i 0+1
def S7 (h:Up t.place) (hi:i<=t.place.size):SetTable.below t.place (KO t i)=i:=by
 cases i with
 |zero=>exact a8 h
 |succ i=>
  show SetTable.below t.place (t.place.getD i 0+1)=i+1;have hl:i<t.place.size:=by omega
  have e:t.place.getD i 0=t.place[i]:=by simp[Array.getD,hl]
  rw[e];exact VY h hl
def Vu (hS:SetK knd o es ep t ks):t.place.size=es.size:=by
 have:=hS.fits;simp only[SetTable.fits,Ap,beq_iff_eq]at this;exact this.1
def Wv (hS:SetK knd o es ep t ks) (hT:w.params.followText "set-order" = false) (hd:(!t.plain&&decide (es.size>1))=false):Nexts prog w o a ep ks.length (KO t) (es.toList.map (·.2)) where
 len:=by rw[AG,BD,hS.size]
 nx:=λA E i s Q hi ho hQ=>by
  have hz:=Vu hS;unfold setNext;refine AA (wpAny_setState_of ho hS.data hS.fits ?_);refine AA (JC ?_);rw[hT,AE (by decide)];show wpAny _ _ (if (!t.plain&&decide (es.size>1))=true then _ else _) _ _ _;rw[AE (by rw[hd];decide)];have hl:t.led=true:=by rw[hS.tab.led,hT];rfl
  refine AA ?_;show wpAny _ _ (if (!t.led && !es.isEmpty)=true then unsupported "set:maker-not-led" else pure ()) _ _ _;rw[AE (by rw[hl];simp)];refine AB ?_;rw[S7 hS.tab.up (by rw[hz,hS.size];exact hi)];refine AB ?_;rw[AR,Bb]at hQ;by_cases q:i<es.size
  .have q2:i<t.place.size:=by rw[hz];exact q
   rw[DC q,DC q2];rw[DC q]at hQ;have e:KO t (i+1)=t.place[i]+1:=by
    show t.place.getD i 0+1=_;simp[Array.getD,q2]
   simp only[Option.map]at hQ;rw[e]at hQ;exact hQ
  .have:i=es.size:=by rw[hS.size]at q ⊢;omega
   rw[Array.getElem?_eq_none (by omega)]at hQ ⊢;exact hQ
def U7 (ho:s.heap.get? a=some o) (hS:SetK knd o es ep t ks)
  (h:∀ (h':Heap) (d:Drawn) (I:Yt) (fp:Yg) (ord:Yf) (St:Nat->Heap->Prop),(∀ b u,s.heap.get? b=some u->h'.get? b=some u)->s.heap.objs.size<=I->(∀ b∈fp,b<h'.objs.size/\(b=a\/s.heap.objs.size<=b)) ->
   (∀ A:Around,A.handled=none->Walks prog w A I fp [I] ks.length (λi v=>ord[i]?=some v) St)->St 0 h'->ord.Perm (es.toList.map (·.2))->Q (.ref I) { s with heap:=h',drawn:=d }) :
  wpAny (model prog w) A (pyIter (.ref a)) Q E s:=by
 have hT:=hS.typeIs ho;have hal:a<s.heap.objs.size:=AI ho;refine wpAny_pyIter_slot hT F.slot_set_iter (BY F.slot_set_iter hT XQ ?_ (F.args_set_iter_1 _));unfold Builtin.«frozenset.__iter__» Builtin.Frozenset.slot0 slotArgs Builtin.Frozenset.addrOf Builtin.Frozenset.sizeOf;simp only[List.isEmpty_nil,Bool.not_true,Ck,↓reduceIte,DY,bne_self_eq_false,pure_bind,bind_assoc];refine AA (wpAny_setEntries_of ho hS.data hS.fits ?_);unfold setDrawn;simp only[bind_assoc];refine AA (wpAny_setState_of ho hS.data hS.fits ?_);refine AA (JC ?_);simp only[pure_bind];have hsz:=hS.size;have plain:∀ (at_:Nat->Nat) (ord:Yf),at_ 0=0->Nexts prog w o a ep ks.length at_ ord->ord.Perm (es.toList.map (·.2))->Q (.ref s.heap.objs.size) { s with heap:=s.heap.push (BR (rawInt 0) 0 a ks.length ep) }:=by
  intro at_ ord h0 N hp;have e:s.heap.push (BR (rawInt 0) 0 a ks.length ep)=s.heap.push (BR (rawInt 0) 0 a ks.length ep):=rfl
  have:=h (s.heap.push (BR (rawInt 0) 0 a ks.length ep)) s.drawn s.heap.objs.size [s.heap.objs.size,a] ord (λi h=>h.get? s.heap.objs.size=some (BR (rawInt (at_ i)) i a ks.length ep)/\h.get? a=some o)
   (λb u e=>AH _ e) (AF _) (λb hb=>by
    rw[CK];rcases AL.mp hb with z|z
    .rw[z];exact ⟨Dx _,.inr (AF _)⟩
    .rw[AU.mp z];exact ⟨DG hal,.inl rfl⟩)
   (λA hh=>ZN hh (AX hal) N hS) ⟨by rw[h0];exact AN _ rfl,AH _ ho⟩ hp
  exact this
 have mk:∀ (s1:Yl) (f:Yu) (hv:s1.heap.get? a=some o) {Q':Fin->Shared->Prop},Q' (.done (.ret (.ref s1.heap.objs.size))) { s1 with heap:=s1.heap.push (BR f 0 a ks.length ep) }->wpAny (model prog w) A.in1 (do
   let e <- setEpoch a;let r <- newFields "set_iterator" [f,rawInt 0,Value.ref a,rawInt es.size,rawInt e];ret r) Q' E s1:=by
  intro s1 f hv Q' hq;refine AA (wpAny_setEpoch_of hv hS.data hS.fits ?_);unfold newFields;refine AA (BI (AB ?_));rw[hsz];exact hq
 have ty:∀ (s1:Shared) (f:Value),(∃ T' r,Shared.TypeIs { s1 with heap:=s1.heap.push (BR f 0 a ks.length ep) } (.ref s1.heap.objs.size) T'/\typeLookup (Value.type T') (Str.ofString "__next__")=pure (some r)/\True):=λs1 f=>⟨"set_iterator", _,⟨_,AN _ rfl,rfl⟩,Dr.lookup,trivial⟩;show wpAny _ _ (if (!w.params.followText "set-order" && (!t.plain&&decide (es.size>1)))=true then _ else _) _ _ _;by_cases hc:(!w.params.followText "set-order" && (!t.plain&&decide (es.size>1)))=true
 .rw[AD hc];refine AA (Qo _ _ (by simp) λpl d hp=>?_);refine AA ?_;unfold newTuple;have hpl:pl.length=ks.length:=by rw[hp.length_eq,List.length_range,hsz]
  refine BI ?_ (by
   show (List.map (λ(i:Nat)=>rawInt i) pl).toArray.size<=sizeLine;rw[AZ,AG,hpl,<-hsz];exact fits_of_scanBound hS.bound)
  generalize hH:s.heap.push { cls:=.type "tuple", data:=.seq (List.map (λ(i:Nat)=>rawInt i) pl).toArray }=H;have kH:∀ b u,s.heap.get? b=some u->H.get? b=some u:=λb u e=>by rw[<-hH];exact AH _ e
  have hT1:IsTup H s.heap.objs.size (pl.map λ(k:Nat)=>rawInt k).toArray:=⟨_,by rw[<-hH];exact AN _ rfl,rfl,0,rfl⟩;have szH:H.objs.size=s.heap.objs.size+1:=by rw[<-hH];exact CK ..
  have szlt:s.heap.objs.size<H.objs.size:=by rw[szH];exact Dx _
  have alt:a<H.objs.size:=Nat.lt_trans hal szlt;refine mk { s with heap:=H,drawn:=d } (.ref s.heap.objs.size) (kH _ _ ho) ?_;obtain ⟨T',r,e1,e2,_⟩:=ty { s with heap:=H,drawn:=d } (.ref s.heap.objs.size);refine ⟨_,rfl,T',r,e1,e2,?_⟩;have kH2:∀ b u,s.heap.get? b=some u->(H.push (BR (.ref s.heap.objs.size) 0 a ks.length ep)).get? b=some u:=λb u e=>AH _ (kH b u e);refine h _ d H.objs.size [H.objs.size,a,s.heap.objs.size] (pl.map λk=>((es[k]?).map (·.2)).getD .none) (λi h=>h.get? H.objs.size=some (BR (.ref s.heap.objs.size) i a ks.length ep)/\h.get? a=some o/\IsTup h s.heap.objs.size (pl.map λ(k:Nat)=>rawInt k).toArray) kH2 (by rw[szH];exact DF _) (λb hb=>?_) (λA hh=>?_) ⟨AN _ rfl,kH2 a o ho,?_⟩ ?_
  .rw[CK];simp only[AL,Cv,or_false]at hb;rcases hb with z|z|z
   .rw[z];exact ⟨Dx _,.inr (CP szlt)⟩
   .rw[z];exact ⟨DG alt,.inl rfl⟩
   .rw[z];exact ⟨DG szlt,.inr (AF _)⟩
  .have hb:∀ k∈pl,k<es.size:=λk hk=>by have:=hp.mem_iff.mp hk;simpa using this
   refine Xi (TU hh (a:=a) (I:=H.objs.size) (T:=s.heap.objs.size) (AX alt) (AX szlt) hS hpl hb) λi v hv=>?_;rw[AR];cases q:pl[i]? with
   |none=>rw[q]at hv;cases hv
   |some k=>
    rw[q]at hv;simp only[Option.bind_some]at hv;rw[Option.map_some,hv];rfl
  .exact hT1.push _
  .have e:es.toList.map (·.2)=(List.range es.size).map λk=>((es[k]?).map (·.2)).getD .none:=by
    apply List.ext_getElem?;intro i;rw[AR,AR,Bb];by_cases q:i<es.size
    .rw[List.getElem?_range q,DC q];simp[q]
    .rw[Array.getElem?_eq_none (by omega),EG (by simp;omega)];rfl
   rw[e];exact hp.map _
 .rw[AE hc];refine mk s (rawInt 0) ho ?_;obtain ⟨T',r,e1,e2,_⟩:=ty s (rawInt 0);refine ⟨_,rfl,T',r,e1,e2,?_⟩;cases hX:w.params.followText "set-order" with
  |true=>exact plain _ _ rfl (Xz hS hX) ((O9 _ es).map _)
  |false=>
   rw[hX]at hc;exact plain _ _ rfl (Wv hS hX (by simpa using hc)) (.refl _)
end
open Sem (wp)
section
variable {K:Type} [DecidableEq K] {knd:KeyKind prog w K}
def ZA:isSubtype (.type "set") (.type "set")=pure true:=sub_set_self
def ZQ (hT:s.TypeIs (.ref a) "set") (h:Q false s):wpAny (model prog w) A (Builtin.List.listLengthHint (.ref a)) Q E s:=by
 unfold Builtin.List.listLengthHint;refine AA (wpAny_specialOf hT F.slot_set_len.lookup ?_);have hsp:splitId "set.__len__" = some ("set", "__len__"):=by decide+kernel
 dsimp only;rw[hsp];refine AA (wpAny_isInstance hT ZA ?_);rw[AE (by decide),AD (by decide+kernel)];refine AA (wpAny_typeOf hT ?_);exact AB h
def YD (hh:A.handled=none) (ho:s.heap.get? a=some o) (hS:SetK knd o es ep t ks)
  (hQ:∀ (s':Yl) (acc:Yf),(∀ b u,s.heap.get? b=some u->s'.heap.get? b=some u)->s'.os=s.os->s'.gens=s.gens->acc.Perm (es.toList.map (·.2))->Q acc s'):wpAny (model prog w) A (collect (.ref a)) Q E s:=by
 have hal:a<s.heap.objs.size:=AI ho;have hn:ks.length<=sizeLine:=by rw[<-hS.size];exact fits_of_scanBound hS.bound
 unfold collect;refine AA (wpAny_runValue (C1 F.entry_proto_collect ?_));rw[Dv F.plain_proto_collect _];refine AA (BI (AB ⟨plainId_quiet F.plain_list_iadd _,C1 F.entry_list_iadd ?_⟩));rw[Dv F.plain_list_iadd _];generalize hH:s.heap.push { cls:=.type "list", data:=.seq ([]:List Value).toArray }=H;have kH:∀ b u,s.heap.get? b=some u->H.get? b=some u:=λb u e=>by rw[<-hH];exact AH _ e
 have szH:H.objs.size=s.heap.objs.size+1:=by rw[<-hH];exact CK ..
 have hL1:H.get? s.heap.objs.size=some { cls:=.type "list", data:=.seq ([]:List Value).toArray }:=by rw[<-hH];exact AN _ rfl
 have ho1:=kH a o ho;show wpAny _ A.in1 (Builtin.List.listExtendWith (.ref s.heap.objs.size) (.ref a) (.ref s.heap.objs.size)) _ _ { s with heap:=H };unfold Builtin.List.listExtendWith;have hT1:Shared.TypeIs { s with heap:=H } (.ref a) "set" := ⟨o,ho1,hS.ex.1⟩;refine AA (wpAny_typeOf hT1 ?_);have hneL:s.heap.objs.size≠a:=Dc hal;have h1:Builtin.List.listSameRef (.ref s.heap.objs.size) (.ref a)=false:=by simp[Builtin.List.listSameRef,hneL]
 have h2:(Value.type "set" == Value.type "list")=false:=by decide
 have h3:(Value.type "set" == Value.type "tuple")=false:=by decide
 simp only[h1,h2,h3,Bool.or_false,Ck,if_false];refine AA (U7 (s:={ s with heap:=H }) ho1 hS λh2 d I fp ord St k2 hI2 hfp W st0 hp=>?_);have ho2:=k2 a o ho1;refine AA (Bw (ZQ (s:={ s with heap:=h2,drawn:=d }) ⟨o,ho2,hS.ex.1⟩ ?_));rw[AD (by decide+kernel)];refine AA (Ca (AA ?_));have hL2:=k2 _ _ hL1;refine AA (wpAny_updateSeq (s:={ s with heap:=h2,drawn:=d }) hL2 rfl ?_);have hS2:=EF (Obj.mapSeq (·.push Value.none)) hL2 rfl;refine wpAny_updateSeq hS2 rfl ?_;have hS3:=EF (Obj.mapSeq (·.pop)) hS2 rfl;generalize hH3:(h2.update s.heap.objs.size (Obj.mapSeq (·.push Value.none))).update s.heap.objs.size (Obj.mapSeq (·.pop))=H3 at hS3;have oth:∀ b u,b≠s.heap.objs.size->h2.get? b=some u->H3.get? b=some u:=λb u hb e=>by
  rw[<-hH3];exact (EC _ _ (Ne.symm hb)).trans ((EC _ _ (Ne.symm hb)).trans e)
 have hSf:s.heap.objs.size∉fp:=λhm=>by
  rcases (hfp _ hm).2 with z|z
  .exact hneL z
  .have z':H.objs.size<=s.heap.objs.size:=z;rw[szH]at z';exact absurd z' (Nat.not_succ_le_self _)
 have WS:=(W A.in1.in1 hh).toS;have st3:St 0 H3:=(W A.in1.in1 hh).frame 0 _ _ st0 λb hb u e=>oth b u (λz=>hSf (z▸hb)) e;have hI3:I≠s.heap.objs.size:=λz=>by
  have z':H.objs.size<=I:=hI2;rw[szH,z]at z';exact absurd z' (Nat.not_succ_le_self _)
 refine AB ⟨plainId_quiet F.plain_extend_loop _,codeAny_extend_loopS (A:=A) (WalksS.of_in1 WS) hn _ hSf _ ks.length 0 { s with heap:=H3,drawn:=d } _ _ rfl (Bz _) st3 hS3 (ItemsOf.nil _) λs' acc' c' hm hS' hacc=>?_⟩;refine AA (wpAny_load hS' (AB (hQ s' _ (λb u e=>hm.heap b u (λq=>?_) (oth b u (λz=>Bh _ (z▸AI e)) (k2 b u (kH b u e)))) hm.os hm.gens ?_)))
 .rcases AL.mp q with z|z
  .exact Bh _ (z▸AI e)
  .have z':H.objs.size<=I:=hI2;rw[<-AU.mp z,szH]at z';exact Bh _ (Nat.lt_trans (Az (Dx _) z') (AI e))
 .have e:acc'.toList=ord:=by
   have hl:ord.length=ks.length:=by rw[hp.length_eq,AG,BD,hS.size]
   apply List.ext_getElem?;intro i;rw[Bb];by_cases q:i<ks.length
   .have q':i<acc'.size:=by rw[hacc.1];exact q
    rw[DC q'];exact (hacc.2 i _ (DC q')).symm
   .rw[Array.getElem?_eq_none (by rw[hacc.1];omega),EG (by omega)]
  rw[e];exact hp
end
end ST
section
open PySem PySem.Spec PyProof.Rows
namespace L2
open ST
def Wl {elt target iter ifs rest scope pos it acc env}
  (h0:codeAny (model prog w) A (.compLoop (.SetComp elt (⟨target,iter,ifs,0⟩::rest) scope pos) 0 it acc env) R s)
  (h:wpAny (model prog w) A (pyIter it) (λit' s'=>codeAny (model prog w) A (.compLoop (.SetComp elt (⟨target,iter,ifs,0⟩::rest) scope pos) 0 it' acc env) R s')
   (notedBy (model prog w) A env λx s'=>R (.error x) s') s) :
  codeAny (model prog w) A (.compStart (.SetComp elt (⟨target,iter,ifs,0⟩::rest) scope pos) 0 it acc env) R s:=by
 refine codeAny_of_tree ?_;show wpAny _ _ ((compStart (.SetComp elt (⟨target,iter,ifs,0⟩::rest) scope pos) 0 it acc env).onRaise (λx=>do noteFrame x env;standAt theWindowsPlace)) _ _ s;refine wpAny_notedAt ?_;unfold compStart;refine AA (wpAny_askSetting (wpAny_ite ?_));split
 .first
   |exact AA (AB (AB (And.intro rfl h0)))
   |exact AB (And.intro rfl h0)
 .first
   |exact AA (Ca (AA (wpAny_standAt (AA (Ar h (λit' s' h'=>AB (And.intro rfl h')) λ_ _ x=>x)))))
   | (refine AA (Ca ?_);show wpAny _ _ (standAt iter.pos >>= _) _ _ s;exact AA (wpAny_standAt (AA (Ar h (λit' s' h'=>AB (And.intro rfl h')) λ_ _ x=>x))))
section
variable {pos:Pos}
 {own:Yj} {g:TG} {tc:TT} {te:TE} {E:Yc}
def cB (h:SetK (intKind prog w) o es ep t ks):∀ v,o.data≠.cell v:=λv z=>by rw[h.data]at z;cases z
def X2 (C:CompIn X scope own) (hcalm:X.calm=true) (I:Inv X zB Y H s) (T:Turn X.prog X.w X.K tg J fp it tn) (st:tn 0 s.heap) (hf:∀ b∈fp,B0 X zB H b)
  (c1:∀ x c,cl.lookup x=some c->X.env.cells.lookup x=some c) (c2:∀ y∈scope.names,y.2=.free->(cl.lookup y.1).isSome=true)
  (hg:PG (zo X zB scope cl s H fp) tg g) (hi:G8 (zo X zB scope cl s H fp) ifs tc) (he:PE (zo X zB scope cl s H fp) elt te)
  {RR:Value->Addr->Result->Shared->Prop} {QQ:List Int->Hp->Prop} {W:Nat->Nat->List Int->Hp->Prop} {m0:Nat} (w0:W 0 m0 [] H)
  (turn:∀ i m ys H,W i m ys H->(J.stop i H/\QQ ys H) \/
   (J.go i H /\ ∀ x H',J.yld i H x H'->g x (clr own Y) H' λσ2 H2=>Ext (clr own Y) σ2/\tc σ2 H2 λb H3=>
    if b=true then te σ2 H3 λv H4=>∃ k,v=.int k/\ys.length+1<scanBound /\ ∃ m',m'<m/\W (i+1) m' (ins ys k) H4 else ∃ m',m'<m/\W (i+1) m' ys H3))
  (fin:∀ σc H' s' o es ep t ys,Inv (zo X zB scope cl s H fp) [(s.heap.objs.size,o)] σc H' s'->SetK (intKind X.prog X.w) o es ep t ys->QQ ys H'->RR (.ref s.heap.objs.size) (s.heap.objs.size+1) (.ok .next) s') :
  wpAny (model X.prog X.w) X.A (newSet (.type "set")) (λacc s₃=>wpAny (model X.prog X.w) X.A (newFunctionEnv scope X.env.globals cl [] X.env.qual none .none (some X.env)) (λcenv s₄=>
   codeAny (model X.prog X.w) X.A (.compStart (.SetComp elt [⟨tg,iter,ifs,0⟩] scope pos) 0 (.ref it) acc { cenv with scope:=relabel scope X.env }) (RR acc cenv.locals) s₄) E s₃) E s:=by
 have ob:∀ b:Nat,b∈fp->b<s.heap.objs.size:=λb hb=>let ⟨_,e,_⟩:=T.obj 0 _ st b hb;AI e;refine W6 (OQ ?_);have sz1:(s.heap.push (zY X.w)).objs.size=s.heap.objs.size+1:=CK ..;have I4:=NR C.sc I hf ob c1 c2 (Ll own Y) (λi x v h1 h2 h3=>by
  obtain ⟨a,b⟩:=IT own Y i v h2;rcases C.nm i x h1 with z|z|z
  .exact absurd z b
  .exact absurd (Oz x z) h3
  .exact ⟨z,a⟩) (zY X.w) (by intro v z;cases z) rfl rfl
 have st4:tn 0 (pushCells ((s.heap.push (zY X.w)).push { cls:=.type "dict", data:=.dict #[] }) scope.names):=T.keep 0 _ _ st λb _ o e=>pushCells_keeps _ _ b o (AH _ (AH _ e));unfold newEnv;rw[sz1];have hDfp:s.heap.objs.size∉fp:=λz=>Bh _ (ob _ z);have hcD:∀ x c,(zo X zB scope cl s H fp).env.cells.lookup x=some c->c≠s.heap.objs.size:=λx c e z=>by
  obtain ⟨v,o,ho,hd⟩:=I4.cell x c e;obtain ⟨q,_⟩:=I4.pin (s.heap.objs.size,zY X.w) (by simp);rw[z,q]at ho;cases ho;cases hd
 have fpk:∀ {H':Hp} {pl:Yd},(∀ b∈fp,H' b=none)->(∀ p∈pl,p.1=s.heap.objs.size) -> ∀ b∈fp,B0 (zo X zB scope cl s H fp) pl H' b:=λ{H' pl} hn hp b hb=>
  ⟨hn b hb,(I4.ok.exf b hb).1,I4.ok.exfs b hb,.inl hb,(I4.ok.exf b hb).2,λp hq=>by
   rcases AV.mp hq with z|z
   .exact (hf b hb).2.2.2.2.2 p z
   .intro e;have e2:=hp p z;rw[e]at e2;exact hDfp (e2▸hb)⟩
 have loop:codeAny (model X.prog X.w) X.A (.compLoop (.SetComp elt [⟨tg,iter,ifs,0⟩] scope pos) 0 (.ref it) (.ref s.heap.objs.size) (zo X zB scope cl s H fp).env) (RR (.ref s.heap.objs.size) (s.heap.objs.size+1))
   { s with heap:=pushCells ((s.heap.push (zY X.w)).push { cls:=.type "dict", data:=.dict #[] }) scope.names }:=by
  refine Ue (λn s'=>∃ i H' ys o es ep t,Inv (zo X zB scope cl s H fp) [(s.heap.objs.size,o)] (clr own Y) H' s'/\SetK (intKind X.prog X.w) o es ep t ys/\tn i s'.heap/\(∀ b∈fp,H' b=none)/\W i n ys H') ?_ m0
   ⟨0,H,[],zY X.w,_,_,_,I4,.fresh,st4,λb hb=>(hf b hb).1,w0⟩
  rintro n s5 ⟨i,H5,ys,o,es,ep,t,I5,r5,st5,f5,w5⟩;have pinD:∀ p∈[(s.heap.objs.size,o)],p.1=s.heap.objs.size:=λp hp=>by
   have:p=(s.heap.objs.size,o):=by simpa using hp
   rw[this]
  rcases turn i n ys H5 w5 with ⟨stop,qq⟩|⟨go,step⟩
  .refine thn (T.done (zo X zB scope cl s H fp) rfl rfl rfl hcalm i _ s5 _ H5 _ I5 (fpk f5 pinD) st5 stop) λr s6 ⟨hr,I6⟩=>?_;subst hr;exact fin _ H5 s6 o es ep t ys I6 r5 qq
  .refine thn (T.item (zo X zB scope cl s H fp) rfl rfl rfl hcalm i _ s5 _ H5 _ I5 (fpk f5 pinD) st5 go) λr s6 ⟨u,hr,h6⟩=>?_;subst hr;refine thn h6 λ_ s7 ⟨x,H7,I7,r7,y7,st7,f7⟩=>?_;have I7':=I7.pinned (fpk f7 pinD) (T.obj _ _ st7);refine thn (hg _ s7 _ H7 x u _ I7' r7 (step x H7 y7)) λ_ s8 ⟨σ8,H8,I8,x8,q8⟩=>?_;refine thn (hi _ s8 σ8 H8 _ I8 q8) λok s9 ⟨H9,I9,q9⟩=>?_;have back:∀ {s':Yl} {Hx:Hp},Inv (zo X zB scope cl s H fp) ([(s.heap.objs.size,o)]++Gq fp s7.heap) σ8 Hx s'->tn (i+1) s'.heap /\ ∀ b∈fp,Hx b=none:=λ{s' Hx} Ix=>
    ⟨T.keep _ _ _ st7 λb hb o e=>(Ix.pin (b,o) (Bg _ (Bg _ (Gw hb e)))).1,λb hb=>by
     obtain ⟨o,e,d⟩:=T.obj _ _ st7 b hb;exact (Ix.pin (b,o) (Bg _ (Bg _ (Gw hb e)))).2.1⟩
   cases ok with
   |false=>
    obtain ⟨m',hm,w'⟩:=q9;obtain ⟨b1,b2⟩:=back I9;exact ⟨m',hm,i+1,H9,ys,o,es,ep,t,(I9.weak (by rw[x8.1]) x8.2).unpinned,r5,b1,b2,w'⟩
   |true=>
    refine thn (he _ s9 σ8 H9 _ I9 q9) λv s10 ⟨y,H10,I10,r10,k,hk,hlt,m',hm,w'⟩=>?_;subst hk;obtain ⟨b1,b2⟩:=back I10;have J10:=(I10.weak (by rw[x8.1]) x8.2).unpinned;obtain ⟨e10,n10,ne10,nf10,d10⟩:=J10.pin (s.heap.objs.size,o) (by simp);obtain ⟨tk,hv⟩:∃ tk,v=.int k tk:=r10;subst hv;refine T7 (intKind_is _ _ _ _) rfl e10 r5 hlt λh' o' es' ep' t' hs' e' S'=>?_;refine ⟨m',hm,i+1,H10,ins ys k,o',es',ep',t',?_,S',T.keep _ _ _ b1 λb hb o e=>hs'.extBut b o (λz=>hDfp (z▸hb)) e,b2,w'⟩;refine (Inv.repin (pl:=[]) J10 (λp hp=>?_) hs' (AF _) hcD e' (cB S')).tok _;rw[CG]at hp;have hp':p∈X.pn++zB:=hp;exact AX (AI (I.pin p hp').1)
 exact Wl loop (T.self _ 0 _ _ _ st4 loop)
def V1 (I:Inv X zB Y H s) (hf:∀ b∈fp,B0 X zB H b)
  (Ic:Inv (zo X zB scope cl s H fp) [(s.heap.objs.size,oD)] σc H' s') (hs:Heap.SameBut (s.heap.objs.size+1) s'.heap h') :
  Inv X zB Y H' { s' with heap:=h' }/\h'.get? s.heap.objs.size=some oD:=by
 obtain ⟨eD,nD,_⟩:=Ic.pin (s.heap.objs.size,oD) (by simp);have nC:H' (s.heap.objs.size+1)=none:=Ic.free;have eD':h'.get? s.heap.objs.size=some oD:=hs.extBut _ _ (AX (Dx _)) eD;have lt1:∀ {b:Yt} {o:Obj},s.heap.get? b=some o->b≠s.heap.objs.size+1:=λe=>AX (DG (AI e));have tr:∀ b u,H' b=some u->b≠s.heap.objs.size+1:=λb u e z=>by rw[z,nC]at e;cases e
 refine ⟨?_,eD'⟩;have B:=Ic.base;have un:Un (frs X.stack) fp H H' s.heap h':=by
  refine ⟨λb o e q hb hx=>hs.extBut b o (lt1 e) (B.keep b o e q hb hx),λb o e q hb hx=>?_,λb o e q hx=>B.free b o e q hx,λb o e hx=>?_,λb xs e=>B.tups b xs e,λb o xs e=>B.frzs b o xs e,λb ps e=>B.tbls b ps e⟩
  .obtain ⟨sl,e1⟩:=B.slot b o e q hb hx;exact ⟨sl,hs.extBut b _ (lt1 e) e1⟩
  .obtain ⟨o',e1⟩:=B.there b o e hx;exact ⟨o',hs.extBut b _ (lt1 e) e1⟩
 have hok:HOk X.prog X.w H' h':=λb u e=>by
  refine (Ic.hok b u e).stay (λc v hc q=>hs.extBut c v ?_ q) (λc q=>q) λc xs q=>q;rcases hc with z|z
  .rw[z];exact tr b u e
  .exact tr c _ z
 exact I.call' Ic.os un hok Ic.bare λb hb=>⟨(hf b hb).2.2.2.1,(hf b hb).2.1,(hf b hb).2.2.2.2.1,(hf b hb).2.2.2.2.2⟩
end
noncomputable abbrev TZ:=St->Hp->(List Int->Hp->Prop)->Prop
def PZ (X:Cx) (e:Expr) (t:TZ):Prop:=∀ (zB:Yd) (s:Yl) (Y:St) (H:Hp) (Q:List Int->Hp->Prop),Inv X zB Y H s->t Y H Q ->
 wpAny (model X.prog X.w) X.A (eval e X.env) (λv s'=>∃ a o es ep tb ks H',v=.ref a/\s'.heap.get? a=some o/\SetK (intKind X.prog X.w) o es ep tb ks/\Inv X zB Y H' s'/\Q ks H') X.xe s
noncomputable def MR (own:Yj) (wi:TI) (g:TG) (tc:TT) (te:TE):TZ:=λY H Q=>wi Y H λJ H1=>∃ W:Nat->Nat->List Int->Hp->Prop,(∃ m,W 0 m [] H1) /\ ∀ i m ys H,W i m ys H ->
 (J.stop i H/\Q ys H) \/
 (J.go i H /\ ∀ x H',J.yld i H x H'->g x (clr own Y) H' λσ2 H2=>Ext (clr own Y) σ2/\tc σ2 H2 λb H3=>
  if b=true then te σ2 H3 λv H4=>∃ k,v=.int k/\ys.length+1<scanBound /\ ∃ m',m'<m/\W (i+1) m' (ins ys k) H4 else ∃ m',m'<m/\W (i+1) m' ys H3)
def Rp (C:CompIn X scope own) (hcalm:X.calm=true) (hi:PI X tg iter wi) (p:CompParts X scope tg ifs elt g tc te) (hs:∀ x,foldedSetIterable iter X.env x=pure x:=by intro _;rfl) :
  PZ X (.SetComp elt [⟨tg,iter,ifs,0⟩] scope pos) (MR own wi g tc te):=by
 intro zB s Y H Q I h;obtain ⟨cl,hcl,c1,c2⟩:=C.sc.closure I;rw[arm_eval_SetComp];refine wpAny_comprehension_free rfl hs hcl C.sc.kind C.sc.names (thn (hi zB s Y H _ I h) λv s1 h1=>thn h1 λitv s2 h2=>?_);obtain ⟨it,fp,tn,J,H2,e,I2,T,st2,f2,W,⟨m0,w0⟩,turn⟩:=h2;subst e;refine X2 C hcalm I2 T st2 f2 c1 c2 (p.g _ _ _ _ _) (p.c _ _ _ _ _) (p.e _ _ _ _ _) w0 turn ?_;intro σc H' s' o es ep t ys Ic rv qq;obtain ⟨m,hn,_⟩:=Ic.loc;refine ⟨m,hn,λh' hs'=>?_⟩;obtain ⟨J',eD⟩:=V1 I2 f2 Ic hs';exact ⟨_,o,es,ep,t,ys,H',rfl,eD,rv,J',qq⟩
end L2
namespace ST
open PySem.Sem (wp)
section
variable {prog:Ym} {w:Yo} {A:Yn} {E:Yc} {s:Yl}
variable {K:Type} [DecidableEq K] {knd:KeyKind prog w K}
noncomputable def zb (ks:List K):List K:=ks.foldl ins []
def K9 (ks:List K) (k:K):zb (ks++[k])=ins (zb ks) k:=by unfold zb;rw[List.foldl_append];rfl
def W3 (ks:List K) (k:K):(ins ks k).length<=ks.length+1:=by unfold ins;split <;> simp
def dU (ks:List K) (k:K):ks.length<=(ins ks k).length:=by unfold ins;split <;> simp
def Xj (val:Nat->K) (h:i<=n):(zb ((List.range i).map val)).length<=(zb ((List.range n).map val)).length:=by
  induction n with
  | zero => have : i = 0 := by omega
            subst this;exact AF _
  |succ n ih=>
    by_cases q:i=n+1
    .subst q;exact AF _
    . rw[List.range_succ,Br,show List.map val [n]=[val n]from rfl,K9]
      exact Ak (ih (by omega)) (dU _ _)
def Hu (ks:List K):(zb ks).length<=ks.length:=by
 have:∀ (l acc:List K),(l.foldl ins acc).length<=acc.length+l.length:=by
  intro l;induction l with
  |nil=>intro acc;simp
  |cons x r ih=>intro acc;have:=ih (ins acc x);have:=W3 acc x;simp only[List.foldl_cons,B5];omega
 simpa [zb] using this ks []
def Sl (ks:List K) (k x:K):x∈ins ks k ↔ x∈ks\/x=k:=by
 unfold ins;split
 .rename_i h;constructor
  .exact .inl
  .rintro (z|z)
   .exact z
   .rw[z];exact h
 .simp
def Tc (ks:List K) (x:K):x∈zb ks ↔ x∈ks:=by
  have:∀ (l acc:List K),x∈l.foldl ins acc ↔ x∈acc\/x∈l:=by
    intro l;induction l with
    |nil=>intro acc;simp
    |cons y r ih=>intro acc;rw[List.foldl_cons,ih,Sl,AL];simp[or_assoc]
  simpa [zb] using this ks []
def ZE (h : ks.Nodup) (k : K) : (ins ks k).Nodup := by
  unfold ins;split
  .exact h
  · rename_i q
    rw[Dm]
    exact ⟨h, by simp, fun a ha b hb z => by have : b = k := by simpa using hb
                                             subst this;subst z;exact q ha⟩
def cR (ks:List K):(zb ks).Nodup:=by
 have:∀ (l acc:List K),acc.Nodup->(l.foldl ins acc).Nodup:=by
  intro l;induction l with
  |nil=>intro acc h;exact h
  |cons y r ih=>intro acc h;exact ih _ (ZE h y)
 exact this ks [] (by simp)
def cJ (a:Yu) (h:Q₁ (.ref s.heap.objs.size) { s with heap:=s.heap.push (zY w) }) :
  codeAny (model prog w) A (.call (.builtin "set.__new__") ⟨[.type "set", a],[]⟩) (wants Q₁ E) s:=by
 refine codeAny_of_tree ?_;show wpAny _ A.in1 (do checkBuiltinCall "set.__new__" ⟨[.type "set", a],[]⟩;again (.builtin "set.__new__" ⟨[.type "set", a],[]⟩)) _ _ s;refine AA (wpAny_of_eq (F.newCall_set_1 a) (AB ⟨plainId_quiet F.plain_set_new _,C1 F.entry_set_new ?_⟩));rw[Dv F.plain_set_new _];unfold Builtin.«set.__new__» Builtin.Frozenset.newClass;have hsub:=sub_set_self;obtain ⟨hp,g,d,tk,os⟩:=s;wp_walk;refine wpAny_askSetting (AB ?_);simp only[newObj];refine AA (wpAny_alloc (AB ?_));exact AB h
variable {R:Yx} {I:Yt} {fp wr:Yg} {G:Array GenState->Array GenState->Prop} {n:Nat} {P:Nat->Value->Prop} {St:Nat->Shared->Prop}
def Wq (W:WalksS prog w A.in1 I fp wr G n P St) (S:Yt) (hSf:S∉fp) (val:Nat->K) (hval:∀ i v,P i v->knd.is (val i) v=true/\v.scannable=true) (hb:(zb ((List.range n).map val)).length+1<scanBound) :
  ∀ (k i:Nat) (s:Yl) (o:Obj) (es:Yw) (ep:Nat) (t:SetTable),n-i=k->i<=n->St i s->s.heap.get? S=some o->SetK knd o es ep t (zb ((List.range i).map val)) ->
   (∀ s' o' es' ep' t',Moved (S::wr) G s s'->s'.heap.get? S=some o'->SetK knd o' es' ep' t' (zb ((List.range n).map val))->R (.ok (.ret .none)) s') ->
   codeAny (model prog w) A (.builtin "set.update.loop" ⟨[.ref S,.ref I],[]⟩) R s:=by
 have hSw:S∉wr:=λh=>hSf (W.sub _ h);have hsub:∀ b∈wr,b∈S::wr:=λb hb=>Am _ hb;intro k;induction k with
 |zero=>
  intro i s o es ep t hk hi hst ho hS hR;have hin:i=n:=by omega
  subst hin;refine C1 F.entry_set_update_loop ?_;rw[Dv F.plain_set_update_loop _];refine AA (W.done s _ _ hst λs' hm=>?_);exact AB (hR s' o es ep t (hm.mono hsub) (hm.heap S _ hSw ho) hS)
 |succ k ih=>
  intro i s o es ep t hk hi hst ho hS hR;have hlt:i<n:=by omega
  refine C1 F.entry_set_update_loop ?_;rw[Dv F.plain_set_update_loop _];refine AA (W.item i s _ _ hlt hst λv s' hP hst' hm=>?_);obtain ⟨hv1,hv2⟩:=hval i v hP;have ho':=hm.heap S _ hSw ho;refine AA (Bw ?_);unfold setAdd;refine Bw ?_;refine AA (knd.pyHash (k:=val i) hv1 ?_);have hroom:(zb ((List.range i).map val)).length+1<scanBound:=by have:=Xj val (CP hlt);omega
  refine Oh (s:={ s' with toks:=s'.toks+1 }) hv1 hv2 ho' hS hroom λh' o2 es2 ep2 t2 b hsb ho2 hS2=>?_;have hS3:SetK knd o2 es2 ep2 t2 (zb ((List.range (i+1)).map val)):=by
   rw[List.range_succ,Br];rw[show List.map val [i]=[val i]from rfl,K9];exact hS2
  refine AB ⟨plainId_quiet F.plain_set_update_loop _,ih (i+1) _ o2 es2 ep2 t2 (by omega) hlt (W.frame _ s' _ _ hst' (DF _) λb hb o e=>?_) ho2 hS3 λs'' o' es' ep' t' hm'' ho'' hS''=>?_⟩
  .rw[hsb.2 b (λh:b=S=>hSf (by rw[<-h];exact hb))];exact e
  .refine hR s'' o' es' ep' t' (Moved.trans W.gtrans ((hm.mono hsub).then_heap (DF _) λb o hb e=>?_) hm'') ho'' hS'';rw[hsb.2 b (λh:b=S=>hb (by rw[h];exact AW))];exact e
end
section
variable {prog:Ym} {w:Yo} {A:Yn} {E:Yc} {s:Yl}
variable {K:Type} [DecidableEq K] {knd:KeyKind prog w K}
def Xw:isSubtype (.type "tuple") (.type "set")=pure false:=by rw[isSubtype_type];kernel_rfl
def a9:isSubtype (.type "tuple") (.type "frozenset")=pure false:=by rw[isSubtype_type];kernel_rfl
def QM {K:Type} (ks:List K) (d:K):(List.range ks.length).map (λi=>ks.getD i d)=ks:=by
 apply List.ext_getElem?;intro i;rw[AR];by_cases q:i<ks.length
 .rw[List.getElem?_range q,AJ q];simp[q]
 .rw[EG (l:=List.range ks.length) (by simpa using q),EG (l:=ks) (Nat.le_of_not_lt q)];rfl
set_option maxHeartbeats 3200000 in
def Zx [Inhabited K] (hty:ty = "list" \/ ty = "tuple")
  (hh:A.handled=none) (hl:∃ ol,s.heap.get? l=some ol/\ol.cls=.type ty /\ ∃ nl,ol.data=.seq items nl) (hi:F2 (λv k=>knd.is k v=true/\v.scannable=true) items.toList ks) (hb:(zb ks).length+1<scanBound)
  (h:∀ (h':Heap) (tk:Nat) (o:Obj) (es:Yw) (ep:Nat) (t:SetTable),h'.get? s.heap.objs.size=some o->SetK knd o es ep t (zb ks) ->
   (∀ b o,b<s.heap.objs.size->s.heap.get? b=some o->h'.get? b=some o)->Q (.ref s.heap.objs.size) { s with heap:=h',toks:=tk }) :
  wpAny (model prog w) A (call (.type "set") [.ref l]) Q E s:=by
 obtain ⟨c,tl,hmro⟩:=F.called_set.mro;have hmade:=F.called_set.made;have hsub:=F.called_set.sub;have hlen:items.size=ks.length:=by rw[<-BD];exact Js hi
 refine wpAny_call (codeAny_of_tree ?_);refine AB ⟨Code.quiet_builtin _ (by decide+kernel),C1 F.entry_type_call ?_⟩;rw[Around.under_plain (weight_type_call_type "set" [.ref l] []) rfl];have h1:=F.called_set.notType;have h2:=F.called_set.canCreate;have hct:=F.typeCall_set_1 (.ref l);repeat (any_goals (first|assumption|wp_step))
 refine codeAny_mono (cJ (.ref l) (E:=E) (Q₁:=λobj s₁=>obj=.ref s.heap.objs.size/\s₁={ s with heap:=s.heap.push (zY w) }) ⟨rfl,rfl⟩) λr s₁ hr=>?_;cases r with
 |error e=>exact hr
 |ok fl=>
  cases fl with
  |ret obj=>
   obtain ⟨rfl,rfl⟩:=hr;have hS:(s.heap.push (zY w)).get? s.heap.objs.size=some (zY w):=AN _ rfl;have hT:Shared.TypeIs { s with heap:=s.heap.push (zY w) } (.ref s.heap.objs.size) "set" := ⟨_,hS,rfl⟩;have hli:=F.called_set.init.lookup;have hbi:=F.called_set.init.bind (.ref s.heap.objs.size);repeat (any_goals (first|assumption|wp_step))
   refine codeAny_mono (codeAny_call_builtin (R:=wants (λr s₂=>r=.none /\ ∃ h' tk o es ep t,s₂={ s with heap:=h',toks:=tk }/\h'.get? s.heap.objs.size=some o/\SetK knd o es ep t (zb ks) /\
     (∀ b o,b<s.heap.objs.size->s.heap.get? b=some o->h'.get? b=some o)) E) F.called_set.init.plain F.entry_set_init (check_set_init_1 hT ?_)) λr₂ s₂ hr₂=>?_
   .obtain ⟨ol,hol,hcl,nl,hdl⟩:=hl;obtain ⟨ocls,odict,odata,oslots⟩:=ol;simp only at hcl hdl;subst hcl;subst hdl;have hlS:l<s.heap.objs.size:=AI hol;have hol':(s.heap.push (zY w)).get? l=some { cls:=.type ty,dict:=odict,data:=.seq items nl,slots:=oslots }:=AH _ hol;have hh3:A.in1.in1.in1.handled=none:=by simp[hh]
    have hneI:l≠(s.heap.push (zY w)).objs.size:=by
     rw[CK];exact AX (DG hlS)
    have hSf:s.heap.objs.size∉[(s.heap.push (zY w)).objs.size,l]:=by
     rw[CK];simp only[AL,AU,Cv,or_false,not_or];exact ⟨AX (Dx _),Dc hlS⟩
    have hval:∀ (d:K) (i:Nat) (v:Yu),items[i]?=some v->knd.is (ks.getD i d) v=true/\v.scannable=true:=λd i v hv=>by
     have e:items.toList[i]?=some v:=by rw[Bb];exact hv
     have:∀ {xs:Yf} {ys:List K},F2 (λv k=>knd.is k v=true/\v.scannable=true) xs ys -> ∀ (i:Nat),xs[i]?=some v->knd.is (ys.getD i d) v=true/\v.scannable=true:=by
      intro xs ys f;induction f with
      |nil=>intro i e;simp at e
      |cons q _ ih=>
       intro i e;cases i with
       |zero=>simp at e;subst e;exact q
       |succ i=>exact ih i (by simpa using e)
     exact this hi i e
    have fin:∀ (I:Yt) (hI:I=(s.heap.push (zY w)).objs.size) (P':Fin->Shared->Prop) (s':Yl) (o':Obj) (es':Yw) (ep':Nat) (t':SetTable) (itO:Obj),
      Moved (s.heap.objs.size::[I]) (λa b=>b=a) { s with heap:=(s.heap.push (zY w)).push itO } s'->s'.heap.get? s.heap.objs.size=some o'->SetK knd o' es' ep' t' (zb ks) ->
      (∃ h' tk o es ep t,s'={ s with heap:=h',toks:=tk }/\h'.get? s.heap.objs.size=some o/\SetK knd o es ep t (zb ks)/\(∀ b o,b<s.heap.objs.size->s.heap.get? b=some o->h'.get? b=some o)):=by
     intro I hI P' s' o' es' ep' t' itO hm ho' hS';obtain ⟨h',g',d',tk',os'⟩:=s';have eg:g'=s.gens:=hm.gens;have ed:d'=s.drawn:=hm.drawn;have eo:os'=s.os:=hm.os;subst eg;subst ed;subst eo;refine ⟨h',tk',o',es',ep',t',rfl,ho',hS',λb o hb e=>?_⟩;have hb1:b≠s.heap.objs.size:=AX hb;have hb2:b≠I:=by rw[hI,CK];exact AX (DG hb)
     exact hm.heap b o (by simp only[AL,AU,Cv,or_false,not_or];exact ⟨hb1,hb2⟩) (AH _ (AH _ e))
    have go:∀ (d:K) (St:Nat->Heap->Prop) (itO:Obj) (W:Walks prog w A.in1.in1.in1 (s.heap.push (zY w)).objs.size [(s.heap.push (zY w)).objs.size,l] [(s.heap.push (zY w)).objs.size] items.size (λi v=>items[i]?=some v) St),St 0 ((s.heap.push (zY w)).push itO) ->
      ∀ {R':Yx},(∀ s',(∃ h' tk o es ep t,s'={ s with heap:=h',toks:=tk }/\h'.get? s.heap.objs.size=some o/\SetK knd o es ep t (zb ks)/\(∀ b o,b<s.heap.objs.size->s.heap.get? b=some o->h'.get? b=some o))->R' (.ok (.ret .none)) s') ->
      codeAny (model prog w) A.in1.in1 (.builtin "set.update.loop" ⟨[.ref s.heap.objs.size,.ref (s.heap.push (zY w)).objs.size],[]⟩) R' { s with heap:=(s.heap.push (zY w)).push itO }:=by
     intro d St itO W st R' hR;refine Wq (knd:=knd) W.toS s.heap.objs.size hSf (λi=>ks.getD i d) (hval d) (by rw[hlen,QM];exact hb) (items.size-0) 0 _ (zY w) _ _ _ (by omega) (Bz _) st (AH _ hS) .fresh λs' o' es' ep' t' hm ho' hS'=>?_;refine hR s' (fin _ rfl (λ_ _=>True) s' o' es' ep' t' itO hm ho' ?_);rw[hlen,QM]at hS';exact hS'
    rcases hty with rfl|rfl
    .have hsls:=F.sub_list_set;have hslf:=F.sub_list_frozenset;have hne:(Value.type "list" == Value.type "dict")=false:=by decide
     have hl1:(s.heap.push (zY w)).IsList l items:=⟨_,hol',rfl,nl,rfl⟩;unfold Builtin.«set.__init__» noKeywords Builtin.Frozenset.updateFrom;generalize hPI:pyIter=PI;wp_walk;subst hPI;refine wpAny_pyIter_list hl1 ?_;refine AA (wpAny_runValue ?_);refine go default _ _ (Walks.list hh3 _ l hneI items) ⟨⟨_,AN _ rfl,rfl,rfl⟩,(hl1.push _)⟩ λs' q=>?_;refine AB ?_;exact AB ⟨rfl,q⟩
    .have hsls:=Xw;have hslf:=a9;have hne:(Value.type "tuple" == Value.type "dict")=false:=by decide
     have hl1:(s.heap.push (zY w)).IsTuple l items:=⟨_,hol',rfl,nl,rfl⟩;unfold Builtin.«set.__init__» noKeywords Builtin.Frozenset.updateFrom;generalize hPI:pyIter=PI;wp_walk;subst hPI;refine wpAny_pyIter_tuple hl1 ?_;refine AA (wpAny_runValue ?_);refine go default _ _ (Walks.tuple hh3 _ l hneI items) ⟨⟨_,AN _ rfl,rfl,rfl⟩,(hl1.push _)⟩ λs' q=>?_;refine AB ?_;exact AB ⟨rfl,q⟩
   .cases r₂ with
    |error e=>exact hr₂
    |ok fl₂=>
     cases fl₂ with
     |ret r=>
      obtain ⟨rfl,h',tk,o,es,ep,t,rfl,ho',hS',hk'⟩:=hr₂;repeat (any_goals (first|assumption|wp_step))
      exact h _ _ _ _ _ _ ho' hS' hk'
     |_=>exact hr₂.elim
  |_=>exact hr.elim
end
noncomputable def Ay (ks:Ye):List Int:=ks.mergeSort λa b=>decide (a<=b)
def Eh (ks:Ye):(Ay ks).Perm ks:=List.mergeSort_perm _ _
def JV (ks:Ye):(Ay ks).Pairwise (· <= ·):=by
 have:=List.pairwise_mergeSort (le:=λ(a b:Int)=>decide (a<=b)) (λa b c h1 h2=>by simp at h1 h2 ⊢;omega) (λa b=>by simp;omega) ks;exact this.imp λh=>by simpa using h
theorem Nb:∀ {xs ys:Ye},xs.Perm ys->xs.Pairwise (· <= ·)->ys.Pairwise (· <= ·)->xs=ys
 |[],ys,p,_,_=>by have:=p.length_eq;simp at this;rw[GB.mp this.symm]
 |x::xs,[],p,_,_=>by have:=p.length_eq;simp at this
 |x::xs,y::ys,p,h1,h2=>by
  have hx:=Cj.mp h1;have hy:=Cj.mp h2;have e:x=y:=by
   have a:x∈y::ys:=p.mem_iff.mp AW;have b:y∈x::xs:=p.mem_iff.mpr AW;rcases AL.mp a with z|z
   .exact z
   .rcases AL.mp b with q|q
    .exact q.symm
    .exact Int.le_antisymm (hx.1 y q) (hy.1 x z)
  subst e;rw[Nb (p.cons_inv) hx.2 hy.2]
def Mi (p:xs.Perm ys) (h:xs.Pairwise (· <= ·)):xs=Ay ys:=Nb (p.trans (Eh ys).symm) h (JV ys)
def PY
  (hc:wpAny (model prog w) A.in1 (collect v) (λvs s1=>∃ ns,IntsAre vs ns/\vs.length<64 /\ ∀ (h':Heap) (out:List Value) (n:Nat),(∀ b u,s1.heap.get? b=some u->h'.get? b=some u)->h'.get? s1.heap.objs.size=some (seqObj "list" out.toArray n)->IntsAre out (Ay ns)->Q (.ref s1.heap.objs.size) { s1 with heap:=h' }) E s) :
  wpAny (model prog w) A (call (.builtin "sorted") [v]) Q E s:=by
 refine Calls.call_function_entry kind_sorted plain_sorted entry_sorted (args_sorted1 _) ?_;unfold Builtin.«sorted»;refine AA (AB ?_);refine AA (Ar hc (λvs s1 h1=>?_) λ_ _ h'=>h');obtain ⟨ns,hI,h64,h⟩:=h1;refine AA (wpAny_newList ?_ (by rw[sizeLine_eq];omega));have hoL:(s1.heap.push (seqObj "list" vs.toArray 0)).get? s1.heap.objs.size=some (seqObj "list" vs.toArray 0):=AN _ rfl;refine AA (Bw (BY slot_list_sort ⟨_,hoL,rfl⟩ entry_list_sort (list_sort_tree hoL hI h64 λout ns' a1 a2 a3=>⟨_,rfl,?_⟩) (args_list_sort _)));refine AB ⟨_,rfl,?_⟩;have g1:=get?_update_seq hoL (λ_=> #[]);have g2:(((s1.heap.push (seqObj "list" vs.toArray 0)).update s1.heap.objs.size (Obj.mapSeq λ_=> #[])).push (seqObj "tuple" vs.toArray 0)).get? s1.heap.objs.size=_:=AH _ g1;have g3:=AH (seqObj "list" #[] 0) g2;have g4:=get?_update_seq g3 (λ_=>out);have eS:=Mi a2 a3;subst eS;refine h _ out.toList _ (λb u e=>?_) (by rw[Array.toArray_toList];exact g4) a1;have hb:s1.heap.objs.size≠b:=λz=>Bh _ (z▸AI e);exact (EC _ _ hb).trans (AH _ (AH _ ((EC _ _ hb).trans (AH _ e))))
def VP (h:F2 (Lo (intKind prog w)) es ks):IntsAre (es.map (·.2)) ks:=by
 induction h with
 |nil=>exact .nil
 |cons h _ ih=>
  obtain ⟨⟨h1,_⟩,_⟩:=h;obtain ⟨t,e⟩:=Value.isInt_shape h1;rw[Ad,e];exact .cons _ _ ih
def VM (p:us.Perm vs):∀ {ks:Ye},IntsAre vs ks -> ∃ ks',ks'.Perm ks/\IntsAre us ks':=by
 have p':=p.symm;clear p;induction p' with
 |nil=>intro ks h;exact ⟨ks,.refl _,h⟩
 |cons x _ ih=>
  intro ks h;cases h with
  |cons n t r=>
   obtain ⟨ys',q1,q2⟩:=ih r;exact ⟨_,q1.cons _,.cons _ _ q2⟩
 |swap x y l=>
  intro ks h;cases h with
  |cons n t r=>
   cases r with
   |cons n2 t2 r=>exact ⟨_,List.Perm.swap _ _ _,.cons _ _ (.cons _ _ r)⟩
 |trans _ _ ih1 ih2=>
  intro ks h;obtain ⟨ys',q1,q2⟩:=ih1 h;obtain ⟨ys'',r1,r2⟩:=ih2 q2;exact ⟨ys'',r1.trans q1,r2⟩
def S6 (p:xs.Perm ys):Ay xs=Ay ys:=Mi ((Eh xs).trans p) (JV xs)
def V3 (hh:A.handled=none) (ho:s.heap.get? a=some o) (hS:SetK (intKind prog w) o es ep t ks) (h64:ks.length<64)
  (h:∀ (s1:Shared) (h':Heap) (out:List Value) (n:Nat),(∀ b u,s.heap.get? b=some u->s1.heap.get? b=some u)->s1.os=s.os->s1.gens=s.gens->(∀ b u,s1.heap.get? b=some u->h'.get? b=some u)->h'.get? s1.heap.objs.size=some (seqObj "list" out.toArray n)->IntsAre out (Ay ks)->Q (.ref s1.heap.objs.size) { s1 with heap:=h' }) :
  wpAny (model prog w) A (call (.builtin "sorted") [.ref a]) Q E s:=by
 refine PY (YD hh ho hS λs' acc k1 k2 k3 hp=>?_);obtain ⟨ks',p,f⟩:=hS.ent;obtain ⟨ks2,p2,f2⟩:=VM hp (VP f);refine ⟨ks2,f2,?_,λh' out n e1 e2 e3=>?_⟩
 .rw[hp.length_eq,AG,BD,hS.size];exact h64
 .rw[S6 (p2.trans p)]at e3;exact h s' h' out n k1 k2 k3 e1 e2 e3
def bD (hty:ty = "list" \/ ty = "tuple") (hl:∃ ol,s.heap.get? l=some ol/\ol.cls=.type ty /\ ∃ nl,ol.data=.seq vs.toArray nl)
  (h:Q vs { s with heap:=(s.heap.push (seqObj "list" #[] 0)).update s.heap.objs.size (Obj.mapSeq (· ++ vs.toArray)) }) (hsz:vs.length<=sizeLine) :
  wpAny (model prog w) A (collect (.ref l)) Q E s:=by
 obtain ⟨o,ho,hc,n,hd⟩:=id hl;unfold collect;refine AA (wpAny_runValue (C1 entry_proto_collect' ?_));refine AA (wpAny_newList (AB ⟨Code.quiet_builtin _ (by decide+kernel),C1 entry_list_iadd' ?_⟩));show wpAny _ _ (Builtin.List.listExtendWith (.ref s.heap.objs.size) (.ref l) (.ref s.heap.objs.size)) _ _ { s with heap:=s.heap.push (seqObj "list" #[] 0) };unfold Builtin.List.listExtendWith;have ho':(s.heap.push (seqObj "list" #[] 0)).get? l=some o:=AH _ ho;refine AA (wpAny_typeOf ⟨o,ho',hc⟩ ?_);have ht:(Value.type ty==Value.type "list" || Value.type ty==Value.type "tuple")=true:=by rcases hty with rfl|rfl <;> decide
 rw[AD (by rw[Bool.or_assoc,ht];simp)];refine AA (listItems_at ho' hd ?_);refine AA (listItems_at (AN _ rfl) rfl ?_);rw[AE (by simp)];refine AA (listUpdate_at (AN _ rfl) rfl ?_ (Bz _) (by show (#[]++vs.toArray).size<=sizeLine+1;simp only[Array.size_append,AZ,DY];omega));refine AB ?_
 show wpAny (model prog w) A (do
   let o <- load s.heap.objs.size;match o.data with
   |.seq xs _=>pure xs.toList
   |_=>unsupported "internal:collect") Q E { s with heap:=(s.heap.push (seqObj "list" #[] 0)).update s.heap.objs.size (Obj.mapSeq (· ++ vs.toArray)) }
 refine AA (wpAny_load (get?_update_seq (AN _ rfl) _) ?_);show wpAny _ _ (pure ((#[]:Array Value)++vs.toArray).toList) Q E _;rw[show ((#[]:Array Value)++vs.toArray).toList=vs by simp];exact AB h
def RG (hty:ty = "list" \/ ty = "tuple") (hl:∃ ol,s.heap.get? l=some ol/\ol.cls=.type ty /\ ∃ nl,ol.data=.seq vs.toArray nl) (hI:IntsAre vs ns) (h64:vs.length<64)
  (h:∀ (h1 h':Heap) (out:List Value) (n:Nat),(∀ b u,s.heap.get? b=some u->h1.get? b=some u)->(∀ b u,h1.get? b=some u->h'.get? b=some u)->h'.get? h1.objs.size=some (seqObj "list" out.toArray n)->IntsAre out (Ay ns)->Q (.ref h1.objs.size) { s with heap:=h' }) :
  wpAny (model prog w) A (call (.builtin "sorted") [.ref l]) Q E s:=by
 refine PY (bD hty hl ⟨ns,hI,h64,λh' out n e1 e2 e3=>h _ h' out n (λb u e=>?_) e1 e2 e3⟩ (by rw[sizeLine_eq];omega));have hb:s.heap.objs.size≠b:=λz=>Bh _ (z▸AI e);exact (EC _ _ hb).trans (AH _ e)
end ST
namespace L2
open ST
def Inv.kept' (I:Inv X zB Y H s) (k:∀ b u,s.heap.get? b=some u->s1.heap.get? b=some u) (ho:s1.os=s.os) (hg:s1.gens=s.gens):Inv X zB Y H s1 :=
 I.call' (ch:=[]) ho (Un.kept k) (I.hok.kept k) (by rw[hg];exact I.bare) λb hb=>nomatch hb
theorem Lb:∀ {ns:Ye} {us:Yf},IntsAre us ns->zX (ns.map V.int) us
 |_,_,.nil=> .nil
 |_,_,.cons n t h=> .cons ⟨t,rfl⟩ (Lb h)
theorem LB:∀ {ns:Ye} {us:Yf},zX (ns.map V.int) us->IntsAre us ns
 |[],_,.nil=> .nil
 |n::ns,_,.cons r h=>by obtain ⟨t,rfl⟩:=r;exact .cons n t (LB h)
def MW (ks:Ye):(Ay ks).length=ks.length:=(Eh ks).length_eq
def VL (hc:X.calm=true) (hg:Gl X "sorted") (hm:X.mg "sorted" = none) (ha:PZ X e t) (hs:starEach [e] X.env=(false,eval e X.env)::starEach [] X.env:=by rfl) (hpl:(backTo pos (starEach [] X.env)).any (·.1)=false:=by rfl) :
  PE X (.Call (.Name "sorted" p) [e] [] pos) (λY H Q=>t Y H λks H1=>ks.length<64 /\ ∀ q,H1 q=none->Q (.ref q) (upd H1 q (.lst ((Ay ks).map V.int)))):=by
 intro zB s Y H Q I h;refine Eu (Fb I hg hm (by rfl) ?_ (by decide) (by decide));refine callWith_builtin1 ?_ hs hpl;rw[hs];refine Calls.spliced_cons (thn (ha zB s Y H _ I h) λu s1 ⟨a,o,es,ep,tb,ks,H1,hv,ho,hS,I1,h64,q⟩=>Calls.spliced_nil ?_);subst hv;refine V3 (I1.ok.hd hc) ho hS h64 λs2 h' out n k1 k2 k3 k4 e4 i4=>?_;have I2:Inv X zB Y H1 s2:=I1.kept' k1 k2 k3;have hf:H1 s2.heap.objs.size=none:=I2.hok.fresh (AF _);refine ⟨.ref s2.heap.objs.size,upd H1 s2.heap.objs.size (.lst ((Ay ks).map V.int)),I2.laid k4 (AF _) ⟨by rw[AG,MW,sizeLine_eq];omega,out,n,Lb i4,e4⟩,rfl,q _ hf⟩
def X6:B9 X (.builtin "sorted") (λxs H Q=>∃ a ns,xs=[.ref a]/\(SqL X.K H a (ns.map V.int)\/SqT X.K H a (ns.map V.int))/\ns.length<64 /\ ∀ q,H q=none->Q (.ref q) (upd H q (.lst ((Ay ns).map V.int)))):=by
 intro zB s Y H xs us Q I r h;obtain ⟨a,ns,rfl,hq,h64,q⟩:=h;obtain ⟨u,rfl,rfl⟩:∃ u,us=[u]/\u=.ref a:=by
  cases r with
  |cons r1 r2=>cases r2;exact ⟨_,rfl,r1⟩
 have key:∃ (ty:String) (its:List Value),(ty = "list" \/ ty = "tuple")/\(∃ ol,s.heap.get? a=some ol/\ol.cls=.type ty /\ ∃ nl,ol.data=.seq its.toArray nl)/\zX (ns.map V.int) its:=by
  rcases hq with hq|hq
  .obtain ⟨its,rv,⟨ol,nl,e1,e2,_,e3⟩,_⟩:=I.list hq;exact ⟨"list", its,.inl rfl,⟨ol,e1,e2,nl,e3⟩,rv⟩
  .obtain ⟨its,rv,⟨ol,e1,e2,nl,e3⟩,_⟩:=I.tuple hq;exact ⟨"tuple", its,.inr rfl,⟨ol,e1,e2,nl,e3⟩,rv⟩
 obtain ⟨ty,its,hty,hl,rv⟩:=key;refine RG hty hl (LB rv) (by rw[<-rv.length,AG];exact h64) λh1 h' out n k1 k4 e4 i4=>?_;have I2:Inv X zB Y H { s with heap:=h1 }:=I.kept k1;have hf:H h1.objs.size=none:=I2.hok.fresh (AF _);exact ⟨.ref h1.objs.size,upd H h1.objs.size (.lst ((Ay ns).map V.int)),I2.laid k4 (AF _) ⟨by rw[AG,MW,sizeLine_eq];omega,out,n,Lb i4,e4⟩,rfl,q _ hf⟩
def ZH (hc:X.calm=true) (hg:Gl X "set") (hm:X.mg "set" = none) (ha:PE X e te) (hs:starEach [e] X.env=(false,eval e X.env)::starEach [] X.env:=by rfl) (hpl:(backTo pos (starEach [] X.env)).any (·.1)=false:=by rfl) :
  PZ X (.Call (.Name "set" p) [e] [] pos) (λY H Q=>te Y H λx H1=>∃ a ns,x=.ref a/\(SqL X.K H1 a (ns.map V.int)\/SqT X.K H1 a (ns.map V.int))/\(zb ns).length+1<scanBound/\Q (zb ns) H1):=by
 intro zB s Y H Q I h;refine Eu (Fb I hg hm (by rfl) ?_ (by decide) (by decide));refine callWith_type1 ?_ hs hpl;rw[hs];refine Calls.spliced_cons (thn (ha zB s Y H _ I h) λu s1 ⟨x,H1,I1,r1,a,ns,hx,hq,hb,q⟩=>Calls.spliced_nil ?_);subst hx;cases r1;have key:∃ (ty:String) (its:List Value),(ty = "list" \/ ty = "tuple")/\(∃ ol,s1.heap.get? a=some ol/\ol.cls=.type ty /\ ∃ nl,ol.data=.seq its.toArray nl)/\zX (ns.map V.int) its:=by
  rcases hq with hq|hq
  .obtain ⟨its,rv,⟨ol,nl,e1,e2,_,e3⟩,_⟩:=I1.list hq;exact ⟨"list", its,.inl rfl,⟨ol,e1,e2,nl,e3⟩,rv⟩
  .obtain ⟨its,rv,⟨ol,e1,e2,nl,e3⟩,_⟩:=I1.tuple hq;exact ⟨"tuple", its,.inr rfl,⟨ol,e1,e2,nl,e3⟩,rv⟩
 obtain ⟨ty,its,hty,hl,rv⟩:=key;have hi:F2 (λv k=>(intKind X.prog X.w).is k v=true/\v.scannable=true) its.toArray.toList ns:=by
  rw[List.toList_toArray];have:=LB rv;clear rv hq q hb hl;induction this with
  |nil=>exact .nil
  |cons n t _ ih=>exact .cons ⟨intKind_is _ _ _ _,rfl⟩ ih
 refine Zx hty (I1.ok.hd hc) hl hi hb λh' tk o es ep t ho hS k=>?_;have I2:Inv X zB Y H1 { s1 with heap:=h',toks:=tk }:=I1.kept λb u e=>k b u (AI e) e;exact ⟨_,o,es,ep,t,_,H1,rfl,ho,hS,I2,q⟩
end L2
namespace L3
open L2 ST
noncomputable abbrev FZ:=Sd->Mem->Option (List Int × Mem)
noncomputable def trZ (K:Yb) (f:FZ):TZ:=λτ H Q=>∃ L Y M ks M',Cor K L M H/\Ac L H Y τ/\f Y M=some (ks,M') /\ ∀ L' H',Stp L H L' H'->Cor K L' M' H'->Q ks H'
structure QZ (X:Cx) (e:Expr) (f:FZ):Prop where
 un:PZ X e (trZ X.K f)
def PZ.imp (h:PZ X e t) (hi:∀ τ H Q,t' τ H Q->t τ H Q):PZ X e t':=λzB s Y H Q I q=>h zB s Y H Q I (hi _ _ _ q)
noncomputable def GU (own:Yj) (fi:FI) (g:FG) (tc:FT) (te:FE):FZ:=λY M=>match zj own fi g tc te Y M with
 |some (.fl ys,M2)=>match BC ys with
  |some ks=>if ks.length+1<scanBound then some (zb ks,M2) else none
  |none=>none
 |_=>none
theorem Pz:∀ {as bs:List D} {zs:Ye},BC (as++bs)=some zs -> ∃ xs ys,BC as=some xs/\BC bs=some ys/\zs=xs++ys
 |[],bs,zs,h=>⟨[],zs,rfl,h,rfl⟩
 |a::as,bs,zs,h=>by
  cases a with
  |int i=>
   rw[List.cons_append]at h;unfold BC at h;split at h
   .rename_i us e;cases h;obtain ⟨xs,ys,e1,e2,e3⟩:=Pz e;refine ⟨i::xs,ys,?_,e2,by rw[e3];rfl⟩;unfold BC;rw[e1]
   .cases h
  |_=>cases h
def Zm (h:BC as=some xs):BC (as++[.int i])=some (xs++[i]):=by
 induction as generalizing xs with
 |nil=>cases h;rfl
 |cons a as ih=>
  cases a with
  |int j=>
   unfold BC at h;split at h
   .rename_i us e;cases h;rw[List.cons_append];unfold BC;rw[ih e];rfl
   .cases h
  |_=>cases h
def Rb {K:Yb} {own:Yj} {fi:FI} {g:TG} {fg:FG} {tc:FT} {te:FE} (hg:Fl own g fg) {τ:Sv} {H:Hp} {Q:List Int->Hp->Prop} (h:trZ K (GU own fi fg tc te) τ H Q):MR own (trI K fi) g (trT K tc) (trD K (toD te)) τ H Q:=by
 obtain ⟨L,Y,M,d,Mf,c,rs,hf,q⟩:=h;unfold GU zj at hf;cases e1:fi Y M with
 |none=>rw[e1]at hf;cases hf
 |some r=>
  obtain ⟨xs,gd,M1⟩:=r;rw[e1]at hf;dsimp only at hf;by_cases hz:xs.length<=sizeLine
  .rw[AD hz]at hf;cases e2:CL fg tc te (Bp own Y) xs gd xs M1 with
   |none=>rw[e2]at hf;cases hf
   |some r=>
    obtain ⟨zs,M2⟩:=r;rw[e2]at hf;dsimp only at hf;split at hf
    .rename_i kz ez;split at hf
     .rename_i hb;cases hf;refine (mkI c rs e1 (λL1 H1 J s1 c1 it=>?_))
      refine ⟨λi m ys H'=>m=xs.length-i/\i<=xs.length /\ ∃ L' M' as bs ka,Stp L1 H1 L' H'/\Cor K L' M' H'/\BC as=some ka/\ys=zb ka/\CL fg tc te (Bp own Y) xs gd (xs.drop i) M'=some (bs,Mf)/\as++bs=zs,
       ⟨xs.length,by simp,Bz _,L1,M1,[],zs,[],.refl _ _,c1,rfl,rfl,by simpa using e2,rfl⟩,?_⟩
      intro i m ys H' hI;refine Classical.byContradiction λG=>?_;obtain ⟨eI1,hi,L',M',as,bs,ka,s',c',r',hl,e',hab⟩:=hI;refine G ?_;clear G;subst eI1;by_cases hlt:i<xs.length
      .rw[KC hlt]at e';unfold CL at e';split at e'
       .rename_i hgd;obtain ⟨step,_⟩:=it L' H' M' s' c' hgd;obtain ⟨go,yl⟩:=step i xs[i] (AJ hlt);split at e'
        .rename_i σ1 eg;refine .inr ⟨go,λv H2 hy=>?_⟩;obtain ⟨gr,rv⟩:=yl v H2 hy;have s2:Stp L1 H1 L' H2:=s'.yld gr;refine hg (Jl own ((rs.stp s1).stp s2)) (.refl _) rv eg λτ2 r2 x2=>⟨x2,?_⟩;split at e'
         .rename_i M3 e3;split at e'
          .rename_i d M4 e4;split at e'
           .rename_i ds M5 e5;cases e';refine (mkT (c'.grow gr) r2 e3 (λL3 H3 s3 c3=>FX ?_));refine (mkD c3 (r2.stp s3) e4 (λL4 H4 w s4 c4 r4=>?_));have st:Stp L' H' L4 H4:=((Stp.grow gr).trans s3).trans s4;have ez':=ez;rw[<-hab]at ez';obtain ⟨x1,y1,g1,g2,g3⟩:=Pz ez';obtain ⟨k,hk⟩:∃ k,d=.int k:=by
             cases d with
             |int k=>exact ⟨k,rfl⟩
             |_=>cases g2
            subst hk;have ew:w=.int k:=by unfold Rep at r4;exact r4
            have hka:ka.length<=kz.length:=by
             rw[r']at g1;cases g1;rw[g3,Ae];omega
            refine ⟨k,ew,?_,xs.length-(i+1),by omega,rfl,hlt,L4,M4,as++[.int k],ds,ka++[k],s'.trans st,c4,Zm r',by rw[hl,K9],e5,by rw[<-hab];simp⟩;rw[hl];have:=Hu ka;omega
           .cases e'
          .cases e'
         .rename_i M3 e3;refine (mkT (c'.grow gr) r2 e3 (λL3 H3 s3 c3=>Ft ?_));have st:Stp L' H' L3 H3:=(Stp.grow gr).trans s3;exact ⟨xs.length-(i+1),by omega,rfl,hlt,L3,M3,as,bs,ka,s'.trans st,c3,r',hl,e',hab⟩
         .cases e'
        .cases e'
       .cases e'
      .have hi':i=xs.length:=by omega
       subst hi';rw[List.drop_length]at e';unfold CL at e';split at e'
       .rename_i hgd;cases e';obtain ⟨_,stop⟩:=it L' H' _ s' c' hgd;rw[CG]at hab;subst hab;rw[r']at ez;cases ez;refine .inl ⟨stop,?_⟩;rw[hl];exact q L' H' (s1.trans s') c'
       .cases e'
     .cases hf
    .cases hf
  .rw[AE hz]at hf;cases hf
section
variable {X:Cx} {scope:Y0} {tg elt iter:Expr} {ifs:Yi} {pos p:Pos} {own:Yj} {e:Expr} {f:FE}
def aA (hg:Fl own g fg) (C:CompIn X scope own) (hcalm:X.calm=true) (hi:QI X tg iter fi) (p:QParts X scope tg ifs elt g tc te) (hs:∀ x,foldedSetIterable iter X.env x=pure x:=by intro _;rfl) :
  QZ X (.SetComp elt [⟨tg,iter,ifs,0⟩] scope pos) (GU own fi fg tc te) :=
 .mk <| PZ.imp (Rp C hcalm hi.un p.parts hs) λ_ _ _ h=>Rb hg h
noncomputable def GG (f:FE):FZ:=λY M=>match f Y M with
 |some (x,M1)=>match Ai M1 x with
  |some ds=>match BC ds with
   |some ks=>if (zb ks).length+1<scanBound then some (zb ks,M1) else none
   |none=>none
  |none=>none
 |none=>none
def aX (hc:X.calm=true) (hg:Gl X "set") (hm:X.mg "set" = none) (h:QE X e f) (hs:starEach [e] X.env=(false,eval e X.env)::starEach [] X.env:=by rfl) (hpl:(backTo pos (starEach [] X.env)).any (·.1)=false:=by rfl) :
  QZ X (.Call (.Name "set" p) [e] [] pos) (GG f):=.mk <| PZ.imp (ZH hc hg hm h.un hs hpl) λτ H Q zz=>by
 obtain ⟨L,Y,M,d,M',c,rs,hf,q⟩:=zz;unfold GG at hf;split at hf
 .rename_i x M1 e1;split at hf
  .rename_i ds e2;split at hf
   .rename_i ks e3;split at hf
    .rename_i hb;cases hf;refine (mkE c rs e1 (λL1 H1 v s1 c1 r1=>?_));obtain ⟨a,vs,rfl,hsq,r⟩:=F1 c1 r1 e2;have:=IZ e3 r;subst this;exact ⟨a,ks,rfl,hsq,hb,q L1 H1 s1 c1⟩
    .cases hf
   .cases hf
  .cases hf
 .cases hf
noncomputable def Gu (f:FZ):FE:=λY M=>match f Y M with
 |some (ks,M1)=>if ks.length<64 then some (.fl ((Ay ks).map D.int),M1) else none
 |none=>none
theorem KN:∀ (ns:Ye),zH L H (ns.map D.int) (ns.map V.int)
 |[]=> .nil
 |n::ns=> .cons CV (KN ns)
def Zi (hc:X.calm=true) (hg:Gl X "sorted") (hm:X.mg "sorted" = none) (h:QZ X e fz) (hs:starEach [e] X.env=(false,eval e X.env)::starEach [] X.env:=by rfl) (hpl:(backTo pos (starEach [] X.env)).any (·.1)=false:=by rfl) :
  QE X (.Call (.Name "sorted" p) [e] [] pos) (Gu fz):=.mk <| PE.imp (VL hc hg hm h.un hs hpl) λτ H Q zz=>by
 obtain ⟨L,Y,M,d,M',c,rs,hf,q⟩:=zz;unfold Gu at hf;split at hf
 .rename_i ks M1 e1;split at hf
  .rename_i hb;cases hf;refine ⟨L,Y,M,_,_,c,rs,e1,λL1 H1 s1 c1=>⟨hb,λp hp=>?_⟩⟩;exact q L1 _ _ (s1.trans (.upd hp)) (c1.upd hp) (zT.newLst s1 c c1 hp (KN _))
  .cases hf
 .cases hf
noncomputable def CS:KB:=λxs M=>match xs with
 |[x]=>match Ai M x with
  |some ds=>match BC ds with
   |some ks=>if ks.length<64 then some (.fl ((Ay ks).map D.int),M) else none
   |none=>none
  |none=>none
 |_=>none
def zT.newLst' {L:Yg} {H:Hp} {K:Yb} {M:List MO} {p:Yt} {ds:List D} {vs:List V} (c:Cor K L M H) (hp:H p=none) (r:zH L H ds vs):zT H L (upd H p (.lst vs)) (.fl ds) (.ref p):=zT.newLst (.refl L H) c c hp r
def Q0:Dd X.K (λxs H Q=>∃ a ns,xs=[.ref a]/\(SqL X.K H a (ns.map V.int)\/SqT X.K H a (ns.map V.int))/\ns.length<64 /\ ∀ q,H q=none->Q (.ref q) (upd H q (.lst ((Ay ns).map V.int)))) CS:=by
 intro L M M' H H0 xs d vs Q c r hk q;unfold CS at hk;split at hk
 .rename_i x;split at hk
  .rename_i ys e1;split at hk
   .rename_i ks e2;split at hk
    .rename_i hb;cases hk;obtain ⟨v,rfl,r1⟩:=r.one;obtain ⟨a,ws,rfl,hs,r2⟩:=F1 c r1 e1;have:=IZ e2 r2;subst this;exact ⟨a,ks,rfl,hs,hb,λp hp=>q L _ _ (.upd hp) (c.upd hp) (zT.newLst' c hp (KN _))⟩
    .cases hk
   .cases hk
  .cases hk
 .cases hk
def XM (hg:Gl X "sorted") (hm:X.mg "sorted" = none) (ha:QAE X [e] fa) (he:starEach [e] X.env=(false,eval e X.env)::starEach [] X.env:=by rfl) (hpl:(backTo pos (starEach [] X.env)).any (·.1)=false:=by rfl):QE X (.Call (.Name "sorted" p) [e] [] pos) (fB CS fa) :=
 Gn Q0 X6 (by rfl) hg hm ha (by decide) (by decide) he hpl
end
open AutoSeq1 (wpAny_loadPart')
def Zc (hh:A.handled=none) (it l:Yt) (hne:l≠it) (items:Yp) :
  Draws prog w A it [it,l] items.size (λi v=>items[i]?=some v) (λi h=>h.IsTupleIter it l i/\h.IsTuple l items) where
 live:=λ_ _ st=>let ⟨o,ho,_⟩:=st.1;⟨o,ho⟩;frame:=λ_ _ _ st hk=>⟨let ⟨o,ho,r⟩:=st.1;⟨o,hk it (by simp) o ho,r⟩,let ⟨o,ho,r⟩:=st.2;⟨o,hk l (by simp) o ho,r⟩⟩;item:=λi s Q E hi st hQ=>by
  refine Ua st.1 st.2 (x:=items[i]) (by simp[hi]) λh' hit' hs'=>?_;exact hQ _ h' s.toks (by simp[hi]) ⟨hit',Tup.but st.2 hs'.extBut hne⟩ hs'
 done:=λs Q E st hE=>MM hh st.1 st.2 (by simp) hE
def TB (l:Yt) (items:Yp) (n:Nat) (dct:Option Addr) (sl:Array (Option Value)) :
  Meets (Builtin.«enumerate.__new__» ⟨[.type "enumerate", .ref l],[]⟩) (λ_ R s=>s.heap.get? l=some { cls:=.type "tuple", dict:=dct,data:=.seq items n,slots:=sl } /\
   R (.ok (.ret (.ref (s.heap.push { cls:=.type "tuple_iterator", data:=.fields #[.ref l,.int 0 0] }).objs.size)))
    { s with heap:=(s.heap.push { cls:=.type "tuple_iterator", data:=.fields #[.ref l,.int 0 0] }).push { cls:=.type "enumerate", data:=.fields #[.none,.bool false,.ref s.heap.objs.size,rawInt 0,.none,.none] } }) :=
 .of_wp λprog w A R s h=>by
  obtain ⟨hp,g,d,tk,os⟩:=s;obtain ⟨hl,h⟩:=h;have hsub:=sub_enumerate;have hL:Heap.IsTuple (Shared.heap ⟨hp,g,d,tk,os⟩) l items:=⟨_,hl,rfl,n,rfl⟩;wp_walk using wpAny_loadPart' hl;refine wpAny_stack_any λst=>AB ?_;split
  .rename_i c _ _ _ _ _;cases (c==Value.type "enumerate")
   .wp_walk using wpAny_loadPart' hl,wpAny_pyIter_tuple hL;exact ⟨_,rfl,h⟩
   .wp_walk using wpAny_loadPart' hl,wpAny_pyIter_tuple hL;exact ⟨_,rfl,h⟩
  .wp_walk using wpAny_loadPart' hl,wpAny_pyIter_tuple hL;exact ⟨_,rfl,h⟩
def Wb (hL:s.heap.IsTuple l items)
  (h:∀ h',IsEnum h' (s.heap.objs.size+1) s.heap.objs.size 0 .none->h'.IsTupleIter s.heap.objs.size l 0->(∀ c o,s.heap.get? c=some o->h'.get? c=some o)->Q (.ref (s.heap.objs.size+1)) { s with heap:=h' }) :
  wpAny (model prog w) A (call (.type "enumerate") [.ref l]) Q E s:=by
 obtain ⟨o,ho,hc,n,hd⟩:=hL;obtain ⟨ocls,odict,odata,oslots⟩:=o;simp only at hc hd;subst hc;subst hd;refine callType_new PySem.F.called_enumerate (by decide) (PySem.F.typeCall_enumerate_1 _) (PySem.F.newCall_enumerate_1 _) (λobj=>PySem.F.args_object_init_2 obj _) PySem.F.entry_enumerate_new (TB l items n odict oslots) ⟨ho,?_⟩;have q1:(s.heap.push { cls:=.type "tuple_iterator", data:=.fields #[.ref l,.int 0 0] }).objs.size=s.heap.objs.size+1:=CK ..;have p2:((s.heap.push { cls:=.type "tuple_iterator", data:=.fields #[.ref l,.int 0 0] }).push { cls:=.type "enumerate", data:=.fields #[.none,.bool false,.ref s.heap.objs.size,rawInt 0,.none,.none] }).get? (s.heap.push { cls:=.type "tuple_iterator", data:=.fields #[.ref l,.int 0 0] }).objs.size=some _:=AN _ rfl;rw[q1]at p2;rw[q1];exact ⟨⟨_,p2,rfl⟩,h _ p2 ⟨_,AH _ (AN _ rfl),rfl,rfl⟩ λc o x=>AH _ (AH _ x)⟩
def NN (he:IsEnum s.heap e it i old)
  (hn:∀ (Q':Value->Shared->Prop) (E':Value->Shared->Prop),(∀ h' x,Heap.ExtBut it s.heap h'->(∃ o,h'.get? x=some o/\o.cls=.type "StopIteration")->E' (.ref x) { s with heap:=h' })->wpAny (model prog w) A.in1 (Builtin.SmallTypes.nextOf (.ref it)) Q' E' s)
  (hQ:∀ h',Heap.ExtBut it s.heap h'->Q none { s with heap:=h' }):wpAny (model prog w) A (pyNext (.ref e)) Q E s:=by
 have hT:s.TypeIs (.ref e) "enumerate" := ⟨_,he,rfl⟩;unfold pyNext
 refine AA (ED (CY hT PySem.F.slot_enumerate_next
  (BY PySem.F.slot_enumerate_next hT PySem.F.entry_enumerate_next ?_ (PySem.F.args_enumerate_next_1 _))))
 show wpAny _ _ (field (.ref e) 2 >>= _) _ _ _;refine AA (Cm he rfl rfl ?_);refine AA (hn _ _ λh' x he' hx'=>?_);obtain ⟨o,ho,hc⟩:=hx';refine AA (wpAny_isInstance ⟨o,ho,hc⟩ isSubtype_stop ?_);exact AB (hQ _ he')
noncomputable def FL (K:Yb) (isT:Bool) (a:Yt):It :=
 ⟨λi H=>∃ xs x,(if isT then SqT K H a xs else SqL K H a xs)/\xs[i]?=some x,
  λi H v H'=>∃ T x,v=.ref T/\H T=none/\H'=upd H T (.tup [.int i,x]) /\ ∀ xs,(if isT then SqT K H a xs else SqL K H a xs)->xs[i]?=some x,
  λi H=>∃ xs,(if isT then SqT K H a xs else SqL K H a xs)/\xs.length<=i⟩
def JI (isT:Bool) (it a:Yt) (i:Nat) (h:Heap):Prop:=if isT then h.IsTupleIter it a i else h.IsListIter it a i
def aO {P:Ym} {w:Yo} {K:Yb} {es:Yi} {ek:Nat} {ep:Pos} {isT:Bool} {e it a:Yt} (hei:e≠it) (hae:a≠e) (hai:a≠it) :
  Turn P w K (.Tuple es ek ep) (FL K isT a) [e,it] e (λi h=>(∃ old,IsEnum h e it i old)/\JI isT it a i h) where
 mem:=by simp
 obj:=λi h ⟨⟨old,he⟩,st⟩ c hc=>by
  simp only[AL,Cv,or_false]at hc;rcases hc with rfl|rfl
  .exact ⟨_,he,λv m=>by cases m⟩
  .cases isT with
   |true=>obtain ⟨o1,e1,_,d1⟩:=(show h.IsTupleIter c a i from st);exact ⟨_,e1,λv m=>by rw[d1]at m;cases m⟩
   |false=>obtain ⟨o1,e1,_,d1⟩:=(show h.IsListIter c a i from st);exact ⟨_,e1,λv m=>by rw[d1]at m;cases m⟩
 keep:=λi h h' ⟨⟨old,he⟩,st⟩ k=>by
  refine ⟨⟨old,k e (by simp) _ he⟩,?_⟩;cases isT with
  |true=>obtain ⟨o1,e1,r⟩:=(show h.IsTupleIter it a i from st);exact ⟨o1,k it (by simp) _ e1,r⟩
  |false=>obtain ⟨o1,e1,r⟩:=(show h.IsListIter it a i from st);exact ⟨o1,k it (by simp) _ e1,r⟩
 item:=by
  intro X hP hw hK hc i zB s Y H E I hf Z hg;subst hP hw hK;obtain ⟨⟨old,he⟩,st⟩:=Z;obtain ⟨xs,x,sa,hx⟩:=hg;have hch:∀ c∈[e,it],B0 X zB H c:=hf;have elt:e<s.heap.objs.size:=AI he
  have fin:∀ (its:List Value) (u:Value) (h':Heap) (tk:Nat),zX xs its->its[i]?=some u->IsEnumOut h' e it ((i:Int)+1) u s.heap.objs.size->JI isT it a (i+1) h'->h'.get? s.heap.objs.size=some { cls:=.type "tuple", data:=.seq #[.int i tk,u] } ->
    (∀ b o,b≠e->b≠it->s.heap.get? b=some o->h'.get? b=some o)->it<s.heap.objs.size ->
    ∃ u',some (Value.ref s.heap.objs.size)=some u'/\wpAny (model X.prog X.w) X.A (letOwnedTupleGo (.Tuple es ek ep) (.ref e) u') (λ_ s2=>∃ x H',Inv X zB Y H' s2/\zc x u'/\(FL X.K isT a).yld i H x H'/\((∃ old,IsEnum s2.heap e it ((i+1:Nat):Int) old)/\JI isT it a (i+1) s2.heap) /\ ∀ b∈[e,it],H' b=none) E { s with heap:=h',toks:=tk+1 }:=by
   intro its u h' tk rv hu ho st' hT hk ilt;refine ⟨_,rfl,wpAny_letOwnedTupleGo_enum ho λh2 he2 e2=>?_⟩;have kk:∀ c o,c∉[e,it]->s.heap.get? c=some o->h2.get? c=some o:=λc o n q=>by
    simp only[AL,Cv,or_false,not_or]at n;exact e2.extBut _ _ n.1 (hk c o n.1 n.2 q)
   have NT:=e2.extBut _ _ (Dc elt) hT;have hfr:H s.heap.objs.size=none:=I.hok.fresh (AF _);obtain ⟨u2,hu2,ru⟩:=rv.get hx;rw[hu]at hu2;cases hu2;refine ⟨.ref s.heap.objs.size,upd H s.heap.objs.size (.tup [.int i,x]),OR (s:=s) I hch kk (AF _) ?_,rfl,⟨_,x,rfl,hfr,rfl,λws hw=>?_⟩,⟨⟨u,by simpa using he2⟩,?_⟩,λc hm=>?_⟩
   .exact ⟨by show 2<=sizeLine;decide,[.int i tk,u],.cons ⟨tk,rfl⟩ (.cons ru .nil),⟨_,NT,rfl,⟨_,rfl⟩,rfl⟩⟩
   .cases isT with
    |true=>rw[I.tuple_inj hw sa];exact hx
    |false=>rw[I.list_inj hw sa];exact hx
   .cases isT with
    |true=>obtain ⟨o1,e1,r⟩:=(show h'.IsTupleIter it a (i+1)from st');exact ⟨o1,e2.extBut _ _ hei.symm e1,r⟩
    |false=>obtain ⟨o1,e1,r⟩:=(show h'.IsListIter it a (i+1)from st');exact ⟨o1,e2.extBut _ _ hei.symm e1,r⟩
   .have lt:c<s.heap.objs.size:=by
     simp only[AL,Cv,or_false]at hm;rcases hm with rfl|rfl
     .exact elt
     .exact ilt
    rw[zP (AX lt)];exact (hf c hm).1
  have hef:e∉[it,a]:=by simp only[AL,Cv,or_false,not_or];exact ⟨hei,hae.symm⟩
  cases isT with
  |true=>
   obtain ⟨its,rv,p1,z1⟩:=I.tuple sa;have st':s.heap.IsTupleIter it a i:=st;obtain ⟨o1,e1,_⟩:=id st';refine wpAny_pyNext_enum_itemD (Zc (prog:=X.prog) (w:=X.w) (A:=X.A.in1) (I.ok.hd hc) it a hai its.toArray) he ⟨st',show s.heap.IsTuple a its.toArray from p1⟩ (by have:=rv.length;have:=(AK.mp hx).1;rw[AZ];omega) hei hef λu h' tk hu ho hs hT _ hk=>?_;exact fin its u h' tk rv (by simpa using hu) ho hs.1 hT hk (AI e1)
  |false=>
   obtain ⟨its,rv,p1,z1⟩:=I.list sa;have st':s.heap.IsListIter it a i:=st;obtain ⟨o1,e1,_⟩:=id st';refine wpAny_pyNext_enum_itemD (Draws.list (prog:=X.prog) (w:=X.w) (A:=X.A.in1) (I.ok.hd hc) it a hai its.toArray) he ⟨st',p1.isList⟩ (by have:=rv.length;have:=(AK.mp hx).1;rw[AZ];omega) hei hef λu h' tk hu ho hs hT _ hk=>?_;exact fin its u h' tk rv (by simpa using hu) ho hs.1 hT hk (AI e1)
 done:=by
  intro X hP hw hK hc i zB s Y H E I hf Z hg;subst hP hw hK;obtain ⟨⟨old,he⟩,st⟩:=Z;obtain ⟨xs,sa,hz⟩:=hg;have out:∀ h',Heap.ExtBut it s.heap h'->(none:Option Value)=none/\Inv X zB Y H { s with heap:=h' }:=λh' x=>⟨rfl,Me I hf λc o n q=>x c o (λm=>n (by simp[m])) q⟩;cases isT with
  |true=>
   obtain ⟨its,rv,p1,z1⟩:=I.tuple sa;refine NN he (λQ' E' hq=>MM (I.ok.hd hc) (show s.heap.IsTupleIter it a i from st) (show s.heap.IsTuple a its.toArray from p1) (by have:=rv.length;simp;omega) hq) out
  |false=>
   obtain ⟨its,rv,p1,z1⟩:=I.list sa;refine NN he (λQ' E' hq=>wpAny_nextOf_list_end (I.ok.hd hc) (show s.heap.IsListIter it a i from st) p1.isList (by have:=rv.length;simp;omega) hq) out
 self:=λ_ _ _ _ _ Z h=>let ⟨⟨_,he⟩,_⟩:=Z;wpAny_pyIter_enum he h
def eZ {te:TE} (hg:Gl X "enumerate") (hm:X.mg "enumerate" = none) (ha:PE X a te) (hs:starEach [a] X.env=(false,eval a X.env)::starEach [] X.env:=by rfl) (hpl:(backTo pos (starEach [] X.env)).any (·.1)=false:=by rfl) :
  PI X (.Tuple es ek ep) (.Call (.Name "enumerate" p) [a] [] pos) (λY H R=>te Y H λx H1=>∃ l,x=.ref l/\((∃ xs,SqT X.K H1 l xs)/\R (FL X.K true l) H1\/(∃ xs,SqL X.K H1 l xs)/\R (FL X.K false l) H1)):=by
 intro zB s Y H R I h;refine Eu (Fb I hg hm (by rfl) ?_ (by decide) (by decide));refine callWith_type1 ?_ hs hpl;rw[hs];refine Calls.spliced_cons (thn (ha zB s Y H _ I h) λu s1 ⟨x,H1,I1,r1,l,hx,q⟩=>Calls.spliced_nil ?_);subst hx;cases r1
 have out:∀ (isT:Bool) (h':Heap),l<s1.heap.objs.size->IsEnum h' (s1.heap.objs.size+1) s1.heap.objs.size 0 .none->JI isT s1.heap.objs.size l 0 h'->(∀ c o,s1.heap.get? c=some o->h'.get? c=some o)->R (FL X.K isT l) H1 ->
   wpAny (model X.prog X.w) X.A (pyIter (.ref (s1.heap.objs.size+1))) (PIE X zB Y (.Tuple es ek ep) R) X.xe { s1 with heap:=h' }:=by
  intro isT h' hl he st kp q;refine wpAny_pyIter_enum he ?_;refine ⟨s1.heap.objs.size+1,[s1.heap.objs.size+1,s1.heap.objs.size],_,_,H1,rfl,I1.kept kp,aO (Dc (Dx _)) (AX (DG hl)) (AX hl),⟨⟨_,he⟩,st⟩,λc hc=>?_,q⟩;have ge:s1.heap.objs.size<=c:=by
   simp only[AL,Cv,or_false]at hc;rcases hc with rfl|rfl
   .exact DF _
   .exact AF _
  exact I1.fpOk ge (I1.hok.fresh ge)
 rcases q with ⟨⟨xs,hq⟩,q⟩|⟨⟨xs,hq⟩,q⟩
 .obtain ⟨its,rv,p1,_⟩:=I1.tuple hq;have hl:l<s1.heap.objs.size:=by obtain ⟨_,e,_⟩:=p1;exact AI e
  exact Wb (show s1.heap.IsTuple l its.toArray from p1) λh' he st kp=>out true h' hl he st kp q
 .obtain ⟨its,rv,p1,_⟩:=I1.list hq;have hl:l<s1.heap.objs.size:=by obtain ⟨_,_,e,_⟩:=p1;exact AI e
  exact call_enumerate_list p1.isList λh' he st _ kp=>out false h' hl he st kp q
noncomputable def EK (xs:List D):List D:=((List.range xs.length).zip xs).map λq=>D.tup [.int (q.1:Nat),q.2]
def Ul {xs:List D} {i:Nat} {d:D} (h:(EK xs)[i]?=some d):∃ x,xs[i]?=some x/\d=.tup [.int (i:Nat),x]:=by
 unfold EK at h;rw[AR]at h;cases e:((List.range xs.length).zip xs)[i]? with
 |none=>rw[e]at h;cases h
 |some pr=>
  rw[e]at h;cases h;obtain ⟨f1,f2⟩:=List.getElem?_zip_eq_some.mp e;have hi:i<xs.length:=(AK.mp f2).1;rw[List.getElem?_range hi]at f1;cases f1;exact ⟨pr.2,f2,rfl⟩
def YG (xs:List D):(EK xs).length=xs.length:=by unfold EK;simp
noncomputable def Fs (f:FE):FI:=λY M=>match f Y M with
 |some (x,M1)=>match Ai M1 x with
  |some xs=>some (EK xs,HM x xs,M1)
  |none=>none
 |none=>none
def bY {g:FE} (hg:Gl X "enumerate") (hm:X.mg "enumerate" = none) (h:QE X a g) (hs:starEach [a] X.env=(false,eval a X.env)::starEach [] X.env:=by rfl) (hpl:(backTo pos (starEach [] X.env)).any (·.1)=false:=by rfl) :
  QI X (.Tuple es ek ep) (.Call (.Name "enumerate" p) [a] [] pos) (Fs g):=.mk <| PI.imp (eZ hg hm h.un hs hpl) λτ H R zz=>by
 obtain ⟨L,Y,M,xs,gd,M',c,rs,hf,q⟩:=zz;unfold Fs at hf;split at hf
 .rename_i y M1 e1;split at hf
  .rename_i zs e2;cases hf;refine ⟨L,Y,M,_,_,c,rs,e1,λL1 H1 v s1 c1 r1=>?_⟩
   have step:∀ (isT:Bool) (l:Yt) (L2:Yg) (H2:Hp) (vs:List V),(if isT then SqT X.K H2 l vs else SqL X.K H2 l vs)->zH L2 H2 zs vs ->
     (∀ (i:Nat) d,(EK zs)[i]?=some d->(FL X.K isT l).go i H2 /\ ∀ v H'',(FL X.K isT l).yld i H2 v H''->(∀ a o,H2 a=some o->H'' a=some o)/\Rep L2 H'' d v)/\(FL X.K isT l).stop (EK zs).length H2:=by
    intro isT l L2 H2 vs hq r;refine ⟨λi d hd=>?_,⟨vs,hq,by rw[YG,r.length];exact AF _⟩⟩;obtain ⟨x,hx,rfl⟩:=Ul hd;obtain ⟨u,hu,ru⟩:=r.get hx;refine ⟨⟨vs,u,hq,hu⟩,λv H3 hy=>?_⟩;obtain ⟨T,x',rfl,hT,rfl,hxx⟩:=hy;have ex:=hxx vs hq;rw[hu]at ex;cases ex;exact ⟨λa o e=>by rw[zP (zi e hT)];exact e,Rep.newTup hT (.cons CV (.cons ru .nil))⟩
   unfold Ai at e2;cases t:B7 y with
   |some ws=>
    rw[t]at e2;cases e2;obtain ⟨a,vs,rfl,e3,r3⟩:=En r1 t;refine ⟨a,rfl,.inl ⟨⟨vs,.of e3⟩,q L1 H1 _ s1 c1 λL2 H2 M2 s2 c2 _=>?_⟩⟩;exact step true a L2 H2 vs (.of (s2.tup a vs e3)) (r3.stp s2)
   |none=>
    rw[t]at e2;obtain ⟨a,vs,rfl,e3,r3⟩:=Eb c1 r1 e2;refine ⟨a,rfl,.inr ⟨⟨vs,.inl e3⟩,q L1 H1 _ s1 c1 λL2 H2 M2 s2 c2 hgd=>?_⟩⟩;have key:∃ vs',SqL X.K H2 a vs'/\zH L2 H2 zs vs':=by
     cases y with
     |fl ys=>
      cases e2;obtain ⟨p',vs',hp',_,e5,e6,r6⟩:=r1;cases hp';exact ⟨vs',.of (s2.old _ _ e5 e6 (by intro _ z;cases z)),r6.stp s2⟩
     |dat d=>
      cases d with
      |ref n=>
       unfold zT Rep at r1;obtain ⟨a',ha',e5⟩:=r1;cases ha';have e6:L2[n]?=some a:=by obtain ⟨N,hN⟩:=s2.pre;rw[hN];exact F8 e5
       rcases hgd with z|z
       .obtain ⟨vs',e7,r7⟩:=c2.obj n a _ e6 z;exact ⟨vs',.of e7,r7⟩
       .obtain ⟨o,vs',e7,r7⟩:=c2.obj n a _ e6 z;exact ⟨vs',.inl (.inr ⟨o,e7⟩),r7⟩
      |_=>cases e2
    obtain ⟨vs',hq,r7⟩:=key;exact step false a L2 H2 vs' hq r7
  .cases hf
 .cases hf
section
variable {κ:Type} [DecidableEq κ]
noncomputable def DA (kf:D->Option κ) (kvs:List (D × D)) (k:κ):Option D:=(kvs.find? λp=>decide (kf p.1=some k)).map (·.2)
noncomputable def E9 (kf:D->Option κ) (kvs:List (D × D)) (k:κ) (kd v:D):List (D × D) :=
 if (kvs.any λp=>decide (kf p.1=some k))=true then kvs.map λp=>if kf p.1=some k then (p.1,v) else p else kvs++[(kd,v)]
theorem HL (k:κ):∀ {kvs:List (D × D)} {vs:List (κ × V)},AM kf L H kvs vs->(DA kf kvs k=none/\Bt vs k=none) \/ ∃ d v,DA kf kvs k=some d/\Bt vs k=some v/\Rep L H d v
 |[],vs,h=>by unfold AM at h;subst h;exact .inl ⟨rfl,rfl⟩
 |p::r,vs,h=>by
  obtain ⟨k',v,r',rfl,e,h1,h2⟩:=h;by_cases q:k'=k
  .subst q;exact .inr ⟨p.2,v,by unfold DA;rw[Ef,e];simp,by rw[IH rfl],h1⟩
  .have e1:DA kf (p::r) k=DA kf r k:=by unfold DA;rw[Ef,e];simp[q]
   rw[e1,Iy q];exact HL k h2
theorem QV (k:κ):∀ {kvs:List (D × D)} {vs:List (κ × V)},AM kf L H kvs vs->(kvs.any λp=>decide (kf p.1=some k))=(vs.any λkv=>decide (kv.1=k))
 |[],vs,h=>by unfold AM at h;subst h;rfl
 |p::r,vs,h=>by
  obtain ⟨k',v,r',rfl,e,h1,h2⟩:=h;rw[List.any_cons,List.any_cons,QV k h2,e];simp
theorem J9 (k:κ) (hd:Rep L H d u):∀ {kvs:List (D × D)} {vs:List (κ × V)},AM kf L H kvs vs->AM kf L H (kvs.map λp=>if kf p.1=some k then (p.1,d) else p) (vs.map λkv=>if kv.1=k then (kv.1,u) else kv)
 |[],vs,h=>by unfold AM at h;subst h;rfl
 |p::r,vs,h=>by
  obtain ⟨k',v,r',rfl,e,h1,h2⟩:=h;rw[Ad,Ad];by_cases q:k'=k
  .subst q;rw[AD e,AD rfl];exact ⟨k',u,_,rfl,e,hd,J9 k' hd h2⟩
  .rw[AE (by rw[e];simpa using q),AE q];exact ⟨k',v,_,rfl,e,h1,J9 k hd h2⟩
theorem Mc (hk:kf kd=some k) (hd:Rep L H d u):∀ {kvs:List (D × D)} {vs:List (κ × V)},AM kf L H kvs vs->AM kf L H (kvs++[(kd,d)]) (vs++[(k,u)])
 |[],vs,h=>by unfold AM at h;subst h;exact ⟨k,u,[],rfl,hk,hd,rfl⟩
 |p::r,vs,h=>by
  obtain ⟨k',v,r',rfl,e,h1,h2⟩:=h;exact ⟨k',v,_,rfl,e,h1,Mc hk hd h2⟩
def NJ {kf:D->Option κ} {L:Yg} {H:Hp} {k:κ} {kd d:D} {u:V} (hk:kf kd=some k) (hd:Rep L H d u) {kvs:List (D × D)} {vs:List (κ × V)} (h:AM kf L H kvs vs):AM kf L H (E9 kf kvs k kd d) (BH vs k u):=by
 unfold E9 BH;rw[QV k h];split
 .exact J9 k hd h
 .exact Mc hk hd h
end
theorem Om:∀ {ds:List D} {vs:List V} {ks:List Key},zH L H ds vs->C0 ds=some ks->vs=ks.map kV
 |[],vs,ks,h,e=>by cases e;unfold zH at h;exact h
 |d::ds,vs,ks,h,e=>by
  unfold zH at h;obtain ⟨v,r,rfl,h1,h2⟩:=h;unfold C0 at e;cases e1:Bl d with
  |none=>rw[e1]at e;cases e
  |some k=>
   cases e2:C0 ds with
   |none=>rw[e1,e2]at e;cases e
   |some ks'=>
    rw[e1,e2]at e;cases e;rw[Ip h1 e1,Om h2 e2];rfl
def JZ (h:Rep L H d v) (e:tkD d=some ks):∃ b,v=.ref b/\H b=some (.tup (ks.map kV)):=by
 cases d with
 |tup ds=>
  unfold Rep at h;obtain ⟨a,vs,rfl,e1,r⟩:=h;exact ⟨a,rfl,by rw[e1,Om r e]⟩
 |_=>cases e
noncomputable def ER (M:Mem) (x:EV) (k:D):Option (Option D):=match x with
 |.dat (.ref n)=>match M[n]? with
  |some (.dict kvs)=>match Bl k with
   |some kk=>some (DA Bl kvs kk)
   |none=>none
  |some (.dicT kvs)=>match tkD k with
   |some kk=>some (DA tkD kvs kk)
   |none=>none
  |some (.froK kvs)=>match Bl k with
   |some kk=>some (DA Bl kvs kk)
   |none=>none
  |some (.froT kvs)=>match tkD k with
   |some kk=>some (DA tkD kvs kk)
   |none=>none
  |_=>none
 |_=>none
def Ni (L:Yg) (H:Hp):Option D->Option V->Prop
 |none,o=>o=none
 |some d,o=>∃ v,o=some v/\Rep L H d v
def Jr {K:Yb} {L:Yg} {M:Mem} {H H0:Hp} {x:EV} {v w:V} {k:D} {o:Option D} (c:Cor K L M H) (rx:zT H0 L H x v) (rk:Rep L H k w) (e:ER M x k=some o):∃ a ov,v=.ref a/\B8 H a w ov/\Ni L H o ov:=by
 cases x with
 |fl xs=>cases e
 |dat d=>
  cases d with
  |ref n=>
   unfold zT Rep at rx;obtain ⟨a,rfl,ea⟩:=rx;unfold ER at e;dsimp only at e;cases q:M[n]? with
   |none=>rw[q]at e;cases e
   |some m=>
    rw[q]at e;have z:=c.obj n a m ea q;cases m with
    |dict kvs=>
     dsimp only at e;cases e2:Bl k with
     |none=>rw[e2]at e;cases e
     |some kk=>
      rw[e2]at e;cases e;obtain ⟨vs,e3,r⟩:=z;refine ⟨a,Bt vs kk,rfl,?_,?_⟩
      .rw[Ip rk e2];exact B8.k e3
      .rcases HL kk r with ⟨h1,h2⟩|⟨d,v,h1,h2,h3⟩
       .rw[h1,h2];rfl
       .rw[h1,h2];exact ⟨v,rfl,h3⟩
    |dicT kvs=>
     dsimp only at e;cases e2:tkD k with
     |none=>rw[e2]at e;cases e
     |some kk=>
      rw[e2]at e;cases e;obtain ⟨vs,e3,r⟩:=z;obtain ⟨b,rfl,eb⟩:=JZ rk e2;refine ⟨a,Bt vs kk,rfl,B8.t e3 eb,?_⟩;rcases HL kk r with ⟨h1,h2⟩|⟨d,v,h1,h2,h3⟩
      .rw[h1,h2];rfl
      .rw[h1,h2];exact ⟨v,rfl,h3⟩
    |froK kvs=>
     dsimp only at e;cases e2:Bl k with
     |none=>rw[e2]at e;cases e
     |some kk=>
      rw[e2]at e;cases e;obtain ⟨ob,vs,e3,r⟩:=z;refine ⟨a,Bt vs kk,rfl,.inl ⟨vs,kk,.inr ⟨ob,e3⟩,Ip rk e2,rfl⟩,?_⟩;rcases HL kk r with ⟨h1,h2⟩|⟨d,v,h1,h2,h3⟩
      .rw[h1,h2];rfl
      .rw[h1,h2];exact ⟨v,rfl,h3⟩
    |froT kvs=>
     dsimp only at e;cases e2:tkD k with
     |none=>rw[e2]at e;cases e
     |some kk=>
      rw[e2]at e;cases e;obtain ⟨ob,vs,e3,r⟩:=z;obtain ⟨b,rfl,eb⟩:=JZ rk e2;refine ⟨a,Bt vs kk,rfl,.inr ⟨vs,kk,b,.inr ⟨ob,e3⟩,rfl,eb,rfl⟩,?_⟩;rcases HL kk r with ⟨h1,h2⟩|⟨d,v,h1,h2,h3⟩
      .rw[h1,h2];rfl
      .rw[h1,h2];exact ⟨v,rfl,h3⟩
    |_=>cases e
  |_=>cases e
noncomputable def DT (M:Mem) (n:Nat) (k v:D):Option Mem:=match M[n]? with
 |some (.dict kvs)=>match Bl k with
  |some kk=>if kvs.length<sizeLine then some (M.set n (.dict (E9 Bl kvs kk k v))) else none
  |none=>none
 |some (.dicT kvs)=>match tkD k with
  |some kk=>if kvs.length<sizeLine then some (M.set n (.dicT (E9 tkD kvs kk k v))) else none
  |none=>none
 |_=>none
def P4 {K:Yb} {L:Yg} {M M':Mem} {H:Hp} {n:Nat} {a:Yt} {k v:D} {w u:V} (c:Cor K L M H) (ea:L[n]?=some a) (rk:Rep L H k w) (rv:Rep L H v u) (e:DT M n k v=some M'):∃ H',DE H a w u H'/\Cor K L M' H'/\Stp L H L H':=by
 unfold DT at e;cases q:M[n]? with
 |none=>rw[q]at e;cases e
 |some m=>
  rw[q]at e;have z:=c.obj n a m ea q;cases m with
  |dict kvs=>
   dsimp only at e;cases e2:Bl k with
   |none=>rw[e2]at e;cases e
   |some kk=>
    rw[e2]at e;dsimp only at e;split at e
    .rename_i hl;cases e;obtain ⟨vs,e3,r⟩:=z;obtain ⟨c3,s3⟩:=c.put (m:=.dict (E9 Bl kvs kk k v)) (o':=.dK (BH vs kk u)) ea e3 (λ_ z=>by cases z) (λ_ _ z=>by cases z) λs3=>⟨_,zq,(NJ e2 rv r).stp s3⟩;refine ⟨_,?_,c3,s3⟩;rw[Ip rk e2];exact DE.k e3 (by rw[r.length];exact hl)
    .cases e
  |dicT kvs=>
   dsimp only at e;cases e2:tkD k with
   |none=>rw[e2]at e;cases e
   |some kk=>
    rw[e2]at e;dsimp only at e;split at e
    .rename_i hl;cases e;obtain ⟨vs,e3,r⟩:=z;obtain ⟨b,rfl,eb⟩:=JZ rk e2;obtain ⟨c3,s3⟩:=c.put (m:=.dicT (E9 tkD kvs kk k v)) (o':=.dT (BH vs kk u)) ea e3 (λ_ z=>by cases z) (λ_ _ z=>by cases z) λs3=>⟨_,zq,(NJ e2 rv r).stp s3⟩;exact ⟨_,DE.t e3 eb (by rw[r.length];exact hl),c3,s3⟩
    .cases e
  |_=>cases e
section
variable {X:Cx} {a b e o i value:Expr} {pos pos' apos cpos:Pos} {f g h:FE}
noncomputable def BL:K2:=λx y M=>match y with
 |.dat k=>match ER M x k with
  |some (some d)=>some (.dat d,M)
  |_=>none
 |_=>none
def Wg {K:Yb}:BE K (λx y H Q=>∃ a v,x=.ref a/\B8 H a y (some v)/\Q v H) BL:=by
 intro L M M' H H0 x y d v w Q c rx ry hk q;unfold BL at hk;split at hk
 .rename_i k;split at hk
  .rename_i d' e1;cases hk;obtain ⟨a,ov,rfl,h1,h2⟩:=Jr c rx ry e1;obtain ⟨u,rfl,r⟩:=h2;exact ⟨a,u,rfl,h1,q L H u (.refl L H) c r⟩
  .cases hk
 .cases hk
def UX (hu:X.A.units+1<cLine) (h1:QE X o f) (h2:QE X i g) (hs:Jf i:=by intro _ _;rfl):QE X (.Subscript o i pos) (fOp BL f g):=.mk <| PE.imp (Zz hu h1.un h2.un hs) λ_ _ _ h=>GI Wg h
noncomputable def Fn (neg:Bool):K2:=λx y M=>match x with
  |.dat k=>match ER M y k with
    |some o=>some (.dat (.bl (if neg then !o.isSome else o.isSome)),M)
    |none=>none
  |_=>none
def YS {o:Option D} {ov:Option V} (h:Ni L H o ov):ov.isSome=o.isSome:=by
  cases o with
  | none => have h' : ov = none := h
            rw[h'];rfl
  |some d=>obtain ⟨v,rfl,_⟩:=h;rfl
def YV {K:Yb}:BE K (λy x H Q=>∃ a o,x=.ref a/\B8 H a y o/\Q (.bl (!o.isSome)) H) (Fn true):=by
 intro L M M' H H0 x y d v w Q c rx ry hk q;unfold Fn at hk;split at hk
 .rename_i k;split at hk
  .rename_i o e1;cases hk;obtain ⟨a,ov,rfl,h1,h2⟩:=Jr c ry rx e1;refine ⟨a,ov,rfl,h1,?_⟩;rw[YS h2];exact q L H _ (.refl L H) c (CI (L:=L) (H:=H))
  .cases hk
 .cases hk
def Ug (hu:X.A.units+1<cLine) (h1:QE X a f) (h2:QE X b g) (hm:behindInMarks .NotIn b=false:=by rfl):QT X (.Compare a [.NotIn] [b] pos) (tst (fOp (Fn true) f g)):=.mk <| PT.imp (Wr (Xv hu h1.un h2.un) hm) λ_ _ _ h=>OB (λ_ _ _ z=>GI YV z) (Lh h)
noncomputable def CN (fv fo fi:FE):FS:=λY M=>match toD fv Y M with
 |some (v,M1)=>match toD fo Y M1 with
  |some (.ref n,M2)=>match toD fi Y M2 with
   |some (k,M3)=>match DT M3 n k v with
    |some M4=>some (.nx,Y,M4)
    |none=>none
   |none=>none
  |_=>none
 |none=>none
def eO (hu:X.A.units+1<cLine) (hv:QE X value f) (ho:QE X o g) (hi:QE X i h) (hs:swapsWith value (some (.Subscript o i pos')) pos.line X.env=pure false:=by rfl):QS X (.Assign [.Subscript o i pos'] value pos) (CN f g h) :=
 .mk <| PS.imp (Sk hu (BB ho).un (BB hi).un (BB hv).un hs) λE τ H zz=>by
  obtain ⟨L,Y,M,out,Y',M',c,rs,hf,q⟩:=zz;unfold CN at hf;split at hf
  .rename_i v M1 e1;split at hf
   .rename_i n M2 e2;split at hf
    .rename_i k M3 e3;split at hf
     .rename_i M4 e4;cases hf;refine (mkD c rs e1 (λL1 H1 u s1 c1 r1=>(mkD c1 (rs.stp s1) e2 (λL2 H2 y s2 c2 r2=>(mkD c2 ((rs.stp s1).stp s2) e3 (λL3 H3 z s3 c3 r3=>?_))))));unfold Rep at r2;obtain ⟨a,rfl,ea⟩:=r2;have ea3:L3[n]?=some a:=by obtain ⟨N,hN⟩:=s3.pre;rw[hN];exact F8 ea
      obtain ⟨H4,h1,h2,h3⟩:=P4 c3 ea3 r3 ((r1.stp s2).stp s3) e4;exact ⟨a,H4,rfl,h1,q L3 H4 (((s1.trans s2).trans s3).trans h3) h2 τ ((((rs.stp s1).stp s2).stp s3).stp h3)⟩
     .cases hf
    .cases hf
   .cases hf
  .cases hf
noncomputable def EU (fo fi fx:FE):FE:=λY M=>match toD fo Y M with
 |some (.ref n,M1)=>match M1[n]? with
  |some (.dict _)|some (.dicT _)=>match toD fi Y M1 with
   |some (k,M2)=>match toD fx Y M2 with
    |some (x,M3)=>match ER M3 (.dat (.ref n)) k with
     |some o=>some (.dat (o.getD x),M3)
     |none=>none
    |none=>none
   |none=>none
  |_=>none
 |_=>none
def WH (hu:X.A.units+1<cLine) (ho:QE X o f) (hi:QE X i g) (hx:QE X e h) (m:M2 X o "get" apos i e cpos):QE X (.Call (.Attribute o "get" apos) [i,e] [] cpos) (EU f g h) :=
 .mk <| PE.imp (aP hu (BB ho).un (BB hi).un (BB hx).un m) λτ H Q zz=>by
  obtain ⟨L,Y,M,d,M',c,rs,hf,q⟩:=zz
  have key:∀ n M1,toD f Y M=some (.ref n,M1)->(∃ kvs,M1[n]?=some (.dict kvs)\/M1[n]?=some (.dicT kvs))->(match toD g Y M1 with
   |some (k,M2)=>match toD h Y M2 with
    |some (x,M3)=>match ER M3 (.dat (.ref n)) k with
     |some o=>some (EV.dat (o.getD x),M3)
     |none=>none
    |none=>none
   |none=>none)=some (d,M')->Mn (trD X.K (toD f)) (trD X.K (toD g)) (trD X.K (toD h)) τ H Q:=by
   intro n M1 e1 hd hf;split at hf
   .rename_i k M2 e2;split at hf
    .rename_i x M3 e3;split at hf
     .rename_i ov e4;cases hf;refine (mkD c rs e1 (λL1 H1 u s1 c1 r1=>?_));unfold Rep at r1;obtain ⟨a,rfl,ea⟩:=r1;refine ⟨a,rfl,?_,L1,Y,M1,_,_,c1,rs.stp s1,e2,λL2 H2 y s2 c2 r2=>(mkD c2 ((rs.stp s1).stp s2) e3 (λL3 H3 z s3 c3 r3=>?_))⟩
      .obtain ⟨kvs,hk|hk⟩:=hd
       .obtain ⟨vs,e5,_⟩:=c1.obj n a _ ea hk;exact .inl ⟨vs,.inl e5⟩
       .obtain ⟨vs,e5,_⟩:=c1.obj n a _ ea hk;exact .inr ⟨vs,.inl e5⟩
      .have ra:zT H L3 H3 (.dat (.ref n)) (.ref a):=by
        unfold zT Rep;exact ⟨a,rfl,by obtain ⟨N,hN⟩:=(s2.trans s3).pre;rw[hN];exact F8 ea⟩
       obtain ⟨a',o',e6,h1,h2⟩:=Jr c3 ra (r2.stp s3) e4;cases e6;refine ⟨o',h1,?_⟩;cases ov with
       |none=>
        have h':o'=none:=h2;subst h';exact q L3 H3 _ ((s1.trans s2).trans s3) c3 r3
       |some dd=>
        obtain ⟨v,rfl,rv⟩:=h2;exact q L3 H3 _ ((s1.trans s2).trans s3) c3 rv
     .cases hf
    .cases hf
   .cases hf
  unfold EU at hf;split at hf
  .rename_i n M1 e1;split at hf
   .rename_i kvs e5;exact key n M1 e1 ⟨kvs,.inl e5⟩ hf
   .rename_i kvs e5;exact key n M1 e1 ⟨kvs,.inr e5⟩ hf
   .cases hf
  .cases hf
end
end L3
namespace L2
def W0 (hu:A.units+1<cLine) (I:Inv X zB Y H s) (g:DE H a y v H') (ry:zc y u) (rv:zc v r) (h:∀ s',Inv X zB Y H' s'->Heap.SameBut a s.heap s'.heap->Q () s') :
  wpAny (model X.prog X.w) A (dictSet a u r) Q E s:=by
 rcases g with ⟨kvs,k,e,ey,l,eH⟩|⟨kvs,k,b,e,ey,eb,l,eH⟩
 .subst ey eH;obtain ⟨z,hd,vs,rel,dd⟩:=Kv I.hok e;have hz:vs.length<=sizeLine:=by rw[<-rel.length];exact z
  have hl:(BH kvs k v).length<=sizeLine:=by have:=HJ kvs k v;omega
  refine wpAny_dictSet_pairs (Fd ry) dd λh' dd' hs=>h _ ?_ hs;have he:∃ q,h'.get? a=some q:=let ⟨q,_,_,hq,_⟩:=dd';⟨q,hq⟩;exact Gi I (by rw[e];exact True.intro) hs he (K5 hl hd (rel.put k rv) dd')
 .subst ey eH;cases (show u=Value.ref b from ry);obtain ⟨z,hd,xs,rel,dd⟩:=P7 I.hok e;have hz:xs.length<=sizeLine:=by rw[<-Paired.length rel];exact z
  have hl:(BH kvs k v).length<=sizeLine:=by have:=HJ kvs k v;omega
  refine wpAny_dictSet_heap (show (tupleKind (zw X.prog X.w)).room A from Nat.lt_of_succ_lt hu) (Ge I.hok eb) dd λh' dd' hs=>h _ ?_ hs;obtain ⟨q,es,ep,hq,h2,h3,h4,_,h5⟩:=dd';refine Gi I (by rw[e];exact True.intro) hs ⟨q,hq⟩ ⟨hl,hd,_,(rel.put k eb rv).keeps λc ys ec=>?_,q,es,ep,hq,h2,h3,h4,h5⟩;rw[zP (C6 ec e (λz=>nomatch z))];exact ec
end L2
namespace L3
open L2
noncomputable def BJ:Nat->D->Bool
 |0,.int _=>true
 |n+1,.tup ds=>ds.all (BJ n)
 |_,_=>false
noncomputable def BK:Nat->D->D->Bool
 |0,.int i,.int j=>decide (i=j)
 |n+1,.tup xs,.tup ys=>xs.length==ys.length&&(xs.zip ys).all λq=>BK n q.1 q.2
 |_,_,_=>false
theorem LS:∀ (n:Nat) (x:D),BJ n x=true->BK n x x=true
 |0,.int i,_=>by simp[BK]
 |n+1,.tup xs,h=>by
  unfold BJ at h;unfold BK;rw[Ab]at h;simp only[beq_self_eq_true,Bool.true_and];rw[Ab];intro q hq;have:q.1=q.2:=by
   obtain ⟨i,hi,e⟩:=DZ hq;rw[List.getElem_zip]at e;rw[<-e]
  rw[<-this];exact LS n _ (h q.1 (List.of_mem_zip hq).1)
 |0,.non,h=>by cases h
 |0,.bl _,h=>by cases h
 |0,.str _,h=>by cases h
 |0,.tup _,h=>by cases h
 |0,.ref _,h=>by cases h
 |n+1,.non,h=>by cases h
 |n+1,.bl _,h=>by cases h
 |n+1,.int _,h=>by cases h
 |n+1,.str _,h=>by cases h
 |n+1,.ref _,h=>by cases h
def TN:∀ (n:Nat) (x y:D),BJ n x=true->BJ n y=true->BK n x y=true->x=y:=by
 intro n;induction n with
 |zero=>
  intro x y hx hy h;cases x <;> first|cases hx|skip
  cases y <;> first|cases hy|skip
  unfold BK at h;rw[Bv h]
 |succ n ih=>
  intro x y hx hy h;cases x <;> first|cases hx|skip
  cases y <;> first|cases hy|skip
  rename_i xs ys;unfold BJ at hx hy;unfold BK at h;rw[Ab]at hx hy;rw[Ap,beq_iff_eq,Ab]at h;congr 1;apply List.ext_getElem h.1;intro i h1 h2;refine ih _ _ (hx _ (Aq h1)) (hy _ (Aq h2)) ?_;exact h.2 (xs[i],ys[i]) (by
   have hz:i<(xs.zip ys).length:=by rw[List.length_zip];omega
   have:=Aq hz;rw[List.getElem_zip]at this;exact this)
def OE:∀ (n:Nat) (x y:D) (v:V),BJ n x=true->BJ n y=true->Rep L H x v->Rep L H y v->x=y:=by
 intro n;induction n with
 |zero=>
  intro x y v hx hy rx ry;cases x <;> first|cases hx|skip
  cases y <;> first|cases hy|skip
  unfold Rep at rx ry;rw[rx]at ry;cases ry;rfl
 |succ n ih=>
  intro x y v hx hy rx ry;cases x <;> first|cases hx|skip
  cases y <;> first|cases hy|skip
  rename_i xs ys;unfold BJ at hx hy;rw[Ab]at hx hy;unfold Rep at rx ry;obtain ⟨a,vs,rfl,e,r⟩:=rx;obtain ⟨a',vs',e1,e2,r'⟩:=ry;cases e1;rw[e]at e2;cases e2;congr 1;have hl:xs.length=ys.length:=by rw[<-r.length,r'.length]
  apply List.ext_getElem hl;intro i h1 h2;obtain ⟨u,hu,ru⟩:=r.get (AJ h1);obtain ⟨u',hu',ru'⟩:=r'.get (AJ h2);rw[hu]at hu';cases hu';exact ih _ _ u (hx _ (Aq h1)) (hy _ (Aq h2)) ru ru'
def dS {xs ys:List D} (f:D->D->Bool) (h:xs.length=ys.length):((List.range xs.length).all λj=>f (xs.getD j .non) (ys.getD j .non))=(xs.zip ys).all λq=>f q.1 q.2:=by
  rw[Dt,Ab,Ab];constructor
  . intro hh q hq
    obtain ⟨i,hi,e⟩:=DZ hq;rw[List.getElem_zip]at e;rw[List.length_zip]at hi;have:=hh i (by simp;omega);rw[<-e];simpa [Bi,show i<xs.length by omega,show i<ys.length by omega] using this
  . intro hh i hi
    have h1:i<xs.length:=by simpa using hi
    have h2:i<ys.length:=by omega
    have hz:i<(xs.zip ys).length:=by rw[List.length_zip];omega
    have:=hh (xs.zip ys)[i] (Aq hz);rw[List.getElem_zip]at this;simpa [Bi,h1,h2] using this
def Vi (I : Inv X zB Y H s) : ∀ (n : Nat) (A : Around) (x y : D) (v w : V) (u u' : Value), A.units + n < cLine -> BJ n x = true -> BJ n y = true -> Rep L H x v -> Rep L H y w -> zc v u -> zc w u' -> SeqAt.EqAt A s u u' (BK n x y) := by
  intro n;induction n with
  |zero=>
    intro A x y v w u u' hu hx hy rx ry ru ru';cases x <;> first|cases hx|skip
    cases y <;> first|cases hy|skip
    unfold Rep at rx ry;subst rx;subst ry;obtain ⟨t,rfl⟩:=ru;obtain ⟨t',rfl⟩:=ru';have:=SeqAt.EqAt.int_int (A:=A) (s:=s) ‹Int› t ‹Int› t';unfold BK;rename_i i j;have h:=SeqAt.EqAt.int_int (A:=A) (s:=s) i t j t';have e:(i==j)=decide (i=j):=by by_cases q:i=j <;> simp[q]
    rw[e]at h;exact h
  | succ n ih =>
    intro A x y v w u u' hu hx hy rx ry ru ru';cases x <;> first|cases hx|skip
    cases y <;> first|cases hy|skip
    rename_i xs ys;have hx':=hx;have hy':=hy;have rx':=rx;have ry':=ry;unfold BJ at hx hy;rw[Ab]at hx hy;unfold Rep at rx ry;obtain ⟨a,vs,rfl,e,r⟩:=rx;obtain ⟨b,ws,rfl,e2,r2⟩:=ry;cases ru;cases ru';by_cases hab:a=b
    . subst hab
      have:=OE (n+1) _ _ _ hx' hy' rx' ry';rw[this,LS (n+1) _ hy'];exact SeqAt.EqAt.same _
    · refine SeqAt.EqAt.of_refs hab ?_
      obtain ⟨its,rv,p1,_⟩:=I.tuple (.of e);obtain ⟨its2,rv2,p2,_⟩:=I.tuple (.of e2);have l1:its.toArray.size=xs.length:=by rw[AZ,<-rv.length,r.length]
      have l2:its2.toArray.size=ys.length:=by rw[AZ,<-rv2.length,r2.length]
      have key := SeqAt.RcAt.tuples (A := A) (s := s) (l := a) (b := b) (items := its.toArray) (items2 := its2.toArray) (e := fun j => BK n (xs.getD j .non) (ys.getD j .non)) p1 p2 (by omega) (fun j h1 h2 => by
        have j1:j<xs.length:=by omega
        have j2:j<ys.length:=by omega
        obtain ⟨q1,g1,t1⟩:=r.get (AJ j1);obtain ⟨q2,g2,t2⟩:=r2.get (AJ j2);obtain ⟨o1,k1,m1⟩:=rv.get g1;obtain ⟨o2,k2,m2⟩:=rv2.get g2
        have z1 : its.toArray[j] = o1 := by have : its.toArray[j]? = some o1 := by simpa using k1
                                            rw[DC h1]at this;exact Bc this
        have z2 : its2.toArray[j] = o2 := by have : its2.toArray[j]? = some o2 := by simpa using k2
                                             rw[DC h2]at this;exact Bc this
        rw[z1,z2];have w1:xs.getD j .non=xs[j]:=by simp[Bi,j1]
        have w2:ys.getD j .non=ys[j]:=by simp[Bi,j2]
        rw[w1,w2];exact ih A.in1 _ _ _ _ _ _ (by show A.units+1+n<cLine;omega) (hx _ (Aq j1)) (hy _ (Aq j2)) t1 t2 m1 m2)
      have fin:((List.range (min its.toArray.size its2.toArray.size)).all (λj=>BK n (xs.getD j .non) (ys.getD j .non))&&its.toArray.size==its2.toArray.size)=BK (n+1) (.tup xs) (.tup ys):=by
        rw[l1,l2];show _=(xs.length==ys.length&&(xs.zip ys).all λq=>BK n q.1 q.2);by_cases hl:xs.length=ys.length
        .rw[hl,Nat.min_self,<-hl,dS (BK n) hl,Bool.and_comm]
        . have:(xs.length==ys.length)=false:=by simpa using hl
          rw[this];simp
      rw[fin]at key;exact key
noncomputable def nb (neg b:Bool):Bool:=if neg then !b else b
def Tr (n:Nat) (hn:n<=8) (hr:Room k A):A.units+1+n<cLine:=by
 have:=hr.units;omega
open Builtin
def VB:fillsNumberSlot (.type "tuple") "mul" = pure false :=
 PySem.fillsNumberSlot_seq (id := "tuple.__mul__") (r:=some (.builtin "tuple.__rmul__")) F.slot_tuple_mul.lookup (by decide+kernel) F.slot_tuple_rmul.lookup (by decide+kernel)
def Ru:seqRepeat? (.type "tuple")=pure (some (.builtin "tuple.__mul__")):=by
 unfold seqRepeat?;rw[PySem.seqSlot_of (T := "tuple") (name := "__mul__") (id := "tuple.__mul__") F.slot_tuple_mul.lookup (by decide+kernel),PySem.seqSlot_of (T := "tuple") (name := "__rmul__") (id := "tuple.__rmul__") F.slot_tuple_rmul.lookup (by decide+kernel)];rfl
def aC (a:Int) (t:Tok) (l:Yt) (items:Yp) (n:Nat) (dd:Option Addr) (sl:Array (Option Value)) :
  Meets (Builtin.«int.__rmul__» ⟨[.int a t,.ref l],[]⟩) (λ_ R s=>s.heap.get? l=some { cls:=.type "tuple", dict:=dd,data:=.seq items n,slots:=sl }/\R (.ok (.ret Value.notImplemented)) s) :=
 .of_wp λprog w A R s h=>by obtain ⟨hp,g,d,tk,os⟩:=s;obtain ⟨hl,h⟩:=h;wp_walk using wpAny_loadPart' hl;exact ⟨_,rfl,h⟩
def SR (l:Yt) (items:Yp) (n:Nat) (dd:Option Addr) (sl:Array (Option Value)) (u:Tok) :
  Meets (Builtin.«tuple.__mul__» ⟨[.ref l,.int 1 u],[]⟩) (λ_ R s=>s.heap.get? l=some { cls:=.type "tuple", dict:=dd,data:=.seq items n,slots:=sl }/\R (.ok (.ret (.ref l))) s) :=
 .of_wp λprog w A R s h=>by
  obtain ⟨hp,g,d,tk,os⟩:=s;obtain ⟨hl,h⟩:=h;have f1:=AutoSeq1.idx_int;wp_walk using wpAny_loadPart' hl;exact ⟨_,rfl,h⟩
def Xy (l:Yt) (items:Yp) (n:Nat) (dd:Option Addr) (sl:Array (Option Value)) (x:Int) (u:Tok) (h0:¬ (decide (x < -(2 ^ 63))||decide (x≥2 ^ 63))=true) (h1:¬ (items.isEmpty||x==1)=true) (h2:¬ (decide (x<=0)||items.isEmpty)=true) (h3:¬ (items.size:Int)*x>(2 ^ 63-1) / 8) (h4:¬ Builtin.Tuple.tupleTooMany (items.size*x)=true)
  (hsz:(List.foldl (λx1 x2=>x1++x2) #[] (List.replicate x.toNat items)).size<=sizeLine) :
  Meets (Builtin.«tuple.__mul__» ⟨[.ref l,.int x u],[]⟩) (λ_ R s=>s.heap.get? l=some { cls:=.type "tuple", dict:=dd,data:=.seq items n,slots:=sl }/\R (.ok (.ret (Value.ref s.heap.objs.size))) { s with heap:=s.heap.push { cls:=Value.type "tuple", data:=Data.seq (List.foldl (λx1 x2=>x1++x2) #[] (List.replicate x.toNat items)) },toks:=s.toks }) :=
 .of_wp λprog w A R s h=>by
  obtain ⟨hp,g,d,tk,os⟩:=s;obtain ⟨hl,h⟩:=h;have f1:=AutoSeq1.idx_int;wp_walk using wpAny_loadPart' hl;rw[AE h0];wp_walk using wpAny_loadPart' hl;rw[AE h3];wp_walk using wpAny_loadPart' hl;all_goals first|exact ⟨_,rfl,h⟩|skip
noncomputable def Nj (K:Yb):R2:=λx y H Q=>∃ a k xs,x=.ref a/\y=.int k/\SqT K H a xs/\xs≠[]/\1<=k/\xs.length*k.toNat<=sizeLine /\
 (k=1->Q (.ref a) H)/\(k≠1 -> ∀ p,H p=none->Q (.ref p) (upd H p (.tup (List.replicate k.toNat xs).flatten)))
def dA:OpR X (binaryOp .Mult) (Nj X.K):=by
 intro zB s Y H x y v u Q I rx ry h;obtain ⟨a,k,xs,rfl,rfl,ha,hx,hk,hz,q1,q2⟩:=h;cases rx;obtain ⟨t,rfl⟩:=ry;obtain ⟨its,r,p1,_⟩:=I.tuple ha;obtain ⟨⟨cls,dd,data,sl⟩,ho,hc,n,hd⟩:=id p1;simp only at hc hd;subst hc hd;have hl:its.toArray.size=xs.length:=by rw[AZ];exact r.length.symm
 have hx0:0<xs.length:=List.length_pos_iff.mpr hx;have hkz:k.toNat<=sizeLine:=Ak (Nat.le_mul_of_pos_left _ hx0) hz;have hk63:k<2 ^ 63:=by
  have:(sizeLine:Nat)<2 ^ 62:=by decide
  omega
 refine wpAny_binaryOp_repeat_ref (T := "tuple") (U := "int") (by decide) ⟨_,ho,rfl⟩ (λs'=>typeIs_int s' k t) VB F.fills_int_mul F.slot_int_rmul Ru F.slot_int_index.lookup
  (call_meets F.slot_int_rmul (typeIs_int s k t) F.entry_int_rmul (F.args_int_rmul_2 _ _) (aC k t a its.toArray n dd sl)
   ⟨ho,rfl,⟨_,ho,rfl⟩,?_⟩)
 by_cases h1:k=1
 .subst h1;exact call_meets F.slot_tuple_mul ⟨_,ho,rfl⟩ F.entry_tuple_mul (F.args_tuple_mul_2 _ _) (SR a its.toArray n dd sl t) ⟨ho,⟨.ref a,H,I,rfl,q1 rfl⟩⟩
 .have hnew:List.foldl (λx1 x2=>x1++x2) #[] (List.replicate k.toNat its.toArray)=(List.replicate k.toNat its).flatten.toArray:=by
   have:=KG its k.toNat [];rw[EX]at this;exact this
  have hlr:(List.replicate k.toNat its).flatten.length<=sizeLine:=by
   rw[KL,<-r.length,Nat.mul_comm];exact hz
  have hem:its.toArray.isEmpty=false:=by
   rw[Array.isEmpty_eq_false_iff];intro z;rw[z]at hl;simp at hl;omega
  have hprod:((its.toArray.size:Int))*k=((xs.length*k.toNat:Nat):Int):=by
   rw[hl];rw[Int.natCast_mul,show ((k.toNat:Nat):Int)=k by omega]
  refine call_meets F.slot_tuple_mul ⟨_,ho,rfl⟩ F.entry_tuple_mul (F.args_tuple_mul_2 _ _) (Xy a its.toArray n dd sl k t ?_ ?_ ?_ ?_ ?_ ?_) ⟨ho,?_⟩
  .rw[AS (by omega),AS (by omega)];decide
  .rw[hem,Bool.false_or];intro z;exact h1 (eq_of_beq z)
  .rw[hem,Bool.or_false,AS (by omega)];decide
  .rw[hprod];have:(sizeLine:Nat)<=(2 ^ 63-1) / 8:=by decide
   omega
  .rw[hprod];unfold Builtin.Tuple.tupleTooMany;rw[AS (by omega)];decide
  .rw[hnew,AZ];exact hlr
  .rw[hnew];refine ⟨.ref s.heap.objs.size,_,I.laid (t':=s.toks) (o:=.tup (List.replicate k.toNat xs).flatten) (λb ob q=>AH _ q) (AF _) ?_,rfl,q2 h1 _ (I.hok.fresh (AF _))⟩;exact ⟨by rw[KL,Nat.mul_comm];exact hz,_,r.rep k.toNat,C7.new _ _⟩
def zH.rep (h:zH L H ds vs):∀ k:Nat,zH L H (List.replicate k ds).flatten (List.replicate k vs).flatten
 |0=> .nil
 |k+1=>by
  rw[Ei,Ei,De,De];exact zH.app h (zH.rep h k)
noncomputable def C3:K2:=λx y M=>match y with
 |.dat (.int k)=>match B7 x with
  |some xs=>if 0<xs.length/\1<=k/\xs.length*k.toNat<=sizeLine then some (.dat (.tup (List.replicate k.toNat xs).flatten),M) else none
  |none=>match Cw M x with
   |some xs=>if -(2 ^ 63)<=k/\k<2 ^ 63/\xs.length*k.toNat<=sizeLine then some (.fl (List.replicate k.toNat xs).flatten,M) else none
   |none=>none
 |_=>none
def UJ {K:Yb}:BE K (λx y H Q=>OP x y H Q\/Nj K x y H Q) C3:=by
 intro L M M' H H0 x y d v w Q c rx ry hk q;unfold C3 at hk;split at hk
 .rename_i k;have hw:w=.int k:=by unfold zT Rep at ry;exact ry
  subst hw;split at hk
  .rename_i xs e1;split at hk
   .rename_i hz;cases hk;obtain ⟨p1,vs,rfl,h1,r1⟩:=En rx e1;refine .inr ⟨p1,k,vs,rfl,rfl,.of h1,?_,hz.2.1,by rw[r1.length];exact hz.2.2,λz=>?_,λz pp hp=>?_⟩
    .intro z;have:=r1.length;rw[z]at this;simp at this;omega
    .subst z;refine q L H _ (.refl L H) c ?_;have:(List.replicate (1:Int).toNat xs).flatten=xs:=by simp
     rw[this];unfold zT Rep;exact ⟨p1,vs,rfl,h1,r1⟩
    .exact q L _ _ (.upd hp) (c.upd hp) (Rep.newTup hp (r1.rep k.toNat))
   .cases hk
  .split at hk
   .rename_i xs e1;split at hk
    .rename_i hz;cases hk;obtain ⟨l,vs,rfl,h1,r1⟩:=Lk c rx e1;refine .inl ⟨l,k,vs,rfl,rfl,h1,hz.1,hz.2.1,by rw[r1.length];exact hz.2.2,λp hp=>?_⟩;exact q L _ _ (.upd hp) (c.upd hp) (zT.newLst (.refl L H) c c hp (r1.rep k.toNat))
    .cases hk
   .cases hk
 .cases hk
def UG (h1:QE X a f) (h2:QE X b g):QE X (.BinOp a .Mult b pos) (fOp C3 f g):=Ey UJ (Xd.or dA) h1 h2
noncomputable def Gs:KB:=λxs M=>match xs with
 |[.dat (.int i),.dat (.int j)]=>some (.dat (.int (if j<i then j else i)),M)
 |_=>none
def UY (r:CZ H0 L H [.dat (.int i),.dat (.int j)] vs):vs=[.int i,.int j]:=by
 unfold CZ at r;obtain ⟨v,r1,rfl,a1,a2⟩:=r;unfold CZ at a2;obtain ⟨v2,r2,rfl,b1,b2⟩:=a2;unfold CZ at b2;subst b2;unfold zT Rep at a1 b1;subst a1 b1;rfl
def eQ {K:Yb}:Dd K (λxs H Q=>∃ i j,xs=[.int i,.int j]/\Q (.int (if j<i then j else i)) H) Gs:=by
 intro L M M' H H0 xs d vs Q c r hk q;unfold Gs at hk;split at hk
 .rename_i i j;cases hk;exact ⟨i,j,UY r,q L H _ (.refl L H) c (CV (L:=L) (H:=H))⟩
 .cases hk
def Rr (hcalm:X.calm=true) (hg:Gl X "min") (hm:X.mg "min" = none) (ha:QAE X [e,e2] fa) (he:starEach [e,e2] X.env=(false,eval e X.env)::starEach [e2] X.env:=by rfl) (hpl:(backTo pos (starEach [e2] X.env)).any (·.1)=false:=by rfl):QE X (.Call (.Name "min" p) [e,e2] [] pos) (fB Gs fa) :=
 Gn eQ (Ws hcalm) (by rfl) hg hm ha (by decide) (by decide) he hpl
noncomputable def HA (fg:FG) (f:FE):FS:=λY M=>match toD f Y M with
 |some (d,M1)=>match fg d Y with
  |some σ1=>some (.nx,σ1,M1)
  |none=>none
 |none=>none
def WJ (hk:GOk g fg) (h:QE X e f) (hg:PG X tg g) (hs:swapsWithSole [tg] e pos.line X.env=pure false:=by rfl) (hw:swappedStores [tg] e X.env=pure none:=by rfl)
  (h1:(assignEach [tg] X.env).map (·.2)=[assign tg X.env]:=by rfl):QS X (.Assign [tg] e pos) (HA fg f) :=
 .mk <| PS.imp (MF h.un hg hs hw h1) λE τ H zz=>by
  obtain ⟨L,Y,M,o,Y',M',c,rs,hf,q⟩:=zz;unfold HA at hf;split at hf
  .rename_i d M1 e1;split at hf
   .rename_i σ1 e2;cases hf;refine QP ⟨L,Y,M,_,_,c,rs,e1,λL1 H1 v s1 c1 r1=>?_⟩;exact hk (rs.stp s1) r1 e2 λτ' rs'=>q L1 H1 s1 c1 τ' rs'
   .cases hf
  .cases hf
def bR:OkS (HA fg f Y M) P ↔ Ok (f Y M) (DS λd M1=>∃ σ1,fg d Y=some σ1/\P .nx σ1 M1):=by
 rw[<-C4];unfold HA;constructor
 .rintro ⟨o,Y',M',e,p⟩;split at e
  .rename_i d M1 e1;split at e
   .rename_i σ1 e2;cases e;exact ⟨d,_,e1,_,e2,p⟩
   .cases e
  .cases e
 .rintro ⟨d,M1,e1,σ1,e2,p⟩;refine ⟨.nx,σ1,M1,?_,p⟩;rw[e1];dsimp only;rw[e2]
section
variable {X:Cx} {a e e2 o:Expr} {pos p apos cpos:Pos} {f:FE}
noncomputable def LI (i j k:Nat):FG:=λd Y=>match d with
 |.tup [x,y,z]=>some (((Y.set i (some x)).set j (some y)).set k (some z))
 |_=>none
noncomputable abbrev gP3 (K:Yb) (i j k:Nat):TG:=Lu K 3 (G2 (Cz i) (G2 (Cz j) (G2 (Cz k) KP)))
def UR (r:zH L H [x,y,z] vs):∃ v1 v2 v3,vs=[v1,v2,v3]/\Rep L H x v1/\Rep L H y v2/\Rep L H z v3:=by
 unfold zH at r;obtain ⟨v1,r',rfl,h1,r⟩:=r;obtain ⟨v2,v3,rfl,h2,h3⟩:=r.two;exact ⟨v1,v2,v3,rfl,h1,h2,h3⟩
def Tf {K:Yb} {i j k:Nat}:GOk (gP3 K i j k) (LI i j k):=by
 intro L H Y Y' τ d v Q rs r hf q;unfold LI at hf;split at hf
 .rename_i x y z;cases hf;unfold Rep at r;obtain ⟨a,vs,rfl,e,r⟩:=r;obtain ⟨v1,v2,v3,rfl,r1,r2,r3⟩:=UR r;exact ⟨a,_,rfl,.of e,rfl,v1,[v2,v3],rfl,v2,[v3],rfl,v3,[],rfl,rfl,q _ (((rs.set r1).set r2).set r3)⟩
 .cases hf
end
def Ux {its:List Value} {i:Int} (e:s.heap.get? l=some { cls:=.type "list", data:=.seq its.toArray n }) (hfit:¬ (!Builtin.List.listFitsIndex i)=true) (h0:¬ (i<0)) (hz:its.toArray.size<=sizeLine)
  (h:∀ g:Array Value->Array Value,g its.toArray=(its.take (min i.toNat its.length)++[u2]++its.drop (min i.toNat its.length)).toArray->Q .none { s with heap:=s.heap.update l (Obj.mapSeq g),toks:=s.toks }) :
  wpAny (model prog w) A (call (.builtin "list.insert") [.ref l,.int i t,u2]) Q E s:=by
 have hm:=@AutoSeq1.list_insert_list_int_val_1 l its.toArray n i t u2 hfit hz;have h1:s.TypeIs (.ref l) "list" := ⟨_,e,rfl⟩;refine call_meets (B:=Builtin.«list.insert») (self:=.ref l) (rest:=[.int i t,u2]) F.slot_list_insert h1 F.entry_list_insert (F.args_list_insert_3 _ _ _) hm ⟨e,?_⟩;refine h _ ?_;simp only[h0,if_false,AZ];simp;exact GL (by simp)
def Nc:V->List V->Hp->VK->Prop:=λx vs H Q=>∃ (l:Yt) (i:Int) (y:V) (xs:List V),x=.ref l/\vs=[.int i,y]/\H l=some (.lst xs)/\0<=i/\i.toNat<=xs.length/\xs.length<sizeLine/\Q .non (upd H l (.lst (xs.take i.toNat++[y]++xs.drop i.toNat)))
def XY:MtM X "list.insert" Nc:=by
 intro zB s Y H x vs v us Q I rx rv h;obtain ⟨l,i,y,xs,rfl,rfl,hH,h0,hi,hz,q⟩:=h;cases rx;obtain ⟨u,u2,rfl,⟨t,rfl⟩,ru2⟩:=rv.two;obtain ⟨z,its,n,r,hl,e⟩:=I.lstM hH;have hs:(sizeLine:Nat)<2 ^ 62:=by decide
 have hi1 : -(2 ^ 63)<=i:=by omega
 have hi2:i<2 ^ 63:=by omega
 refine Ux (its:=its) e (by rw[fitsIndex_both hi1 hi2];exact AY) (by omega) (by rw[AZ,<-hl];exact CP hz) λg hg=>?_;rw[Nat.min_eq_left (by omega)]at hg;exact ⟨.non,_,I.lset (its':=its.take i.toNat++[u2]++its.drop i.toNat) (ys:=xs.take i.toNat++[y]++xs.drop i.toNat) hH e hg (((r.take i.toNat).append (.cons ru2 .nil)).append (r.drop i.toNat)) (by simp;omega),rfl,q⟩
noncomputable def F7:KM:=λx ds M=>match x,ds with
 |.dat (.ref n),[.int i,d]=>match M[n]? with
  |some (.lst xs)=>if 0<=i/\i.toNat<=xs.length/\xs.length<sizeLine then some (.non,M.set n (.lst (xs.take i.toNat++[d]++xs.drop i.toNat))) else none
  |_=>none
 |_,_=>none
theorem OO:∀ (k:Nat) {ds:List D} {vs:List V},zH L H ds vs->zH L H (ds.take k) (vs.take k)
 |0,_,_,_=> .nil
 |k+1,[],vs,h=>by unfold zH at h;subst h;exact .nil
 |k+1,d::ds,vs,h=>by
  unfold zH at h;obtain ⟨v,r,rfl,h1,h2⟩:=h;exact .cons h1 (OO k h2)
theorem Qm:∀ (k:Nat) {ds:List D} {vs:List V},zH L H ds vs->zH L H (ds.drop k) (vs.drop k)
 |0,_,_,h=>h
 |k+1,[],vs,h=>by unfold zH at h;subst h;exact .nil
 |k+1,d::ds,vs,h=>by
  unfold zH at h;obtain ⟨v,r,rfl,h1,h2⟩:=h;exact Qm k h2
def VE {K:Yb}:L8 K Nc F7:=by
 intro L M M' H H0 x ds d v vs Q c rx rd hk q;unfold F7 at hk;split at hk
 .rename_i n i d';split at hk
  .rename_i xs e1;split at hk
   .rename_i hz;cases hk;unfold zT Rep at rx;obtain ⟨a,rfl,e2⟩:=rx;obtain ⟨ws,e3,r3⟩:=c.obj n a _ e2 e1;obtain ⟨w1,w2,rfl,r4,r5⟩:=rd.two;have hw:w1=.int i:=by unfold Rep at r4;exact r4
    subst hw;obtain ⟨c5,s5⟩:=c.write e2 e1 (((OO i.toNat r3).app (.cons r5 .nil)).app (Qm i.toNat r3));exact ⟨a,i,w2,ws,rfl,rfl,e3,hz.1,by rw[r3.length];exact hz.2.1,by rw[r3.length];exact hz.2.2,q L _ _ s5 c5 (by unfold Rep;rfl)⟩
   .cases hk
  .cases hk
 .cases hk
def Y6 (h:QE X a f) (hg:QA X [x1,x2] fg) (hbase:attributeBase a "insert" X.env (eval a X.env)=eval a X.env:=by rfl)
  (hfew:((backTo cpos (starEach [x1,x2] X.env)).all (λx=> !x.1)&&(backToKw cpos (keywordEach [] X.env)).all (λx=>x.1.isSome)&&decide ([x1,x2].length+([]:List Keyword).length+(if ([]:List Keyword).isEmpty then 0 else 1)<30))=true:=by rfl)
  (hline:(apos.endLine==cpos.line)=true:=by rfl) (hs:starEach [x1,x2] X.env=(false,eval x1 X.env)::starEach [x2] X.env:=by rfl) (hplain:(backTo cpos (starEach [x2] X.env)).any (·.1)=false:=by rfl) :
  QE X (.Call (.Attribute a "insert" apos) [x1,x2] [] cpos) (fM F7 f fg) :=
 .mk <| PE.imp (OA PySem.F.plainAttrs_list PySem.F.slot_list_insert PySem.F.type_list_insert XY h.un hg.un hbase hfew hline hs hplain) λ_ _ _ z=>QU VE z
end L3
namespace L2
def Xc (hu:X.A.units+1<cLine) (hk:PE X k tk) (hv:PE X v tv) :
  PE X (.Dict [some k] [v] pos) (λY H Q=>∀ p,H p=none->tk Y (upd H p (.dT [])) λx H1=>tv Y H1 λy H2=>∃ H3,DE H2 p x y H3/\Q (.ref p) H3):=by
 intro zB s Y H Q I q;have hn:=I.hok.fresh (AF s.heap.objs.size);have I1:=I.laid (a:=s.heap.objs.size) (o:=.dT []) (h':=s.heap.push { cls:=.type "dict", data:=.dict #[] }) (t':=s.toks) (λ_ _ q=>AH _ q) (AF _) (Ox s.heap I.big);rw[arm_eval_Dict,zip_pairTrees [some k] [v] X.env pos rfl rfl,dictDisplay_pairs _ (by simp[pairTrees]) (by simp[pairTrees])];refine AA (wpAny_standAt (AA ?_));unfold subDict;refine AA (wpAny_alloc ?_);refine AA (Bw ?_);rw[AD (by simp[pairTrees])];refine AA (thn (JA hk hv L9 zB _ Y _ (λps H2=>match ps with | [(x,y)]=>∃ H3,DE H2 s.heap.objs.size x y H3/\Q (.ref s.heap.objs.size) H3|_=>False) I1 (q _ hn)) λvs s1 ⟨ps,H2,I2,rel,hq⟩=>?_);cases rel with
 |nil=>exact hq.elim
 | @cons a b as bs hab t=>
  cases t with
  |cons _ _=>exact hq.elim
  |nil=>
   obtain ⟨x,y⟩:=a;obtain ⟨H3,hp,q3⟩:=hq;obtain ⟨u,r⟩:=b;refine Bw ?_;rw[List.forIn_cons];refine AA (AA ?_);refine AA (W0 hu I2 hp hab.1 hab.2 λs' I' hs=>AB ?_);show wpAny _ _ (forIn [] PUnit.unit _) _ _ s';rw[List.forIn_nil];exact AB (AB (AB (AB ⟨.ref s.heap.objs.size,H3,I',rfl,q3⟩)))
end L2
namespace L3
open L2
noncomputable def GO (fk fv:FE):FE:=λY M=>match toD fk Y (M++[.dicT []]) with
 |some (k,M1)=>match toD fv Y M1 with
  |some (v,M2)=>match DT M2 M.length k v with
   |some M3=>some (.dat (.ref M.length),M3)
   |none=>none
  |none=>none
 |none=>none
def SM (hu:X.A.units+1<cLine) (h1:QE X a fk) (h2:QE X b fv):QE X (.Dict [some a] [b] pos) (GO fk fv):=.mk <| PE.imp (Xc hu (BB h1).un (BB h2).un) λτ H Q ⟨L,Y,M,d,M',c,rs,hf,q⟩ p hp=>by
 unfold GO at hf;split at hf
 .rename_i k M1 e1;split at hf
  .rename_i v M2 e2;split at hf
   .rename_i M3 e3;cases hf;obtain ⟨c0,s0⟩:=c.pushO (m:=.dicT []) (o:=.dT []) hp ⟨[],zq,rfl⟩;refine ⟨L++[p],Y,_,_,_,c0,rs.stp s0,e1,λL1 H1 x st1 c1 r1=>⟨L1,Y,M1,_,_,c1,(rs.stp s0).stp st1,e2,λL2 H2 y st2 c2 r2=>?_⟩⟩;have st:=(s0.trans st1).trans st2;have lp:L2[M.length]?=some p:=by
     obtain ⟨N,hN⟩:=(st1.trans st2).pre;rw[hN,<-c.len];simp
    obtain ⟨H3,hd,c3,s3⟩:=P4 c2 lp (r1.stp st2) r2 e3;refine ⟨H3,hd,q _ _ _ (st.trans s3) c3 ?_⟩;unfold zT Rep;exact ⟨p,rfl,lp⟩
   .cases hf
  .cases hf
 .cases hf
open SeqAt
structure Df (K:Yb) (mg:Yh) (x:Str) (st:Stmt) (ps:Yk) where
 f:Addr
 fd:FuncData
 F:Fun K x x st f fd
 b:D3 K fd ps []
 m:mg x=some (.ref f)
structure Dg (K:Yb) (x:Str) (st:Stmt) where
 f:Addr
 {od an:Option Addr}
 {sl:Array (Option Value)}
 {oc kV dc pm cd ct:Yu}
 a:PySem.W.nsIn K mainGlobals x=some (some (.ref f))
 l:K.lookup f=some ⟨oc,od,.func (PySem.W.fnOf x x (Fj st) (Dw st) (zN st) .none kV dc pm an cd ct),sl⟩
 c:PySem.W.codeIn K cd x=true
 k:PySem.W.keepIn K (.ref f)=true
noncomputable abbrev Dg.df {K:Yb} {x:Str} {st:Stmt} {ps:Yk} {h:Heap} {mg:Yh} (g:Dg K x st) (X:K.In h) (G:h.Ns mainGlobals mg)
  (hb:∀ (kV doc pm:Yu) (an:Option Addr) (cdv ct:Yu) (us:Yf),us.length=ps.length->bindArgs (PySem.W.fnOf x x (Fj st) (Dw st) (zN st) .none kV doc pm an cdv ct) ⟨us,[]⟩=pure (ps.zip us)):Df K mg x st ps :=
 ⟨g.f,_,N9 g.l g.c g.k,(N9 g.l g.c g.k).binds hb,PySem.W.mg_of X G g.a⟩
abbrev Od (P:Ym) (w:Yo) (base:Heap) (k:Nat) {K:Yb} {mg:Yh} {x:Str} {st:Stmt} {ps:Yk} (d:Df K mg x st ps) (m:FF):Prop:=FnOk P w K mg base CX0 k d.f d.fd ps (spF K ps.length m)
abbrev Zn (K:Yb) (x:Str):Prop:=PySem.W.nsIn K mainGlobals x=some none
abbrev Ki (K:Yb) (t T:String) (b:Bool):Prop:=PySem.W.kitOne K (.type t) (.type T)=some b
def GN {P:List Value->Prop} (h:∀ a,P [a]):∀ us:List Value,us.length=1->P us
 |[a],_=>h a
def G7 {P:List Value->Prop} (h:∀ a b,P [a,b]):∀ us:List Value,us.length=2->P us
 |[a,b],_=>h a b
def Fv {P:List Value->Prop} (h:∀ a b c,P [a,b,c]):∀ us:List Value,us.length=3->P us
 |[a,b,c],_=>h a b c
def YA {P:List Value->Prop} (h:∀ a b c d,P [a,b,c,d]):∀ us:List Value,us.length=4->P us
 |[a,b,c,d],_=>h a b c d
def bU {P:List Value->Prop} (h:∀ a b c d e,P [a,b,c,d,e]):∀ us:List Value,us.length=5->P us
 |[a,b,c,d,e],_=>h a b c d e
section
variable {st:Stmt}
def Ma {d:Df X.K X.mg x st ps} (F:FnOk X.prog X.w X.K X.mg X.base CX0 k d.f d.fd ps (spF X.K (e::es).length g)) (hr:Room k X.A) (hg:Gl X x)
  (ha:QA X (e::es) fa) (hl:∀ Y M ds M1,fa Y M=some (ds,M1)->ds.length=(e::es).length) (hdb:(x==("__debug__" : Str))=false) (he:starEach (e::es) X.env=(false,eval e X.env)::starEach es X.env) (hpl:(backTo pos (starEach es X.env)).any (·.1)=false) :
  QE X (.Call (.Name x p) (e::es) [] pos) (zW g fa):=SG F hr hg d.m d.F.kp d.b ha hl hdb he hpl
def YB (hN:X.N.Nodup) (hi:X.N[i]?=some x) (h:QE X e f) (hx:Loc X.env.scope x:=by first|exact Or.inl rfl|exact Or.inr rfl) (hs:swapsWith e (some (.Name x pos')) pos.line X.env=pure false:=by rfl)
  (hf:X.fn x=true\/X.env.scope.names.lookup x=some .local:=by first|exact .inl rfl|exact .inr rfl|assumption):QS X (.Assign [.Name x pos'] e pos) (AQ i f):=VQ hN hi hx h hs hf
def Q4 (hN:X.N.Nodup) (hi:X.N[i]?=some x) (hx:Loc X.env.scope x:=by first|exact Or.inl rfl|exact Or.inr rfl) (hf:X.fn x=true\/X.env.scope.names.lookup x=some .local:=by first|exact .inl rfl|exact .inr rfl|assumption):PG X (.Name x pos) (Cz i):=Mo hN hi hx hf
end
def MU (hv:s.heap.IsItemsView v d) (ho:s.heap.get? d=some o) (hdat:o.data=.dict es ep)
  (hQ:Q (.ref s.heap.objs.size) { s with heap:=s.heap.push { cls:=.type "dict_itemiterator", data:=.fields #[.none,.bool false,.ref d,.int 0 0,.int es.size 0,.int ep 0,.none,.none] } }):wpAny (model prog w) A (pyIter (.ref v)) Q E s:=by
 obtain ⟨q,hq,_,hd⟩:=id hv;refine wpAny_pyIter_slot hv.typeIs F.slot_dict_items_iter (BY F.slot_dict_items_iter hv.typeIs F.entry_dict_items_iter ?_ (F.args_dict_items_iter_1 _));unfold Builtin.«dict_items.__iter__»;refine AA (AB (AA ?_));unfold Builtin.Dict_items.dictOf;refine AA (Cm hq hd (x:=.ref d) rfl (AB (AA ?_)));unfold Builtin.Dict_items.newIterator;refine AA (wpAny_dictEntries ho hdat (AA (wpAny_dictEpoch ho hdat ?_)));simp only[show Builtin.Dict_items.ownsTuple "dict_itemiterator" = true by decide,if_true];refine BI (AB ⟨_,rfl, "dict_itemiterator", _,⟨_,AN _ rfl,rfl⟩,F.slot_dict_itemiterator_next.lookup,?_⟩) (by simp only[sizeOk,Builtin.Dict_items.ownedTupleFields,AZ,Ae,B5,DY,sizeLine_eq];omega);simpa [rawInt,Builtin.Dict_items.ownedTupleFields] using hQ
def KZ (hh:A.handled=none) (hit:IsItemIter s.heap it d i es.size ep ok ov) (hod:s.heap.get? d=some o) (hdd:o.data=.dict es ep) (hge:es.size<=i)
  (hQ:∀ h',Heap.ExtBut it s.heap h'->Q none { s with heap:=h' }):wpAny (model prog w) A (pyNext (.ref it)) Q E s:=by
 have hT:s.TypeIs (.ref it) "dict_itemiterator" := ⟨_,hit,rfl⟩;unfold pyNext;refine AA (ED (CY (name:=Str.ofString "__next__") hT F.slot_dict_itemiterator_next (BY F.slot_dict_itemiterator_next hT F.entry_dict_itemiterator_next ?_ (F.args_dict_itemiterator_next_1 _))));refine AA (AB (AA (AA ?_)));first|refine AA (wpAny_typeNameOfWhole_itemiter hT (AB ?_))|refine AA (wpAny_typeNameOf_itemiter hT (AB ?_))
 refine AA (wpAny_fieldsOf hit rfl ?_);simp only[show Builtin.Dict_items.ownsTuple "dict_itemiterator" = true by decide,if_true];show wpAny _ _ (if (Value.ref d==Value.none)=true then _ else _) _ _ s;rw[AE (show ¬ ((Value.ref d==Value.none)=true)from AY)];refine AA (AB (AA (wpAny_dictEntries hod hdd ?_)));rw[AE (by simp)];refine AA (AB (AA (wpAny_dictEpoch hod hdd ?_)));rw[AE (by simp)];refine AB ?_;simp only[show ¬ ((i:Int)<0)from by omega,if_false,BG,Array.getElem?_eq_none hge];refine AA ?_;first|refine AA (wpAny_typeNameOfWhole_itemiter hT (AB ?_))|refine AA (wpAny_typeNameOf_itemiter hT (AB ?_))
 show wpAny _ _ (setField (.ref it) 2 .none >>= _) _ _ s;refine AA (DW hit rfl (by simp) ?_);refine AA ?_;simp only[newExc,newTuple];refine AA (BI ?_ (by size_fits));refine AA (m:=firstArgMember _ _) (wpAny_of_eq (a:=Value.none) (by first|rfl|(simp only[firstArgMember];rfl)) ?_);refine BI ?_ (by size_fits);simp only[raiseNew];refine AA (wpAny_handled ?_);rw[show A.in1.handled=none from hh];refine AA (AB (wpAny_throw ?_));refine AA (wpAny_isInstance (T := "StopIteration") (b:=true) ⟨_,AN _ rfl,rfl⟩ isSubtype_stop ?_);exact AB (hQ _ (((Ct ..).extBut.push _).push _))
def V2 (hit:IsItemIter s.heap it d i es.size ep ok ov) (hod:s.heap.get? d=some o) (hdd:o.data=.dict es ep) (hx:es[i]?=some e)
  (hQ:∀ h',IsItemIterOut h' it d (i+1) es.size ep e.key e.val s.heap.objs.size->h'.get? s.heap.objs.size=some { cls:=.type "tuple", data:=.seq #[e.key,e.val] }->(∀ b o,b≠it->s.heap.get? b=some o->h'.get? b=some o)->Q (some (.ref s.heap.objs.size)) { s with heap:=h' }) :
  wpAny (model prog w) A (pyNext (.ref it)) Q E s:=by
 obtain ⟨hp,g,dr,tk,os⟩:=s;have hT:Shared.TypeIs ⟨hp,g,dr,tk,os⟩ (.ref it) "dict_itemiterator" := ⟨_,hit,rfl⟩;obtain ⟨hlt,hxe⟩:=Array.getElem?_eq_some_iff.mp hx;unfold pyNext;refine AA (ED (CY (name:=Str.ofString "__next__") hT F.slot_dict_itemiterator_next (BY F.slot_dict_itemiterator_next hT F.entry_dict_itemiterator_next ?_ (F.args_dict_itemiterator_next_1 _))));refine AA (AB (AA (AA ?_)));first|refine AA (wpAny_typeNameOfWhole_itemiter hT (AB ?_))|refine AA (wpAny_typeNameOf_itemiter hT (AB ?_))
 refine AA (wpAny_fieldsOf hit rfl ?_);simp only[show Builtin.Dict_items.ownsTuple "dict_itemiterator" = true by decide,if_true];show wpAny _ _ (if (Value.ref d==Value.none)=true then _ else _) _ _ _;rw[AE (show ¬ ((Value.ref d==Value.none)=true)from AY)];refine AA (AB (AA (wpAny_dictEntries hod hdd ?_)));rw[AE (by simp)];refine AA (AB (AA (wpAny_dictEpoch hod hdd ?_)));rw[AE (by simp)];refine AB ?_;simp only[show ¬ ((i:Int)<0)from by omega,if_false,BG,DC hlt,hxe];refine AA ?_;first|refine AA (wpAny_typeNameOfWhole_itemiter hT (AB ?_))|refine AA (wpAny_typeNameOf_itemiter hT (AB ?_))
 refine AA (wpAny_isOneOf_itemiter hT ?_);show wpAny _ _ (setField (.ref it) 3 (rawInt ((i:Int)+1)) >>= _) _ _ ⟨hp,g,dr,tk,os⟩;refine AA (wpAny_setField_rec hit (by simp) λh1 he1 hs1=>?_);replace hs1:Heap.SameBut it hp h1:=hs1;replace he1:IsItemIter h1 it d (i+1) es.size ep ok ov:=by
  have q:((i+1:Nat):Int)=(i:Int)+1:=by omega
  unfold IsItemIter;rw[q];simpa [rawInt] using he1
 have hT1:Shared.TypeIs ⟨h1,g,dr,tk,os⟩ (.ref it) "dict_itemiterator" := ⟨_,he1,rfl⟩;refine AA (Bw (AA (wpAny_isOneOf_itemiter hT1 (AA (wpAny_isOneOf_itemiter hT1 ?_)))));unfold Builtin.Dict_items.pairFromOwner;refine AA (wpAny_newTuple ?_);have he2:IsItemIter (h1.push { cls:=.type "tuple", data:=.seq #[e.key,e.val] }) it d (i+1) es.size ep ok ov:=AH _ he1;generalize hh2:h1.push { cls:=.type "tuple", data:=.seq #[e.key,e.val] }=h2 at he2;have z1:h1.objs.size=hp.objs.size:=hs1.1;have hil:it<hp.objs.size:=AI hit;have t2:h2.get? hp.objs.size=some { cls:=.type "tuple", data:=.seq #[e.key,e.val] }:=by rw[<-hh2,<-z1];exact AN _ rfl
 have k2:∀ b o,b≠it->hp.get? b=some o->h2.get? b=some o:=λb o hb q=>by rw[<-hh2];exact AH _ (hs1.extBut b o hb q)
 show wpAny _ _ (Builtin.Dict_items.ownedTupleIsFree (.ref it) >>= _) _ _ ⟨h2,g,dr,tk,os⟩;rw[z1];refine AA ?_;unfold Builtin.Dict_items.ownedTupleIsFree;refine AA (Cm he2 rfl (x:=.none) rfl (AB ?_));simp only[if_true];refine AA (Cm he2 rfl (x:=ok) rfl (AA (Cm he2 rfl (x:=ov) rfl ?_)));refine AA (wpAny_setField_rec he2 (by simp) λh3 he3 hs3=>?_);replace he3:IsItemIter h3 it d (i+1) es.size ep e.key ov:=he3;replace hs3:Heap.SameBut it h2 h3:=hs3;refine AA (wpAny_setField_rec he3 (by simp) λh4 he4 hs4=>?_);replace he4:IsItemIter h4 it d (i+1) es.size ep e.key e.val:=he4;replace hs4:Heap.SameBut it h3 h4:=hs4;refine AA (wpAny_setField_rec he4 (by simp) λh5 he5 hs5=>?_);replace he5:IsItemIterOut h5 it d (i+1) es.size ep e.key e.val hp.objs.size:=he5;replace hs5:Heap.SameBut it h4 h5:=hs5;refine AA (wpAny_setField_rec he5 (by simp) λh6 he6 hs6=>?_);replace he6:IsItemIterOut h6 it d (i+1) es.size ep e.key e.val hp.objs.size:=he6;replace hs6:Heap.SameBut it h5 h6:=hs6;have up:∀ b o,b≠it->h2.get? b=some o->h6.get? b=some o:=λb o hb q=>hs6.extBut b o hb (hs5.extBut b o hb (hs4.extBut b o hb (hs3.extBut b o hb q)));exact AA (wpAny_letGo (AB (AB ⟨_,rfl,AB (hQ h6 he6 (up _ _ (Dc hil) t2) λb o hb q=>up b o hb (k2 b o hb q))⟩)))
def Qf (d:Yt) (hd:(d==sysModules)=false) :
  MeetsIn prog w (Builtin.«dict.items» ⟨[.ref d],[]⟩) (λ_ R s=>s.TypeIs (.ref d) "dict" /\ R (.ok (.ret (.ref s.heap.objs.size))) { s with heap:=s.heap.push { cls:=.type "dict_items", data:=.fields #[.ref d] } }) :=
 .of_wp λA R s ⟨hT,h⟩=>by
  unfold Builtin.«dict.items»;refine AA ?_;unfold Builtin.Dict.noArgs;refine AA (wpAny_notOrdered_dict hT ?_);refine AB ?_;unfold Builtin.Dict.showsAll;rw[AE (by rw[hd];exact AY)];exact AA (AB (AA (BI (AB ⟨_,rfl,h⟩))))
def dO:entryFor table "dict_itemiterator.__iter__" = some Builtin.«dict_keyiterator.__iter__»:=entryFor_alias (id' := "dict_keyiterator.__iter__") (by kernel_rfl) rfl (by decide+kernel) (by kernel_rfl)
def Vr (he:IsItemIter s.heap it d i n ep ok ov) (h:Q (.ref it) s):wpAny (model prog w) A (pyIter (.ref it)) Q E s:=by
 have hT:s.TypeIs (.ref it) "dict_itemiterator" := ⟨_,he,rfl⟩;refine wpAny_pyIter_slot hT F.slot_dict_itemiterator_iter (BY F.slot_dict_itemiterator_iter hT dO ?_ (F.args_dict_itemiterator_iter_1 _));exact AB ⟨_,rfl, "dict_itemiterator", _,hT,F.slot_dict_itemiterator_next.lookup,h⟩
noncomputable def Hi (d:Yt) (o:Obj) (kvs:List (List Key × V)):It :=
 ⟨λi H=>H d=some (.frz o (.dT kvs))/\i<kvs.length,
  λi H v H'=>∃ T b k x,kvs[i]?=some (k,x)/\v=.ref T/\H T=none/\H b=some (.tup (k.map kV))/\H'=upd H T (.tup [.ref b,x]),
  λi H=>H d=some (.frz o (.dT kvs))/\kvs.length<=i⟩
def O3 (I:Inv X zB Y H s) (hd:o.data=.dict es ep) (e:H d=some (.frz o (.dT kvs))) :
  s.heap.get? d=some o /\ ∃ xs,KT H kvs xs/\es.toList=xs.map (entryOfKey (tupleKind (zw X.prog X.w)))/\kvs.length=es.size:=by
 obtain ⟨h0,_,_,xs,r,o',es',ep',h1,_,h3,h4,_⟩:=(show zr X.prog X.w H s.heap d (.frz o (.dT kvs))from I.hok d _ e);rw[h0]at h1;cases h1;rw[hd]at h3;cases h3;refine ⟨h0,xs,r,h4,?_⟩;have h5:es.toList.length=xs.length:=by rw[h4,AG]
 rw[Paired.length r,<-h5,BD]
def Qv:∀ {kvs:List (List Key × V)} {xs:List (List Key × Addr × Value)} {i:Nat} {k:List Key} {x:V},KT H kvs xs->kvs[i]?=some (k,x) -> ∃ b u,xs[i]?=some (k,b,u)/\H b=some (.tup (k.map kV))/\zc x u:=by
 intro kvs xs i k x r;induction r generalizing i with
 |nil=>intro e;cases e
 | @cons p q ps qs hq t ih=>
  intro e;cases i with
  |zero=>
   cases e;obtain ⟨q1,q2,q3⟩:=q;exact ⟨q2,q3,by rw[show k=q1 from hq.1];rfl,hq.2.1,hq.2.2⟩
  |succ j=>exact ih e
def NS {P:Ym} {w:Yo} {K:Yb} {tes:Yi} {ek:Nat} {ep:Pos} {it d:Yt} {o:Obj} {kvs:List (List Key × V)} {es:Array DictEntry} {en:Nat} (hd:o.data=.dict es en) :
  Turn P w K (.Tuple tes ek ep) (Hi d o kvs) [it] it (λi h=>∃ ok ov,IsItemIter h it d i es.size en ok ov) where
 mem:=AU.mpr rfl;obj:=λi h ⟨ok,ov,he⟩ c hc=>by
  cases AU.mp hc;exact ⟨_,he,λv m=>by cases m⟩
 keep:=λi h h' ⟨ok,ov,he⟩ k=>⟨ok,ov,k it (AU.mpr rfl) _ he⟩;item:=by
  intro X hP hw hK hc i zB s Y H E I hf Z hg;subst hP hw hK;obtain ⟨ok,ov,he⟩:=Z;obtain ⟨hg,hi⟩:=hg;obtain ⟨h0,xs,r,h4,hl⟩:=O3 I hd hg;rcases hkx:kvs[i]with ⟨k,x⟩;have hk:kvs[i]?=some (k,x):=by rw[AJ hi,hkx]
  obtain ⟨b,u,h5,h6,h7⟩:=Qv r hk;have hx:es[i]?=some (entryOfKey (tupleKind (zw X.prog X.w)) (k,b,u)):=by
   rw[<-Bb,h4,AR,h5];rfl
  have ilt:it<s.heap.objs.size:=AI he;refine V2 he h0 hd hx λh' ho hT kp=>⟨_,rfl,wpAny_letOwnedTupleGo_items ho λh2 he2 e2=>?_⟩;have kk:∀ c q,c∉[it]->s.heap.get? c=some q->h2.get? c=some q:=λc q n z=>e2.extBut _ _ (λy=>n (AU.mpr y)) (kp c q (λy=>n (AU.mpr y)) z);have NT:=e2.extBut _ _ (Dc ilt) hT;have hfr:H s.heap.objs.size=none:=I.hok.fresh (AF _);refine ⟨.ref s.heap.objs.size,upd H s.heap.objs.size (.tup [.ref b,x]),OR (s:=s) I hf kk (AF _) ?_,rfl,⟨_,b,k,x,hk,rfl,hfr,h6,rfl⟩,⟨_,_,he2⟩,λc hm=>?_⟩
  .exact ⟨by show 2<=sizeLine;decide,[.ref b,u],.cons rfl (.cons h7 .nil),⟨_,NT,rfl,⟨_,rfl⟩,rfl⟩⟩
  .cases AU.mp hm;rw[zP (AX ilt)];exact (hf it hm).1
 done:=by
  intro X hP hw hK hc i zB s Y H E I hf Z hg;subst hP hw hK;obtain ⟨ok,ov,he⟩:=Z;obtain ⟨hg,hi⟩:=hg;obtain ⟨h0,xs,r,h4,hl⟩:=O3 I hd hg;exact KZ (I.ok.hd hc) he h0 hd (by omega) λh' x=>⟨rfl,Me I hf λc q n z=>x c q (λy=>n (AU.mpr y)) z⟩
 self:=λA i s Q E Z h=>by
  obtain ⟨ok,ov,he⟩:=Z;exact Vr he h
def Ub (I:Inv X zB Y H s) (ed:H d=some (.dT kvs)):∃ o es en,s.heap.get? d=some o/\o.data=.dict es en/\Inv X zB Y (upd H d (.frz o (.dT kvs))) s:=by
 obtain ⟨z1,z2,xs,r,o,es',en,h1,h2,h3,h4,h5⟩:=(show zr X.prog X.w H s.heap d (.dT kvs)from I.hok d _ ed);refine ⟨o,es',en,h1,h3,Gi I (by rw[ed];exact True.intro) (Heap.SameBut.refl _ _) ⟨o,h1⟩ ⟨h1,z1,z2,xs,KT.keeps r λc ys ec=>?_,o,es',en,h1,h2,h3,h4,h5⟩⟩;rw[zP (C6 ec ed (λz=>nomatch z))];exact ec
def UH (h:Bl d=some k):Rep L H d (kV k):=by
 cases d with
 |int i=>cases h;unfold Rep;rfl
 |str x=>cases h;unfold Rep;rfl
 |_=>cases h
theorem Qc:∀ {ds:List D} {ks:List Key},C0 ds=some ks->zH L H ds (ks.map kV)
 |[],ks,h=>by cases h;exact .nil
 |d::ds,ks,h=>by
  unfold C0 at h;cases e1:Bl d with
  |none=>rw[e1]at h;cases h
  |some k=>
   cases e2:C0 ds with
   |none=>rw[e1,e2]at h;cases h
   |some ks'=>rw[e1,e2]at h;cases h;exact .cons (UH e1) (Qc e2)
def Oo (h:tkD d=some k) (e:H b=some (.tup (k.map kV))):Rep L H d (.ref b):=by
 cases d with
 |tup ds=>unfold Rep;exact ⟨b,_,rfl,e,Qc h⟩
 |_=>cases h
theorem Ms:∀ {ps:List (D × D)} {vs:List (List Key × V)} {i:Nat} {p:D × D},AM tkD L H ps vs->ps[i]?=some p -> ∃ k x,vs[i]?=some (k,x)/\tkD p.1=some k/\Rep L H p.2 x
 |[],_,i,p,_,e=>by cases e
 |q::ps,vs,i,p,h,e=>by
  obtain ⟨k,v,r',rfl,e1,h1,h2⟩:=h;cases i with
  |zero=>cases e;exact ⟨k,v,rfl,e1,h1⟩
  |succ j=>exact Ms (ps:=ps) (i:=j) h2 (by rw[List.getElem?_cons_succ]at e;exact e)
def W4 (hd:(d==sysModules)=false) (hT:s.TypeIs (.ref d) "dict") (ho:s.heap.get? d=some o) (hdat:o.data=.dict es ep)
  (hQ:Q (.ref s.heap.objs.size) { s with heap:=s.heap.push { cls:=.type "dict_keyiterator", data:=.fields #[.ref d,.int 0 0,.int es.size 0,.int ep 0] } }):wpAny (model prog w) A (pyIter (.ref d)) Q E s:=by
 refine wpAny_pyIter_slot hT F.slot_dict_iter (BY F.slot_dict_iter hT F.entry_dict_iter ?_ (F.args_dict_iter_1 _));unfold Builtin.«dict.__iter__»;refine AA ?_;unfold Builtin.Dict.dictSlotNone;refine AA (wpAny_notOrdered_dict hT ?_);refine AB ?_;show wpAny _ _ (Builtin.Dict.showsAll d >>= _) _ _ s;unfold Builtin.Dict.showsAll;rw[AE (by rw[hd];exact AY)];refine AA (AB (AA (wpAny_dictEntries ho hdat (AA (wpAny_dictEpoch ho hdat ?_)))));refine AA (BI (AB ⟨_,rfl, "dict_keyiterator", _,⟨_,AN _ rfl,rfl⟩,F.slot_dict_keyiterator_next.lookup,?_⟩));simpa [rawInt] using hQ
def dY (hit:s.heap.IsKeyIter it d i es.size ep) (hod:s.heap.get? d=some o) (hdd:o.data=.dict es ep) (hx:es[i]?=some e)
  (hQ:∀ h',h'.IsKeyIter it d (i+1) es.size ep->Heap.SameBut it s.heap h'->Q (some e.key) { s with heap:=h' }):wpAny (model prog w) A (pyNext (.ref it)) Q E s:=by
 obtain ⟨q,ho,hc,hd⟩:=id hit;obtain ⟨hlt,hxe⟩:=Array.getElem?_eq_some_iff.mp hx;unfold pyNext;refine AA (ED (CY (name:=Str.ofString "__next__") hit.typeIs F.slot_dict_keyiterator_next (BY F.slot_dict_keyiterator_next hit.typeIs F.entry_dict_keyiterator_next ?_ (F.args_dict_keyiterator_next_1 _))));refine AA (AB (AA (AA ?_)));first|refine AA (wpAny_typeNameOfWhole_keyiter hit.typeIs (AB ?_))|refine AA (wpAny_typeNameOf_keyiter hit.typeIs (AB ?_))
 refine AA (wpAny_fieldsOf ho hd ?_);simp only[show Builtin.Dict_items.ownsTuple "dict_keyiterator" = false by decide,Ck,if_false];show wpAny _ _ (if (Value.ref d==Value.none)=true then _ else _) _ _ s;rw[AE (show ¬ ((Value.ref d==Value.none)=true)from AY)];refine AA (AB (AA (wpAny_dictEntries hod hdd ?_)));rw[AE (by simp)];refine AA (AB (AA (wpAny_dictEpoch hod hdd ?_)));rw[AE (by simp)];refine AB ?_;simp only[show ¬ ((i:Int)<0)from by omega,if_false,BG,DC hlt,hxe];refine AA ?_;first|refine AA (wpAny_typeNameOfWhole_keyiter hit.typeIs (AB ?_))|refine AA (wpAny_typeNameOf_keyiter hit.typeIs (AB ?_))
 refine AA (wpAny_isOneOf_keyiter hit.typeIs ?_);show wpAny _ _ (setField (.ref it) 1 (rawInt ((i:Int)+1)) >>= _) _ _ s;refine AA (DW ho hd (by simp) ?_);have hit':(s.heap.update it (Obj.mapFields (·.setIfInBounds 1 (rawInt ((i:Int)+1))))).IsKeyIter it d (i+1) es.size ep :=
  ⟨_,EF _ ho (Obj.isFreed_of_fields (Dj hd _)),(Obj.cls_mapFields ..).trans hc,by rw[Dj hd];simp[rawInt]⟩
 refine AA (Bw (AA (wpAny_isOneOf_keyiter (s:={ s with heap:=s.heap.update it (Obj.mapFields (·.setIfInBounds 1 (rawInt ((i:Int)+1)))) }) hit'.typeIs ?_)));exact AB (AB ⟨_,rfl,AB (hQ _ hit' (Ct ..))⟩)
def dN (hh:A.handled=none) (hit:s.heap.IsKeyIter it d i es.size ep) (hod:s.heap.get? d=some o) (hdd:o.data=.dict es ep) (hge:es.size<=i)
  (hQ:∀ h',Heap.ExtBut it s.heap h'->Q none { s with heap:=h' }):wpAny (model prog w) A (pyNext (.ref it)) Q E s:=by
 obtain ⟨q,ho,hc,hd⟩:=id hit;unfold pyNext;refine AA (ED (CY (name:=Str.ofString "__next__") hit.typeIs F.slot_dict_keyiterator_next (BY F.slot_dict_keyiterator_next hit.typeIs F.entry_dict_keyiterator_next ?_ (F.args_dict_keyiterator_next_1 _))));refine AA (AB (AA (AA ?_)));first|refine AA (wpAny_typeNameOfWhole_keyiter hit.typeIs (AB ?_))|refine AA (wpAny_typeNameOf_keyiter hit.typeIs (AB ?_))
 refine AA (wpAny_fieldsOf ho hd ?_);simp only[show Builtin.Dict_items.ownsTuple "dict_keyiterator" = false by decide,Ck,if_false];show wpAny _ _ (if (Value.ref d==Value.none)=true then _ else _) _ _ s;rw[AE (show ¬ ((Value.ref d==Value.none)=true)from AY)];refine AA (AB (AA (wpAny_dictEntries hod hdd ?_)));rw[AE (by simp)];refine AA (AB (AA (wpAny_dictEpoch hod hdd ?_)));rw[AE (by simp)];refine AB ?_;simp only[show ¬ ((i:Int)<0)from by omega,if_false,BG,Array.getElem?_eq_none hge];refine AA ?_;first|refine AA (wpAny_typeNameOfWhole_keyiter hit.typeIs (AB ?_))|refine AA (wpAny_typeNameOf_keyiter hit.typeIs (AB ?_))
 show wpAny _ _ (setField (.ref it) 0 .none >>= _) _ _ s;refine AA (DW ho hd (by simp) ?_);refine AA ?_;simp only[newExc,newTuple];refine AA (BI ?_ (by size_fits));refine AA (m:=firstArgMember _ _) (wpAny_of_eq (a:=Value.none) (by first|rfl|(simp only[firstArgMember];rfl)) ?_);refine BI ?_ (by size_fits);simp only[raiseNew];refine AA (wpAny_handled ?_);rw[show A.in1.handled=none from hh];refine AA (AB (wpAny_throw ?_));refine AA (wpAny_isInstance (T := "StopIteration") (b:=true) ⟨_,AN _ rfl,rfl⟩ isSubtype_stop ?_);exact AB (hQ _ (((Ct ..).extBut.push _).push _))
def cZ (lo:(d==sysModules)=false) (hc:o.cls=.type "dict") (hdd:o.data=.dict es ep):PySem.W.KdlSrc prog w "dict" d d es.size (λi v=>∃ e,es[i]?=some e/\v=e.key) (λh=>h.get? d=some o) where
 type:=λ_ h=>⟨o,h,hc⟩;there:=λ_ h=>⟨AI h,AI h⟩;keep:=λ_ _ h k=>k d (.inl rfl) o h;notList:=by decide
 notTuple:=by decide
 hint:=λ_ _ _ _ h hq=>PySem.W.kdl_hint_dict ⟨o,h,hc⟩ hq
 iter:=λA s hh h=>⟨_,λi h'=>h'.IsKeyIter s.heap.objs.size d i es.size ep/\h'.get? d=some o,(λ_ _ hq=>W4 lo ⟨o,h,hc⟩ h hdd hq),⟨λb hb=>by simp at hb;simp[hb],
  λ_ _ _ st hk=>⟨st.1.at λo e=>hk _ (by simp) o e,hk d (by simp) o st.2⟩,
  λi s2 Q E hi st hQ=>dY (e:=es[i]) st.1 st.2 hdd (by simp[hi]) λh' hit' hs'=>hQ _ h' s2.toks ⟨es[i],by simp[hi],rfl⟩ ⟨hit',hs'.extBut _ _ (AX (AI h)) st.2⟩ λb q hb e=>hs'.extBut b q (λz=>hb (by simp[z])) e,
  λs2 Q E st hQ=>dN hh st.1 st.2 hdd (AF _) λh' he'=>hQ h' s2.toks λb q hb e=>he' b q (λz=>hb (by simp[z])) e,
  λ_ _ _ _ st hQ=>wpAny_pyIter_keyiter st.1 hQ⟩,⟨⟨_,AN _ rfl,rfl,rfl⟩,AH _ h⟩⟩
theorem Pt:∀ {ys:List V} {us:Yf},ys.length=us.length->(∀ (i:Nat) y u,ys[i]?=some y->us[i]?=some u->zc y u)->zX ys us
 |[],[],_,_=> .nil
 |[],_::_,h,_=>by cases h
 |_::_,[],h,_=>by cases h
 |y::ys,u::us,h,q=> .cons (q 0 y u rfl rfl) (Pt (Nat.succ.inj h) λi y' u' e1 e2=>q (i+1) y' u' (by simpa using e1) (by simpa using e2))
def WB (hd:(d==sysModules)=false):MeetsIn prog w (Builtin.«dict.__len__» ⟨[.ref d],[]⟩) (λ_ R s=>∃ o es ep,s.heap.get? d=some o/\o.data=.dict es ep/\R (.ok (.ret (.int es.size s.toks))) { s with toks:=s.toks+1 }) :=
 .of_wp λA R s ⟨o,es,ep,ho,hdat,h⟩=>by
  show wpAny _ _ (dictSize d >>= _) _ _ s;unfold dictSize;refine AA (AA (wpAny_dictEntries ho hdat (AB ?_)));show wpAny _ _ (Builtin.Dict.pendingCount d >>= _) _ _ s;refine AA (wpAny_pendingCount_other hd (wpAny_ret_mkInt ?_));rw[Nat.add_zero];exact h
end L3
namespace ST
section
variable {prog:Ym} {w:Yo} {A:Yn} {E:Yc} {s:Yl} {κ:SortKind} {vs:Yf} {r:Yr}
def Cc (prog:Ym) (w:Yo) (s:Yl) (κ:SortKind) (vs:Yf) (r:Yr):Prop :=
 ∀ (A:Yn) (E:Yc) (x y:Yu) (Q:Bool->Shared->Prop),x∈vs->y∈vs->Q (decide (r x<r y)) s->wpAny (model prog w) A (keyLt' κ x y) Q E s
def HE (R:Cc prog w s κ vs r) {st:SortSt} {x y:Keyed} {Q:Option Bool->SortSt->Prop} (hk:kindOf st=κ) (hx:x.1∈vs) (hy:y.1∈vs) (h:Q (some (decide (r x.1<r y.1))) st) :
  wpS (model prog w) A E s (lt' x y) Q st:=by
 rw[lt'_eq];refine wpS_bind (wpS_get ?_);rw[hk];exact wpS_bind (wpS_lift (ED (R _ _ _ _ _ hx hy ⟨rfl,wpS_pure h⟩)))
def Tv (R:Cc prog w s κ vs r) {st:SortSt} {i j:Nat} {x y:Keyed} {Q:Option Bool->SortSt->Prop} (hk:kindOf st=κ) (ei:(arrOf st)[i]?=some x) (ej:(arrOf st)[j]?=some y) (hx:x.1∈vs) (hy:y.1∈vs)
  (h:Q (some (decide (r x.1<r y.1))) st):wpS (model prog w) A E s (ltAt' i j) Q st:=by
 rw[ltAt'_eq];refine wpS_bind (wpS_get ?_);show wpS _ _ _ _ (elem' (arrOf st) i >>= λx=>elem' (arrOf st) j >>= λy=>lt' x y) Q st;rw[elem'_eq,elem'_eq,ei,ej];exact wpS_bind (wpS_pure (wpS_bind (wpS_pure (HE R hk hx hy h))))
def BW (h:Heap) (v:Value) (xs:List Int):Prop:=∃ b o us n,v=.ref b/\h.get? b=some o/\o.cls=.type "tuple" /\ o.data=.seq us n/\IntsAre us.toList xs
def BW.keep (t:BW h v xs) (k:∀ b o,v=.ref b->h.get? b=some o->h'.get? b=some o):BW h' v xs:=by
 obtain ⟨b,o,us,n,rfl,h1,h2,h3,h4⟩:=t;exact ⟨b,o,us,n,rfl,k b o rfl h1,h2,h3,h4⟩
noncomputable def Aa:List Int->List Int->Bool
 |[],[]=>false
 |[],_::_=>true
 |_::_,[]=>false
 |x::xs,y::ys=>if x=y then Aa xs ys else decide (x<y)
def bA (h:Q (decide (a<b)) s):wpAny (model prog w) A (oneLt' false (.int a t) (.int b u)) Q E s:=by
 rw[oneLt'_eq];simp only[Ck,if_false];refine AA (richCompare_gives (op:=.Lt) (typeIs_int s a t) (typeIs_int s b u) F.slot_int_lt F.entry_int_lt (F.args_int_lt_2 _ _) (gives_int_lt a b t u) (λx=>nomatch x) ?_);exact EL h
def T4 (h:Q (decide (a<b)) s):wpAny (model prog w) A (oneLt' c (.int a t) (.int b u)) Q E s:=by
 cases c
 .exact bA h
 .exact oneLt_int h
def Rm (hx:BW s.heap x xs) (hy:BW s.heap y ys) (h:Q (Aa xs ys) s):wpAny (model prog w) A (keyLt' (tuples' c) x y) Q E s:=by
 obtain ⟨a,o1,us,n1,rfl,h1,h2,h3,h4⟩:=hx;obtain ⟨b,o2,ws,n2,rfl,g1,g2,g3,g4⟩:=hy;refine AA (listItems_at h1 h3 (AA (listItems_at g1 g3 ?_)));refine AA (wpAny_forIn_list _ (λrest c s'=>c=(none,())/\s'=s /\ ∃ us' ws' xs' ys' k,rest=(us'.zip ws').zipIdx k/\IntsAre us' xs'/\IntsAre ws' ys'/\Aa xs ys=Aa xs' ys'/\us.size+ws'.length=ws.size+us'.length) (λc s'=>s'=s/\Q (match c.1 with|some b=>b|none=>decide (us.size<ws.size)) s) ?turn ?fin _ _ ⟨rfl,rfl,_,_,_,_,0,rfl,h4,g4,rfl,by simp;omega⟩ |> λz=>Ar z ?post λ_ _ e=>e)
 case turn=>
  rintro ⟨⟨p,q⟩,i⟩ rest c s' ⟨rfl,rfl,us',ws',xs',ys',k,e,i1,i2,e2,e3⟩;cases i1 with
  |nil=>simp at e
  | @cons n t us1 xs1 i1=>
   cases i2 with
   |nil=>simp at e
   | @cons m u ws1 ys1 i2=>
    simp only[List.zip_cons_cons,List.zipIdx_cons]at e;injection e with ea eb
    cases ea;refine AA (wpAny_eqBool_int ?_);rw[show Aa (n::xs1) (m::ys1)=if n=m then Aa xs1 ys1 else decide (n<m)from rfl]at e2;by_cases hnm:n=m
    .subst hnm;simp only[beq_self_eq_true,Bool.not_true,Ck,if_false];rw[AD rfl]at e2;simp only[B5]at e3;exact AB ⟨rfl,rfl,_,_,_,_,_,eb,i1,i2,e2,by omega⟩
    .rw[AE hnm]at e2;have:(n==m)=false:=by simpa using hnm
     rw[this];simp only[Bool.not_false,if_true];refine AA ?_;refine T4 (AB ⟨rfl,?_⟩);rw[<-e2];exact h
 case fin=>
  rintro c s' ⟨rfl,rfl,us',ws',xs',ys',k,e,i1,i2,e2,e3⟩;refine ⟨rfl,?_⟩;dsimp only;have key:Aa xs ys=decide (us.size<ws.size):=by
   rw[e2];cases i1 with
   |nil=>
    cases i2 with
    |nil=>simp at e3;simp[Aa,e3]
    |cons m u i2=>simp at e3;simp[Aa];omega
   |cons n t i1=>
    cases i2 with
    |nil=>simp at e3;simp[Aa];omega
    |cons m u i2=>simp at e
  rw[<-key];exact h
 case post=>
  rintro ⟨c1,c2⟩ s' ⟨rfl,q⟩;dsimp only at q ⊢;cases c1 with
  |some b=>exact AB q
  |none=>exact AB q
theorem NU:∀ ds:List (Int × Tok),IntsAre (ds.map λp=> .int p.1 p.2) (ds.map (·.1))
 |[]=> .nil
 |p::ds=> .cons p.1 p.2 (NU ds)
def Sy (hv:BW s.heap v (x::xs)) (h:∀ t,Q (some (.int x t)) s):wpAny (model prog w) A (firstOfTuple' v) Q E s:=by
 obtain ⟨a,o1,us,n1,rfl,h1,h2,h3,h4⟩:=hv;refine AA (wpAny_typeOf (T := "tuple") ⟨o1,h1,h2⟩ ?_);rw[AE (by decide)];refine AA (listItems_at h1 h3 (AB ?_));obtain ⟨us⟩:=us;cases h4 with
 |cons n t i=>exact h t
theorem Qu:∀ {vs:Yf} {Q:List (Option Value)->Shared->Prop},(∀ v∈vs,∃ x xs,BW s.heap v (x::xs))->(∀ ds:List (Int × Tok),ds.length=vs.length->Q (ds.map λp=>some (.int p.1 p.2)) s)->wpAny (model prog w) A (vs.mapM firstOfTuple') Q E s
 |[],Q,_,q=>by rw[List.mapM_nil];exact AB (q [] rfl)
 |v::vs,Q,h,q=>by
  rw[List.mapM_cons];obtain ⟨x,xs,hv⟩:=h v (AW ..);refine AA (Sy hv λt=>AA (Qu (λu hu=>h u (Am _ hu)) λds hl=>AB ?_));exact q ((x,t)::ds) (by simp[hl])
def dF (h:∀ u∈v::vs,∃ x xs,BW s.heap u (x::xs)) (q:Q (tuples' true) s):wpAny (model prog w) A (keyKind' (v::vs).toArray) Q E s:=by
 rw[keyKind'_eq,List.mapM_toArray];refine AA ?_;show wpAny _ _ (List.toArray <$> (v::vs).mapM firstOfTuple') _ _ _;rw[map_eq_pure_bind];refine AA (Qu h λds hl=>AB ?_);rw[AD (by simp)];refine AA (Ca ?_);have e:Array.filterMap id (List.map (λp=>some (Value.int p.1 p.2)) ds).toArray=(ds.map λp=>Value.int p.1 p.2).toArray:=by
  rw[List.filterMap_toArray,List.filterMap_map];exact BV List.toArray (List.filterMap_eq_map' (f:=λp:Int × Tok=>Value.int p.1 p.2)▸rfl)
 rw[e,oneTypeOnly'_eq,List.mapM_toArray,mapM_typeOf_ints (NU ds)];cases ds with
 |nil=>cases hl
 |cons d ds=>
  have hall:((List.map (λ_=>Value.type "int") (List.map (λp:Int × Tok=>Value.int p.1 p.2) (d::ds))).toArray.all λx=>x==Value.type "int")=true:=by
   simp only[List.all_toArray,List.all_map,Ab];intro _ _;rfl
  have h0:(List.map (λ_=>Value.type "int") (List.map (λp:Int × Tok=>Value.int p.1 p.2) (d::ds))).toArray[0]?=some (Value.type "int"):=by simp
  simp only[map_pure,pure_bind];rw[h0];simp only[hall,if_true,pure_bind];exact AB q
end
theorem Kc:∀ x:List Int,Aa x x=false
 |[]=>rfl
 |a::x=>by rw[show Aa (a::x) (a::x)=if a=a then Aa x x else decide (a<a)from rfl,AD rfl];exact Kc x
def MN (a b:Int) (x y:Ye):Aa (a::x) (b::y)=if a=b then Aa x y else decide (a<b):=rfl
theorem IQ:∀ {x y:Ye},Aa x y=false->Aa y x=false->x=y
 |[],[],_,_=>rfl
 |[],_::_,h,_=>by cases h
 |_::_,[],_,h=>by cases h
 |a::x,b::y,h1,h2=>by
  rw[MN]at h1 h2;by_cases e:a=b
  .subst e;rw[AD rfl]at h1 h2;rw[IQ h1 h2]
  .rw[AE e]at h1;rw[AE (Ne.symm e)]at h2;have:=of_decide_eq_false h1;have:=of_decide_eq_false h2;omega
theorem IE:∀ {x y z:Ye},Aa x y=true->Aa y z=true->Aa x z=true
 |[],[],_,h,_=>by cases h
 |_::_,[],_,h,_=>by cases h
 |_,_::_,[],_,h=>by cases h
 |[],_::_,_::_,_,_=>rfl
 |a::x,b::y,c::z,h1,h2=>by
  rw[MN]at h1 h2 ⊢;by_cases e:a=b
  .subst e;rw[AD rfl]at h1;by_cases e2:a=c
   .rw[AD e2]at h2 ⊢;exact IE h1 h2
   .rw[AE e2]at h2 ⊢;exact h2
  .rw[AE e]at h1;have l1:=Bv h1;by_cases e2:b=c
   .subst e2;rw[AE e];exact h1
   .rw[AE e2]at h2;have l2:=Bv h2;rw[AE (by omega)];exact Af (by omega)
noncomputable def rkI (ks:Ya) (k:Ye):Nat:=ks.countP λa=>Aa a k
theorem Ml {α:Type} {p q:α->Bool}:∀ {l:List α} {x:α},x∈l->p x=false->q x=true->(∀ y,p y=true->q y=true)->l.countP p<l.countP q
 |[],_,h,_,_,_=>by cases h
 |y::l,x,h,h1,h2,h3=>by
  have hm:l.countP p<=l.countP q:=List.countP_mono_left λz _ hz=>h3 z hz;rw[List.countP_cons,List.countP_cons];rcases AL.mp h with rfl|h
  .rw[h1,h2];simp;omega
  .have:=Ml h h1 h2 h3;cases hp:p y with
   |true=>rw[h3 y hp];simp;omega
   |false=>cases q y <;> simp <;> omega
def OV {ks:Ya} {x y:Ye} (hx:x∈ks) (hy:y∈ks):Aa x y=decide (rkI ks x<rkI ks y):=by
 have go:∀ {x y:Ye},x∈ks->Aa x y=true->rkI ks x<rkI ks y:=λ{x y} hx h=>
  Ml hx (Kc x) h λz hz=>IE hz h
 cases e:Aa x y with
 |true=>exact (Af (go hx e)).symm
 |false=>
  cases e2:Aa y x with
  |true=>have:=go hy e2;exact (AS (by omega)).symm
  |false=>rw[IQ e e2];exact (AS (by omega)).symm
section
variable {prog:Ym} {w:Yo} {A:Yn} {E:Yc} {s:Yl} {κ:SortKind} {vs:Yf}
def BW.uniq (a:BW h v xs) (b:BW h v ys):xs=ys:=by
 obtain ⟨b1,o1,us,n1,rfl,h1,h2,h3,h4⟩:=a;obtain ⟨b2,o2,ws,n2,e,g1,g2,g3,g4⟩:=b;cases e;rw[h1]at g1;cases g1;rw[h3]at g3;cases g3;rw[<-h4.nums,<-g4.nums]
open Classical in
noncomputable def CA (h:Heap) (v:Yu):List Int:=if z:∃ xs,BW h v xs then z.choose else []
def Ex (t:BW h v xs):CA h v=xs:=by
 unfold CA;rw[dif_pos ⟨xs,t⟩];exact BW.uniq (Classical.choose_spec (⟨xs,t⟩:∃ xs,BW h v xs)) t
def Kp (h:Heap) (vs:Yf):Prop:=∀ v∈vs,∃ x xs,BW h v (x::xs)
noncomputable def rkV (h:Heap) (vs:Yf) (v:Yu):Nat:=rkI (vs.map (CA h)) (CA h v)
def Uo (h:Kp s.heap vs):Cc prog w s (tuples' true) vs (rkV s.heap vs):=by
 intro A E x y Q hx hy q;obtain ⟨a,as,ha⟩:=h x hx;obtain ⟨b,bs,hb⟩:=h y hy;refine Rm ha hb ?_;rw[<-Ex ha,<-Ex hb,OV (ks:=vs.map (CA s.heap)) (List.mem_map_of_mem hx) (List.mem_map_of_mem hy)];exact q
def XS {F:Array Value->Prop} {a:Addr} {n:Nat} {P:Fin->Shared->Prop} (ho:s.heap.get? a=some (seqObj "list" vs.toArray n)) (hz:vs.length<=sizeLine)
  (hF:∀ out,F out->out.size=vs.length) (hs:vs.length<2->F vs.toArray)
  (hr:2<=vs.length -> ∀ h6:Heap,(∀ b o,b≠a->s.heap.get? b=some o->h6.get? b=some o)->(∀ (A:Yn) (E:Yc) (Q:SortKind->Shared->Prop),Q κ { s with heap:=h6 }->wpAny (model prog w) A (keyKind' vs.toArray) Q E { s with heap:=h6 }) /\
   ∀ (A:Yn) (E:Yc),wpS (model prog w) A E { s with heap:=h6 } sortRuns' (λ_ st=>failedOf st=none/\F ((arrOf st).map (·.2))) (SortSt.mk' κ (pairsOf vs) #[] 7 none))
  (h:∀ out,F out->P (.done (.ret .none)) { s with heap:=sortedHeap s.heap a vs out }):wpAny (model prog w) A (Builtin.«list.sort» ⟨[.ref a],[]⟩) P E s:=by
 have ha:a<s.heap.objs.size:=AI ho;rw[list_sort_plain];refine AA (listItems_at ho rfl (AA (listUpdate_at ho rfl ?_ (hsz:=by simpa using hz))));obtain ⟨e1,o1⟩:∃ e,(s.heap.update a (Obj.mapSeq λ_=> #[])).get? a=some (seqObj "list" #[] e):=⟨_,get?_update_seq ho λ_=> #[]⟩;refine AA (seqEpoch_at o1 rfl (AA (wpAny_newTuple ?_ (by simpa using hz))));refine AA (wpAny_newList (Bw ?_));generalize hH:((s.heap.update a (Obj.mapSeq λ_=> #[])).push (seqObj "tuple" vs.toArray 0)).push (seqObj "list" #[] 0)=h6;have k6:∀ b o,b≠a->s.heap.get? b=some o->h6.get? b=some o:=λb o hb e=>by
  rw[<-hH];exact AH _ (AH _ ((EC _ _ (Ne.symm hb)).trans e))
 have o6:h6.get? a=some (seqObj "list" #[] e1):=by rw[<-hH];exact AH _ (AH _ o1)
 have fin:∀ st:SortSt,failedOf st=none->F ((arrOf st).map (·.2))->wpAny (model prog w) A (do
   let t:=(<- seqEpoch a) != e1;Builtin.List.listUpdate (.ref a) λ_=>(arrOf st).map (·.2);if let some e:=failedOf st then rule "list.sort.comparison-raised"; throw e
   if t then rule "list.sort.modified"; raiseError "ValueError" "list modified during sort"
   ret .none) P E { s with heap:=h6 }:=by
  intro st h1 h2;refine AA (seqEpoch_at o6 rfl (AA (listUpdate_at o6 rfl ?_ (hsz2:=by show (Array.map _ _).size<=_;rw[hF _ h2];omega))));rw[h1];simp only[bne_self_eq_false,Ck,if_false];refine AB ?_;have:=h _ h2;unfold sortedHeap at this;rw[hH]at this;exact this
 dsimp only;by_cases h2:vs.toArray.size<2
 .rw[AD h2,AD h2];refine AA (AB ?_);rw[StateT.run_pure];refine AA (AB ?_);refine fin (SortSt.mk' general' (vs.toArray.zip vs.toArray) #[] 7 none) rfl ?_;have e:((vs.toArray.zip vs.toArray).map (·.2))=vs.toArray:=by
   apply Array.toList_inj.mp;rw[Array.toList_map,Array.toList_zip,List.map_snd_zip (AF _)]
  show F ((vs.toArray.zip vs.toArray).map (·.2));rw[e];exact hs (by simpa using h2)
 .rw[AE h2,AE h2];obtain ⟨g1,g2⟩:=hr (by simp at h2;omega) h6 k6;refine AA (g1 _ _ _ ?_);refine AA (Ar (g2 _ _) ?_ λ_ _ e=>e);rintro ⟨⟨⟩,st⟩ s' ⟨rfl,h3,h4⟩;exact fin st h3 h4
def dG (K:PySem.W.KdlSrc prog w T r d n P OK) (hh:A.handled=none) (hok:OK s.heap) (hSr:S≠r) (hSd:S≠d) (hS:s.heap.get? S=some { cls:=.type "list", data:=.seq #[] })
  (hR:∀ h' tk acc c',(∀ b u,b≠S->s.heap.get? b=some u->h'.get? b=some u)->h'.get? S=some { cls:=.type "list", dict:=none,data:=.seq acc c',slots:=#[] }->ItemsOf P acc n->R (.ok (.ret (.ref S))) { s with heap:=h',toks:=tk }) (hn:n<=sizeLine):codeAny (model prog w) A (.builtin "list.__iadd__" ⟨[.ref S,.ref r],[]⟩) R s:=by
 refine C1 F.entry_list_iadd ?_;rw[Dv F.plain_list_iadd _];exact PySem.W.kdl_extend K hh hok S hSr hSd (.ref S) 0 hS hR hn
def eI (K:PySem.W.KdlSrc prog w T r d n P OK) (hh:A.handled=none) (hok:OK s.heap) (hn:n<=sizeLine)
  (hQ:∀ h' tk acc,(∀ b u,s.heap.get? b=some u->h'.get? b=some u)->s.heap.objs.size<=h'.objs.size->ItemsOf P acc n->Q acc.toList { s with heap:=h',toks:=tk }):wpAny (model prog w) A (collect (.ref r)) Q E s:=by
 unfold collect;refine AA (wpAny_runValue (C1 F.entry_proto_collect ?_));rw[Dv F.plain_proto_collect _];show wpAny _ A.in1 (newList [] >>= λl=>again (.builtin "list.__iadd__" ⟨[l,.ref r],[]⟩)) _ _ s;have hlt:=K.there _ hok;refine AA (BI (AB ⟨plainId_quiet F.plain_list_iadd _,dG (s:={ s with heap:=s.heap.push { cls:=.type "list", data:=.seq ([]:List Value).toArray } }) K hh (K.keep _ _ hok λb _ o e=>AH _ e) (Dc hlt.1) (Dc hlt.2) (AN _ rfl) (λh' tk acc c' hk hS' hacc=>?_) hn⟩));show wpAny _ A (load s.heap.objs.size >>= _) _ _ { s with heap:=h',toks:=tk };exact AA (wpAny_load (s:={ s with heap:=h',toks:=tk }) hS' (AB (hQ h' tk acc (λb u e=>hk b u (AX (AI e)) (AH _ e)) (CP (AI hS')) hacc)))
end
end ST
namespace L3
open L2 ST
noncomputable def kkI (xs:Ye):List Key:=xs.map .inl
noncomputable def S5:D->Option (List Int)
 |.tup ds=>BC ds
 |_=>none
noncomputable def Gh:List D->Option (List (List Int))
 |[]=>some []
 |d::r=>match S5 d,Gh r with
  |some x,some xs=>some (x::xs)
  |_,_=>none
theorem LO:∀ {ds:List D} {xs:Ye},BC ds=some xs->C0 ds=some (kkI xs)
 |[],_,h=>by cases h;rfl
 |.int i::r,xs,h=>by
  unfold BC at h;split at h
  .rename_i bs e;cases h;unfold C0;rw[LO e];rfl
  .cases h
 |.non::_,_,h=>by cases h
 |.bl _::_,_,h=>by cases h
 |.str _::_,_,h=>by cases h
 |.tup _::_,_,h=>by cases h
 |.ref _::_,_,h=>by cases h
 |.fn _ _::_,_,h=>by cases h
theorem Qa:∀ {ps:List (D × D)} {ts:Ya} {kvs:List (List Key × V)},Gh (ps.map (·.1))=some ts->AM tkD L H ps kvs->kvs.map (·.1)=ts.map kkI
 |[],_,_,h,r=>by cases h;unfold AM at r;subst r;rfl
 | (d,e)::ps,ts,kvs,h,r=>by
  rw[Ad]at h;unfold Gh at h;split at h
  .rename_i x xs h1 h2;cases h;obtain ⟨k,v,r',rfl,e1,_,r2⟩:=r;rw[Ad,Ad,Qa h2 r2];cases d with
   |tup ds=>
    have e1':C0 ds=some k:=e1;rw[LO h1]at e1';cases e1';rfl
   |_=>cases h1
  .cases h
theorem Pa:∀ {xs:Ye} {its:Yf},zX ((kkI xs).map kV) its->IntsAre its xs
 |[],_,h=>by cases h;exact .nil
 |x::xs,_,h=>by
  cases h with
  |cons r1 r2=>obtain ⟨t,rfl⟩:=r1;exact .cons _ _ (Pa r2)
section
variable {X:Cx}
def VH (o:zr P w H h b (.tup ((kkI xs).map kV))):BW h (.ref b) xs:=by
 obtain ⟨_,its,r,o,e,c,⟨n,d⟩,_⟩:=o;exact ⟨b,o,its.toArray,n,rfl,e,c,d,by simpa using Pa r⟩
end
end L3
namespace ST
noncomputable def NV:Bool->Keyed->Array Keyed->Nat->Nat->Nat->StateT SortSt Sem (Option Nat):=sortPriv% PySem.Builtin.gallop
noncomputable def Rq:Array Keyed->Array Keyed->StateT SortSt Sem (Array Keyed):=sortPriv% PySem.Builtin.mergeLo
noncomputable def VU:Array Keyed->Array Keyed->StateT SortSt Sem (Array Keyed):=sortPriv% PySem.Builtin.mergeHi
section
variable {prog:Ym} {w:Yo} {A:Yn} {E:Yc} {s:Yl} {κ:SortKind} {vs:Yf} {r:Yr}
def zn {arr:Array Keyed} {i:Nat} {p:Keyed} {st:SortSt} {Q:Keyed->SortSt->Prop} (h:arr[i]?=some p) (q:Q p st):wpS (model prog w) A E s (elem' arr i) Q st:=by
 rw[elem'_eq,h];exact wpS_pure q
noncomputable def KQ (bey:Nat->StateT SortSt Sem (Option Bool)) (n a0 b0:Nat):StateT SortSt Sem (Option Nat):=do
 let mut a:=a0
 let mut b:=b0
 for _ in [0:n] do
  if a≥b then break
  let m:=a+(b-a) / 2
  let some up <- bey m|return none
  if up then a:=m+1 else b:=m
 return some b
def cW {bey:Nat->StateT SortSt Sem (Option Bool)} {b:Nat->Bool} {n lo hi:Nat} {st:SortSt} {Q:Option Nat->SortSt->Prop} (hb:∀ i,i<n -> ∀ Q':Option Bool->SortSt->Prop,Q' (some (b i)) st->wpS (model prog w) A E s (bey i) Q' st)
  (mono:∀ i j,i<=j->j<n->b j=true->b i=true) (hlo:lo<=hi) (hhi:hi<=n) (h1:∀ i,i<lo->b i=true) (h2:∀ i,hi<=i->i<n->b i=false)
  (h:∀ k,k<=n->(∀ i,i<k->b i=true)->(∀ i,k<=i->i<n->b i=false)->Q (some k) st):wpS (model prog w) A E s (KQ bey n lo hi) Q st:=by
 unfold KQ;refine wpS_bind (wpS_mono (wpS_forRange (I:=λx c st'=>st'=st /\ ∃ lo hi,c=(none,lo,hi)/\lo<=hi/\hi<=n/\hi-lo<=n-x/\(∀ i,i<lo->b i=true)/\(∀ i,hi<=i->i<n->b i=false)) (Q:=λc st'=>st'=st /\ ∃ k,c=(none,k,k)/\k<=n/\(∀ i,i<k->b i=true)/\(∀ i,k<=i->i<n->b i=false)) ?step ?fin ⟨rfl,lo,hi,rfl,hlo,hhi,by omega,h1,h2⟩) ?post)
 case step=>
  rintro x c st' _ hx ⟨rfl,lo,hi,rfl,q1,q2,q3,q4,q5⟩;dsimp only;by_cases hge:lo≥hi
  .rw[AD hge];have:lo=hi:=by omega
   subst this;exact wpS_pure ⟨rfl,lo,rfl,q2,q4,q5⟩
  .rw[AE hge];refine wpS_bind (hb _ (by omega) _ ?_);dsimp only;cases e:b (lo+(hi-lo) / 2) with
   |true=>
    rw[AD rfl];exact wpS_pure ⟨rfl,_,_,rfl,by omega,q2,by omega,λi hi'=>mono i _ (by omega) (by omega) e,q5⟩
   |false=>
    rw[AE (by decide)];refine wpS_pure ⟨rfl,_,_,rfl,by omega,by omega,by omega,q4,λi h3 h4=>?_⟩;cases e2:b i with
    |false=>rfl
    |true=>rw[mono _ i h3 h4 e2]at e;cases e
 case fin=>
  rintro c st' ⟨rfl,lo,hi,rfl,q1,q2,q3,q4,q5⟩;have:lo=hi:=by omega
  subst this;exact ⟨rfl,lo,rfl,q2,q4,q5⟩
 case post=>
  rintro c st' ⟨rfl,k,rfl,q2,q4,q5⟩;exact wpS_pure (h k q2 q4 q5)
def SI {left:Bool} {key:Keyed} {arr:Array Keyed} {base n hint:Nat} {b:Nat->Bool} {st:SortSt} {Q:Option Nat->SortSt->Prop} (hh:hint<n)
  (hb:∀ i,i<n -> ∀ Q':Option Bool->SortSt->Prop,Q' (some (b i)) st->wpS (model prog w) A E s (do let x <- elem' arr (base+i);if left=true then lt' x key else do let y <- lt' key x;pure (y.map (!·))) Q' st)
  (mono:∀ i j,i<=j->j<n->b j=true->b i=true)
  (h:∀ k,k<=n->(∀ i,i<k->b i=true)->(∀ i,k<=i->i<n->b i=false)->Q (some k) st):wpS (model prog w) A E s (NV left key arr base n hint) Q st:=by
 have no:∀ {i j},i<=j->j<n->b i=false->b j=false:=λ{i j} h1 h2 e=>by
  cases e2:b j with
  |false=>rfl
  |true=>rw[mono i j h1 h2 e2]at e;cases e
 have go:∀ lo hi,lo<=hi->hi<=n->(∀ i,i<lo->b i=true)->(∀ i,hi<=i->i<n->b i=false)->wpS (model prog w) A E s (KQ (λi=>do let x <- elem' arr (base+i);if left=true then lt' x key else do let y <- lt' key x;pure (y.map (!·))) n lo hi) Q st :=
  λlo hi a1 a2 a3 a4=>cW hb mono a1 a2 a3 a4 h
 refine wpS_bind (hb hint hh _ ?_);cases e:b hint with
 |true=>
  refine wpS_bind (wpS_mono (wpS_forRange (I:=λx c st'=>st'=st /\ ∃ la of,c=(none,la,of)/\la<of/\x+1<=of/\la<n-hint/\b (hint+la)=true) (Q:=λc st'=>st'=st /\ ∃ la of,c=(none,la,of)/\la<of/\la<n-hint/\b (hint+la)=true/\(n-hint<=of\/b (hint+of)=false)) ?step ?fin ⟨rfl,0,1,rfl,by omega,by omega,by omega,e⟩) ?post)
  case step=>
   rintro x c st' _ hx ⟨rfl,la,of,rfl,q1,q2,q3,q4⟩;dsimp only;by_cases hge:of≥n-hint
   .rw[AD hge];exact wpS_pure ⟨rfl,la,of,rfl,q1,q3,q4,.inl hge⟩
   .rw[AE hge];refine wpS_bind (hb _ (by omega) _ ?_);dsimp only;cases e2:b (hint+of) with
    |true=>
     rw[AE (by decide)];exact wpS_pure ⟨rfl,of,2*of+1,rfl,by omega,by omega,by omega,e2⟩
    |false=>
     rw[AD (by decide)];exact wpS_pure ⟨rfl,la,of,rfl,q1,q3,q4,.inr e2⟩
  case fin=>
   rintro c st' ⟨rfl,la,of,rfl,q1,q2,q3,q4⟩;exact ⟨rfl,la,of,rfl,q1,q3,q4,.inl (by omega)⟩
  case post=>
   rintro c st' ⟨rfl,la,of,rfl,q1,q3,q4,q5⟩;refine go (hint+la+1) (hint+min of (n-hint)) (by omega) (by omega) (λi hi=>mono i (hint+la) (by omega) (by omega) q4) (λi h1 h2=>?_);rcases q5 with q5|q5
   .omega
   .by_cases hc:n-hint<=of
    .omega
    .exact no (i:=hint+of) (by omega) h2 q5
 |false=>
  refine wpS_bind (wpS_mono (wpS_forRange (I:=λx c st'=>st'=st /\ ∃ la of,c=(none,la,of)/\la<of/\x+1<=of/\la<hint+1/\b (hint-la)=false) (Q:=λc st'=>st'=st /\ ∃ la of,c=(none,la,of)/\la<of/\la<hint+1/\b (hint-la)=false/\(hint+1<=of\/b (hint-of)=true)) ?step ?fin ⟨rfl,0,1,rfl,by omega,by omega,by omega,e⟩) ?post)
  case step=>
   rintro x c st' _ hx ⟨rfl,la,of,rfl,q1,q2,q3,q4⟩;dsimp only;by_cases hge:of≥hint+1
   .rw[AD hge];exact wpS_pure ⟨rfl,la,of,rfl,q1,q3,q4,.inl hge⟩
   .rw[AE hge];refine wpS_bind (hb _ (by omega) _ ?_);dsimp only;cases e2:b (hint-of) with
    |true=>
     rw[AD rfl];exact wpS_pure ⟨rfl,la,of,rfl,q1,q3,q4,.inr e2⟩
    |false=>
     rw[AE (by decide)];exact wpS_pure ⟨rfl,of,2*of+1,rfl,by omega,by omega,by omega,e2⟩
  case fin=>
   rintro c st' ⟨rfl,la,of,rfl,q1,q2,q3,q4⟩;exact ⟨rfl,la,of,rfl,q1,q3,q4,.inl (by omega)⟩
  case post=>
   rintro c st' ⟨rfl,la,of,rfl,q1,q3,q4,q5⟩;refine go (hint+1-min of (hint+1)) (hint-la) (by omega) (by omega) (λi hi=>?_) (λi h1 h2=>no (i:=hint-la) (by omega) h2 q4);rcases q5 with q5|q5
   .omega
   .by_cases hc:hint+1<=of
    .omega
    .exact mono i (hint-of) (by omega) (by omega) q5
end
structure MI (le:Keyed->Keyed->Prop) (C out l m:List Keyed):Prop where
 perm:(out++(l++m)).Perm C
 so:out.Pairwise le
 sl:l.Pairwise le
 sm:m.Pairwise le
 ol:∀ x∈out,∀ y∈l,le x y
 om:∀ x∈out,∀ y∈m,le x y
section
variable {le:Keyed->Keyed->Prop} {C out l m p:List Keyed}
def MI.takeL (h:MI le C out (p++l) m) (hp:∀ x∈p,∀ y∈m,le x y):MI le C (out++p) l m:=by
 have sl:=List.pairwise_append.mp h.sl;refine ⟨by have:=h.perm;simpa using this,List.pairwise_append.mpr ⟨h.so,sl.1,λx hx y hy=>h.ol x hx y (E4 _ hy)⟩,sl.2.1,h.sm,λx hx y hy=>?_,λx hx y hy=>?_⟩
 .rcases AV.mp hx with z|z
  .exact h.ol x z y (Bg _ hy)
  .exact sl.2.2 x z y hy
 .rcases AV.mp hx with z|z
  .exact h.om x z y hy
  .exact hp x z y hy
def MI.takeR (h:MI le C out l (p++m)) (hp:∀ x∈p,∀ y∈l,le x y):MI le C (out++p) l m:=by
 have sm:=List.pairwise_append.mp h.sm;refine ⟨?_,List.pairwise_append.mpr ⟨h.so,sm.1,λx hx y hy=>h.om x hx y (E4 _ hy)⟩,h.sl,sm.2.1,λx hx y hy=>?_,λx hx y hy=>?_⟩
 .refine List.Perm.trans ?_ h.perm;rw[Bu];refine List.Perm.append_left _ ?_;rw[<-Bu,<-Bu];exact List.Perm.append_right _ List.perm_append_comm
 .rcases AV.mp hx with z|z
  .exact h.ol x z y hy
  .exact hp x z y hy
 .rcases AV.mp hx with z|z
  .exact h.om x z y (Bg _ hy)
  .exact sm.2.2 x z y hy
def Mgd (le:Keyed->Keyed->Prop) (C:List Keyed) (out:List Keyed):Prop:=out.Perm C/\out.Pairwise le
def MI.endL (h:MI le C out l []):Mgd le C (out++l):=⟨by have:=h.perm;simpa using this,List.pairwise_append.mpr ⟨h.so,h.sl,h.ol⟩⟩
def MI.endR (h:MI le C out [] m):Mgd le C (out++m):=⟨by have:=h.perm;simpa using this,List.pairwise_append.mpr ⟨h.so,h.sm,h.om⟩⟩
def MI.last (h:MI le C out l m) (hl:∀ y∈m,∀ x∈l,le y x):Mgd le C (out++m++l):=by
 have h2:MI le C (out++m) l []:=MI.takeR (p:=m) (m:=[]) (by simpa using h) hl;exact h2.endL
end
section
variable {prog:Ym} {w:Yo} {A:Yn} {E:Yc} {s:Yl} {κ:SortKind} {vs:Yf} {r:Yr}
abbrev leR (r:Yr) (x y:Keyed):Prop:=r x.1<=r y.1
abbrev geR (r:Yr) (x y:Keyed):Prop:=r y.1<=r x.1
structure SameS (st st':SortSt):Prop where
 k:kindOf st'=kindOf st
 a:arrOf st'=arrOf st
 p:pendingOf st'=pendingOf st
 f:failedOf st'=failedOf st
def SameS.refl (st:SortSt):SameS st st:=⟨rfl,rfl,rfl,rfl⟩
def Gm (R:Cc prog w s κ vs r) {left:Bool} {key:Keyed} {arr:Array Keyed} {base n hint:Nat} {st:SortSt} {Q:Option Nat->SortSt->Prop} (hk:kindOf st=κ) (hkey:key.1∈vs) (harr:∀ i,i<n -> ∃ x,arr[base+i]?=some x/\x.1∈vs)
  (srt:∀ i j x y,i<=j->j<n->arr[base+i]?=some x->arr[base+j]?=some y->r x.1<=r y.1) (hh:hint<n)
  (h:∀ k,k<=n->(∀ i x,i<k->arr[base+i]?=some x->if left then r x.1<r key.1 else r x.1<=r key.1)->(∀ i x,k<=i->i<n->arr[base+i]?=some x->if left then r key.1<=r x.1 else r key.1<r x.1)->Q (some k) st) :
  wpS (model prog w) A E s (NV left key arr base n hint) Q st:=by
 let b:Nat->Bool:=λi=>match arr[base+i]? with
  |some x=>if left then decide (r x.1<r key.1) else decide (r x.1<=r key.1)
  |none=>false
 have bx:∀ {i x},arr[base+i]?=some x->b i=if left then decide (r x.1<r key.1) else decide (r x.1<=r key.1):=λ{i x} e=>by
  show (match arr[base+i]? with|some x=>_|none=>_)=_;rw[e]
 refine SI (b:=b) hh (λi hi Q' q=>?_) (λi j hij hj e=>?_) λk hk h1 h2=>h k hk (λi x hi e=>?_) (λi x hi hn e=>?_)
 .obtain ⟨x,ex,hx⟩:=harr i hi;rw[bx ex]at q;refine wpS_bind (zn ex ?_);cases left with
  |true=>
   rw[AD rfl]at q ⊢;exact HE R hk hx hkey q
  |false=>
   rw[AE (by decide)]at q ⊢;refine wpS_bind (HE R hk hkey hx (wpS_pure ?_));have:(!decide (r key.1<r x.1))=decide (r x.1<=r key.1):=by
    by_cases z:r key.1<r x.1
    .rw[Af z,AS (by omega)];rfl
    .rw[AS z,Af (by omega)];rfl
   show Q' (some (!decide (r key.1<r x.1))) st;rw[this];exact q
 .obtain ⟨x,ex,_⟩:=harr i (by omega);obtain ⟨y,ey,_⟩:=harr j hj;have:=srt i j x y hij hj ex ey;rw[bx ex];rw[bx ey]at e;cases left with
  |true=>rw[AD rfl]at e ⊢;have:=Bv e;exact Af (by omega)
  |false=>rw[AE (by decide)]at e ⊢;have:=Bv e;exact Af (by omega)
 .have q:=h1 i hi;rw[bx e]at q;cases left with
  |true=>rw[AD rfl]at q ⊢;exact Bv q
  |false=>rw[AE (by decide)]at q ⊢;exact Bv q
 .have q:=h2 i hi hn;rw[bx e]at q;cases left with
  |true=>rw[AD rfl]at q ⊢;have:=of_decide_eq_false q;omega
  |false=>rw[AE (by decide)]at q ⊢;have:=of_decide_eq_false q;omega
def ML (r:Yr) (a b out:Array Keyed) (ia ib:Nat):Prop:=MI (leR r) (a.toList++b.toList) out.toList (a.toList.drop ia) (b.toList.drop ib)
variable {a b out:Array Keyed} {ia ib:Nat}
def JW (e:a[i]?=some x):a.toList.drop i=x::a.toList.drop (i+1):=by
 obtain ⟨hi,rfl⟩:=Array.getElem?_eq_some_iff.mp e;rw[List.drop_eq_getElem_cons (by simpa using hi)];simp
def Jd (h:x∈a.toList.drop i):∃ j,i<=j/\a[j]?=some x:=by
 obtain ⟨j,e⟩:=List.mem_iff_getElem?.mp h;rw[List.getElem?_drop,Bb]at e;exact ⟨i+j,by omega,e⟩
def ML.pushB (h:ML r a b out ia ib) (e:b[ib]?=some y) (hy:∀ x∈a.toList.drop ia,r y.1<=r x.1):ML r a b (out.push y) ia (ib+1):=by
 unfold ML at h ⊢;rw[JW e]at h;rw[Array.toList_push];exact MI.takeR (p:=[y]) h λx hx z hz=>by rw[AU.mp hx];exact hy z hz
def ML.pushA (h:ML r a b out ia ib) (e:a[ia]?=some x) (hx:∀ y∈b.toList.drop ib,r x.1<=r y.1):ML r a b (out.push x) (ia+1) ib:=by
 unfold ML at h ⊢;rw[JW e]at h;rw[Array.toList_push];exact MI.takeL (p:=[x]) h λy hy z hz=>by rw[AU.mp hy];exact hx z hz
def Jo (a:Array Keyed) (i k:Nat):(a.extract i (i+k)).toList=(a.toList.drop i).take k:=by
 rw[Array.toList_extract,List.extract_eq_take_drop];simp
def ML.blockA (h:ML r a b out ia ib) (k:Nat) (hx:∀ x∈(a.toList.drop ia).take k,∀ y∈b.toList.drop ib,r x.1<=r y.1):ML r a b (out++a.extract ia (ia+k)) (ia+k) ib:=by
 unfold ML at h ⊢;rw[Array.toList_append,Jo];rw[<-DM k (a.toList.drop ia),List.drop_drop]at h;exact MI.takeL h hx
def ML.blockB (h:ML r a b out ia ib) (k:Nat) (hx:∀ x∈(b.toList.drop ib).take k,∀ y∈a.toList.drop ia,r x.1<=r y.1):ML r a b (out++b.extract ib (ib+k)) ia (ib+k):=by
 unfold ML at h ⊢;rw[Array.toList_append,Jo];rw[<-DM k (b.toList.drop ib),List.drop_drop]at h;exact MI.takeR h hx
def IG (a:Array Keyed) (i:Nat):(a.extract i a.size).toList=a.toList.drop i:=by
 rw[Array.toList_extract,List.extract_eq_take_drop,GL (by simp)]
def ML.done (h:ML r a b out ia ib) (e:a.size<=ia\/b.size<=ib):Mgd (leR r) (a.toList++b.toList) (out++a.extract ia a.size++b.extract ib b.size).toList:=by
 unfold ML at h;rw[Array.toList_append,Array.toList_append,IG,IG];rcases e with e|e
 .rw[List.drop_eq_nil_of_le (by simpa using e)]at h ⊢;simpa using h.endR
 .rw[List.drop_eq_nil_of_le (as:=b.toList) (by simpa using e)]at h ⊢;simpa using h.endL
def ML.lastA (h:ML r a b out ia ib) (hl:∀ y∈b.toList.drop ib,∀ x∈a.toList.drop ia,r y.1<=r x.1):Mgd (leR r) (a.toList++b.toList) (out++b.extract ib b.size++a.extract ia a.size).toList:=by
 unfold ML at h;rw[Array.toList_append,Array.toList_append,IG,IG];exact h.last hl
def ML.headA (h:ML r a b out ia ib) (e:a[ia]?=some x):∀ z∈a.toList.drop ia,r x.1<=r z.1:=by
 have:=h.sl;rw[JW e]at this ⊢;intro z hz;rcases AL.mp hz with q|q
 .rw[q];exact AF _
 .exact (Cj.mp this).1 z q
def ML.headB (h:ML r a b out ia ib) (e:b[ib]?=some y):∀ z∈b.toList.drop ib,r y.1<=r z.1:=by
 have:=h.sm;rw[JW e]at this ⊢;intro z hz;rcases AL.mp hz with q|q
 .rw[q];exact AF _
 .exact (Cj.mp this).1 z q
end
section
variable {prog:Ym} {w:Yo} {A:Yn} {E:Yc} {s:Yl} {κ:SortKind} {vs:Yf} {r:Yr} {a b:Array Keyed}
structure Fr1 (r:Yr) (a b:Array Keyed) (st st':SortSt) (out:Array Keyed) (ia ib:Nat):Prop where
 m:ML r a b out ia ib
 s:SameS st st'
 ha:ia+1<a.size
 hb:ib<b.size
def Cf {a:Array Keyed} {i:Nat} {x:Keyed} (e:a[i]?=some x):x∈a.toList:=by
 obtain ⟨hi,rfl⟩:=Array.getElem?_eq_some_iff.mp e;simp
def zU {α:Type} {c:Prop} [Decidable c] {m1 m2:StateT SortSt Sem α} {Q:α->SortSt->Prop} {st:SortSt} (h1:c->wpS (model prog w) A E s m1 Q st) (h2:¬ c->wpS (model prog w) A E s m2 Q st):wpS (model prog w) A E s (if c then m1 else m2) Q st:=by
 split
 .exact h1 (by assumption)
 .exact h2 (by assumption)
def EE {a:Array Keyed} (sa:a.toList.Pairwise (leR r)) {i j:Nat} {x y:Keyed} (hij:i<=j) (ex:a[i]?=some x) (ey:a[j]?=some y):r x.1<=r y.1:=by
 by_cases e:i=j
 .subst e;rw[ex]at ey;cases ey;exact AF _
 .obtain ⟨hi,rfl⟩:=Array.getElem?_eq_some_iff.mp ex;obtain ⟨hj,rfl⟩:=Array.getElem?_eq_some_iff.mp ey;have:=List.pairwise_iff_getElem.mp sa i j (by simpa using hi) (by simpa using hj) (by omega);simpa using this
def JR (h:x∈(a.toList.drop i).take k):∃ j,j<k/\a[i+j]?=some x:=by
 obtain ⟨j,e⟩:=List.mem_iff_getElem?.mp h;rw[List.getElem?_take]at e;split at e
 .rw[List.getElem?_drop,Bb]at e;exact ⟨j,by assumption,e⟩
 .cases e
def BP (h:i<a.size):a[i]?=some a[i]:=DC h
def Al {α β:Type} {x:StateT SortSt Sem α} {f:α->StateT SortSt Sem β} {Q:β->SortSt->Prop} {st:SortSt} {S:(α->SortSt->Prop)->Prop} (h:∀ P,S P->wpS (model prog w) A E s x P st) (g:S λv st=>wpS (model prog w) A E s (f v) Q st):wpS (model prog w) A E s (x >>= f) Q st:=wpS_bind (h _ g)
set_option maxHeartbeats 4000000 in
def Va (R:Cc prog w s κ vs r) (ha:∀ x∈a.toList,x.1∈vs) (hb:∀ x∈b.toList,x.1∈vs) (sa:a.toList.Pairwise (leR r)) (sb:b.toList.Pairwise (leR r)) (h0:0<a.size) (h1:0<b.size)
  (hf:∀ y,b[0]?=some y -> ∀ x∈a.toList,r y.1<=r x.1) (hl:∀ y∈b.toList,∀ x,a[a.size-1]?=some x->r y.1<=r x.1) {st:SortSt} (hk:kindOf st=κ) {Q:Array Keyed->SortSt->Prop}
  (h:∀ out st',SameS st st'->Mgd (leR r) (a.toList++b.toList) out.toList->Q out st'):wpS (model prog w) A E s (Rq a b) Q st:=by
 have lastA:∀ {out ia ib},ML r a b out ia ib->ia+1=a.size->Mgd (leR r) (a.toList++b.toList) (out++b.extract ib b.size++a.extract ia a.size).toList:=λ{out ia ib} m e=>m.lastA λy hy x hx=>by
  obtain ⟨j,hj,ej⟩:=Jd hx;have hj2:=(Array.getElem?_eq_some_iff.mp ej).1;exact hl y (Em hy) x (by rw[show a.size-1=j by omega];exact ej)
 refine Al (λP g=>wpS_lift (Ca ⟨rfl,g⟩)) ?_;refine Al (λP g=>zn (BP h1) g) ?_;have m0:ML r a b #[] 0 0:=⟨List.Perm.refl _,.nil,sa,sb,(λx hx=>absurd hx (by simp)),(λx hx=>absurd hx (by simp))⟩;have m1:ML r a b #[b[0]] 0 1:=m0.pushB (BP h1) (hf _ (BP h1));refine zU (λc1=>wpS_pure (h _ _ (.refl _) (m1.done (.inr (Nat.le_of_eq (show b.size=1 by simpa using (by simpa using c1:1=b.size).symm)))))) (λc1=>?_);refine zU (λc2=>wpS_pure (h _ _ (.refl _) (lastA m1 (by simpa using c2)))) (λc2=>?_);replace c1:¬ 1=b.size:=by simpa using c1
 replace c2:¬ 0+1=a.size:=by simpa using c2
 refine Al (λP g=>wpS_get g) ?_;refine wpS_bind (wpS_mono (wpS_forRange (I:=λx c st'=>∃ out ia ib g,c=(none,out,ia,ib,g)/\Fr1 r a b st st' out ia ib/\x+1<=ia+ib) (Q:=λc st'=>∃ res,c.1=some res/\SameS st st'/\Mgd (leR r) (a.toList++b.toList) res.toList) ?step ?fin ⟨_,_,_,_,rfl,⟨m1,.refl _,by omega,by omega⟩,by omega⟩) ?post)
 case fin=>
  intro c st' hI;refine Classical.byContradiction λG=>?_;obtain ⟨out,ia,ib,g,eI1,f,hx⟩:=hI;refine G ?_;clear G;subst eI1;have:=f.ha;have:=f.hb;omega
 case post=>
  rintro ⟨c1,c2⟩ st' ⟨res,e,hs,hm⟩;dsimp only at e;subst e;exact wpS_pure (h _ _ hs hm)
 case step=>
  intro x c st' _ hx hI;refine Classical.byContradiction λG=>?_;obtain ⟨out,ia,ib,g,eI1,f,hx2⟩:=hI;refine G ?_;clear G;subst eI1;dsimp only;refine Al (λP=>wpS_mono (wpS_forRange (I:=λy c st'=>∃ out2 ia2 ib2 ca cb,c=(none,out2,ia2,ib2,ca,cb)/\Fr1 r a b st st' out2 ia2 ib2/\ia+ib+y<=ia2+ib2) (Q:=λc st'=>(∃ res,c.1=some res/\SameS st st'/\Mgd (leR r) (a.toList++b.toList) res.toList) \/ ∃ out2 ia2 ib2 ca cb,c=(none,out2,ia2,ib2,ca,cb)/\Fr1 r a b st st' out2 ia2 ib2/\ia+ib+1<=ia2+ib2) ?step1 ?fin1 ⟨_,_,_,_,_,rfl,f,by omega⟩)) ?post1
  case fin1=>
   intro c st' hI;refine Classical.byContradiction λG=>?_;obtain ⟨out2,ia,ib,ca,cb,eI1,f,hy⟩:=hI;refine G ?_;clear G;subst eI1;exact .inr ⟨_,_,_,_,_,rfl,f,by omega⟩
  case step1=>
   intro y c st' _ hy hI;refine Classical.byContradiction λG=>?_;obtain ⟨out2,ia,ib,ca,cb,eI1,f,hy2⟩:=hI;refine G ?_;clear G;subst eI1;dsimp only;have hia:ia<a.size:=by have:=f.ha;omega
   have hib:=f.hb;have eb:b[ib]?=some b[ib]:=BP hib;have ea:a[ia]?=some a[ia]:=BP hia;have hkk:kindOf st'=κ:=f.s.k.trans hk;refine Al (λP g=>zn eb g) (Al (λP g=>zn ea g) (Al (λP g=>HE R hkk (hb _ (Cf eb)) (ha _ (Cf ea)) g) ?_));refine zU (λhlt=>?_) (λhlt=>?_)
   .replace hlt:=Bv hlt;refine Al (λP g=>zn eb g) ?_;have m2:ML r a b (out2.push b[ib]) ia (ib+1):=f.m.pushB eb λz hz=>by have:=f.m.headA ea z hz;omega
    refine zU (λc3=>wpS_pure (.inl ⟨_,rfl,f.s,m2.done (.inr (Nat.le_of_eq (show ib+1=b.size by simpa using c3).symm))⟩)) (λc3=>?_);have f2:Fr1 r a b st st' (out2.push b[ib]) ia (ib+1):=⟨m2,f.s,f.ha,by simp at c3;omega⟩;exact zU (λ_=>wpS_pure (.inr ⟨_,_,_,_,_,rfl,f2,by omega⟩)) (λ_=>wpS_pure ⟨_,_,_,_,_,rfl,f2,by omega⟩)
   .replace hlt:¬ _:=λh=>hlt (Af h);refine Al (λP g=>zn ea g) ?_;have m2:ML r a b (out2.push a[ia]) (ia+1) ib:=f.m.pushA ea λz hz=>by have:=f.m.headB eb z hz;omega
    refine zU (λc3=>wpS_pure (.inl ⟨_,rfl,f.s,lastA m2 (by simpa using c3)⟩)) (λc3=>?_);have f2:Fr1 r a b st st' (out2.push a[ia]) (ia+1) ib:=⟨m2,f.s,by have:=f.ha;simp at c3;omega,f.hb⟩;exact zU (λ_=>wpS_pure (.inr ⟨_,_,_,_,_,rfl,f2,by omega⟩)) (λ_=>wpS_pure ⟨_,_,_,_,_,rfl,f2,by omega⟩)
  case post1=>
   intro c st' hI;refine Classical.byContradiction λG=>?_;obtain ⟨res,e,hs,hm⟩|⟨out2,ia,ib,ca,cb,e,f,hy⟩:=hI
   .obtain ⟨c2,rfl⟩:∃ c2,c=(some res,c2):=⟨c.2,by cases c;cases e;rfl⟩;exact G (wpS_pure ⟨res,rfl,hs,hm⟩)
   .refine G ?_;clear G;subst e;dsimp only;refine Al (λP g=>wpS_lift (Ca ⟨rfl,g⟩)) ?_;refine wpS_bind (wpS_mono (wpS_forRange (I:=λy c st'=>∃ out3 ia3 ib3 g ca cb,c=(none,out3,ia3,ib3,g,ca,cb)/\Fr1 r a b st st' out3 ia3 ib3/\ia+ib<=ia3+ib3) (Q:=λc st'=>(∃ res,c.1=some res/\SameS st st'/\Mgd (leR r) (a.toList++b.toList) res.toList) \/ ∃ out3 ia3 ib3 g ca cb,c=(none,out3,ia3,ib3,g,ca,cb)/\Fr1 r a b st st' out3 ia3 ib3/\ia+ib<=ia3+ib3) ?step2 ?fin2 ⟨_,_,_,_,_,_,rfl,f,by omega⟩) ?post2)
    case fin2=>
     intro c st' hI;refine Classical.byContradiction λG=>?_;obtain ⟨out3,ia,ib,g,ca,cb,eI1,f,hy⟩:=hI;refine G ?_;clear G;subst eI1;exact .inr ⟨_,_,_,_,_,_,rfl,f,hy⟩
    case post2=>
     intro c st' hI;refine Classical.byContradiction λG=>?_;obtain ⟨res,e,hs,hm⟩|⟨out3,ia,ib,g,ca,cb,e,f,hz⟩:=hI
     .obtain ⟨c2,rfl⟩:∃ c2,c=(some res,c2):=⟨c.2,by cases c;cases e;rfl⟩;exact G (wpS_pure ⟨res,rfl,hs,hm⟩)
     .refine G ?_;clear G;subst e;dsimp only;refine wpS_bind (wpS_modify (wpS_pure ⟨_,_,_,_,rfl,⟨f.m,⟨f.s.k,f.s.a,f.s.p,f.s.f⟩,f.ha,f.hb⟩,by omega⟩))
    case step2=>
     intro y c st' _ hy hI;refine Classical.byContradiction λG=>?_;obtain ⟨out3,ia,ib,g,ca,cb,eI1,f,hy2⟩:=hI;refine G ?_;clear G;subst eI1;have hia:ia<a.size:=by have:=f.ha;omega
     have hib:=f.hb;have eb:b[ib]?=some b[ib]:=BP hib;dsimp only;refine zU (λcg=>?_) (λcg=>?_);clear cg;generalize g-1=g';revert g';refine ?K;rotate_left;clear cg;exact ?K _;intro g';refine Al (λP g=>wpS_modify g) ?_;refine Al (λP g=>zn eb g) ?_;have hs2:=f.s;refine Al (λP=>Gm (left:=false) (key:=b[ib]) (arr:=a) (base:=ia) (n:=a.size-ia) (hint:=0) R (hs2.k.trans hk) (hb _ (Cf eb)) (λi hi=>⟨_,BP (by omega),ha _ (Cf (BP (by omega)))⟩) (λi j x y hij hj ex ey=>EE sa (by omega) ex ey) (by omega)) λk hk1 g1 g2=>?_;have aft:∀ x∈a.toList.drop (ia+k),r b[ib].1<=r x.1:=λx hx=>by
      obtain ⟨j,hj,ej⟩:=Jd hx;have hj2:=(Array.getElem?_eq_some_iff.mp ej).1;have:=g2 (j-ia) x (by omega) (by omega) (by rw[show ia+(j-ia)=j by omega];exact ej);exact CP this
     refine zU (λhk0=>?_) (λhk0=>?_);have m4:=f.m.blockA k λx hx z hz=>by
      obtain ⟨i,hi,ei⟩:=JR hx;have:r x.1<=r b[ib].1:=g1 i x hi ei;have:=f.m.headB eb z hz;omega
     refine zU (λc4=>wpS_pure (.inl ⟨_,rfl,⟨hs2.k,hs2.a,hs2.p,hs2.f⟩,lastA m4 (show ia+k+1=a.size by simpa using c4)⟩)) (λc4=>zU (λc5=>wpS_pure (.inl ⟨_,rfl,⟨hs2.k,hs2.a,hs2.p,hs2.f⟩,m4.done (.inl (Nat.le_of_eq (show a.size=ia+k by simpa using (by simpa using c5:ia+k=a.size).symm)))⟩)) (λc5=>?_));have a4:ia+k+1<a.size:=by simp at c4 c5;omega
     have l4:ia<=ia+k:=Nat.le_add_right _ _;clear c4 c5 hk0;generalize out3++a.extract ia (ia+k)=o4 at m4 ⊢;generalize ia+k=i4 at m4 a4 l4 aft ⊢;revert aft;revert l4;revert a4;revert m4;revert i4;revert o4;refine ?K2;rotate_left;have hk00:k=0:=by omega
     exact ?K2 _ _ f.m f.ha (AF _) (λx hx=>aft x (by rw[hk00];exact hx));intro o4 i4 m4 a4 l4 aft;refine Al (λP g=>zn eb g) ?_;have m5:=m4.pushB eb aft;refine zU (λc6=>wpS_pure (.inl ⟨_,rfl,⟨hs2.k,hs2.a,hs2.p,hs2.f⟩,m5.done (.inr (Nat.le_of_eq (show ib+1=b.size by simpa using c6).symm))⟩)) (λc6=>?_);have c6':ib+1<b.size:=by simp at c6;omega
     have ea4:=BP (Nat.lt_of_succ_lt a4);refine Al (λP g=>zn ea4 g) ?_;refine Al (λP=>Gm (left:=true) (arr:=b) (base:=ib+1) (n:=b.size-(ib+1)) (hint:=0) R (hs2.k.trans hk) (ha _ (Cf ea4)) (λi hi=>⟨_,BP (by omega),hb _ (Cf (BP (by omega)))⟩) (λi j x y hij hj ex ey=>EE sb (by omega) ex ey) (by omega)) λk2 hk2 g3 g4=>?_;have aft2:∀ y∈b.toList.drop (ib+1+k2),_<=r y.1:=λy hy=>by
      obtain ⟨j,hj,ej⟩:=Jd hy;have hj2:=(Array.getElem?_eq_some_iff.mp ej).1;exact g4 (j-(ib+1)) y (by omega) (by omega) (by rw[show ib+1+(j-(ib+1))=j by omega];exact ej)
     refine zU (λhk3=>?_) (λhk3=>?_);have m6:=m5.blockB k2 λx hx z hz=>by
      obtain ⟨i,hi,ei⟩:=JR hx;exact CP (Az (g3 i x hi ei) (m5.headA ea4 z hz))
     refine zU (λc7=>wpS_pure (.inl ⟨_,rfl,⟨hs2.k,hs2.a,hs2.p,hs2.f⟩,m6.done (.inr (Nat.le_of_eq (show ib+1+k2=b.size by simpa using c7).symm))⟩)) (λc7=>?_);have b6:ib+1+k2<b.size:=by simp at c7;omega
     have l6:ib+1<=ib+1+k2:=Nat.le_add_right _ _;clear c7 hk3;generalize o4.push b[ib]++b.extract (ib+1) (ib+1+k2)=o6 at m6 ⊢;generalize ib+1+k2=i6 at m6 b6 l6 aft2 ⊢;revert aft2;revert l6;revert b6;revert m6;revert i6;revert o6;refine ?K3;rotate_left;have hk00:k2=0:=by omega
     exact ?K3 _ _ m5 c6' (AF _) (λx hx=>aft2 x (by rw[hk00];exact hx));intro o6 i6 m6 b6 l6 aft2;refine Al (λP g=>zn ea4 g) ?_;have m7:=m6.pushA ea4 aft2;refine zU (λc8=>wpS_pure (.inl ⟨_,rfl,⟨hs2.k,hs2.a,hs2.p,hs2.f⟩,lastA m7 (by simpa using c8)⟩)) (λc8=>?_);have a7:i4+1+1<a.size:=by simp at c8;omega
     have l7:_<=i4+1+i6:=Ak hy2 (by omega);exact zU (λ_=>wpS_pure (.inr ⟨_,_,_,_,_,_,rfl,⟨m7,⟨hs2.k,hs2.a,hs2.p,hs2.f⟩,a7,b6⟩,l7⟩)) (λ_=>wpS_pure ⟨_,_,_,_,_,_,rfl,⟨m7,⟨hs2.k,hs2.a,hs2.p,hs2.f⟩,a7,b6⟩,l7⟩)
end
section
variable {prog:Ym} {w:Yo} {A:Yn} {E:Yc} {s:Yl} {κ:SortKind} {vs:Yf} {r:Yr} {a b out:Array Keyed} {na nb:Nat}
def MH (r:Yr) (a b out:Array Keyed) (na nb:Nat):Prop:=MI (geR r) (a.toList++b.toList) out.toList (a.toList.take na).reverse (b.toList.take nb).reverse
def Qp (e:a[i]?=some x):(a.toList.take (i+1)).reverse=x::(a.toList.take i).reverse:=by
 rw[List.take_add_one,Bb,e];simp
def F0 (h:x∈a.toList.take n):∃ j,j<n/\a[j]?=some x:=by
 obtain ⟨j,e⟩:=List.mem_iff_getElem?.mp h;rw[List.getElem?_take]at e;split at e
 .rw[Bb]at e;exact ⟨j,by assumption,e⟩
 .cases e
def MH.pushA (h:MH r a b out (na+1) nb) (e:a[na]?=some x) (hx:∀ y∈b.toList.take nb,r y.1<=r x.1):MH r a b (out.push x) na nb:=by
 unfold MH at h ⊢;rw[Qp e]at h;rw[Array.toList_push];exact MI.takeL (p:=[x]) h λy hy z hz=>by rw[AU.mp hy];exact hx z (by simpa using hz)
def MH.pushB (h:MH r a b out na (nb+1)) (e:b[nb]?=some y) (hy:∀ x∈a.toList.take na,r x.1<=r y.1):MH r a b (out.push y) na nb:=by
 unfold MH at h ⊢;rw[Qp e]at h;rw[Array.toList_push];exact MI.takeR (p:=[y]) h λx hx z hz=>by rw[AU.mp hx];exact hy z (by simpa using hz)
def Qr (a:Array Keyed) (h:i<=n):(a.toList.take n).reverse=(a.extract i n).reverse.toList++(a.toList.take i).reverse:=by
 rw[Array.toList_reverse,Array.toList_extract,List.extract_eq_take_drop,<-List.reverse_append];congr 1;rw[<-List.drop_take];conv=>lhs;rw[<-DM i (a.toList.take n),List.take_take,Nat.min_eq_left h]
def MH.blockA (h:MH r a b out na nb) (hi:i<=na) (hx:∀ j x,i<=j->j<na->a[j]?=some x -> ∀ y∈b.toList.take nb,r y.1<=r x.1):MH r a b (out++(a.extract i na).reverse) i nb:=by
 unfold MH at h ⊢;rw[Qr a hi]at h;rw[Array.toList_append];refine MI.takeL h λx hx' y hy=>?_;rw[Array.toList_reverse,List.mem_reverse,Array.toList_extract,List.extract_eq_take_drop]at hx';obtain ⟨j,hj,ej⟩:=JR hx';exact hx (i+j) x (by omega) (by omega) ej y (by simpa using hy)
def MH.blockB (h:MH r a b out na nb) (hi:i<=nb) (hx:∀ j x,i<=j->j<nb->b[j]?=some x -> ∀ y∈a.toList.take na,r y.1<=r x.1):MH r a b (out++(b.extract i nb).reverse) na i:=by
 unfold MH at h ⊢;rw[Qr b hi]at h;rw[Array.toList_append];refine MI.takeR h λx hx' y hy=>?_;rw[Array.toList_reverse,List.mem_reverse,Array.toList_extract,List.extract_eq_take_drop]at hx';obtain ⟨j,hj,ej⟩:=JR hx';exact hx (i+j) x (by omega) (by omega) ej y (by simpa using hy)
def JX (a:Array Keyed) (n:Nat):(a.extract 0 n).toList=a.toList.take n:=by
 rw[Array.toList_extract,List.extract_eq_take_drop];simp
def Mgd.rev (h:Mgd (geR r) C xs):Mgd (leR r) C xs.reverse:=⟨(List.reverse_perm _).trans h.1,List.pairwise_reverse.mpr h.2⟩
def MH.done (h:MH r a b out na nb) (e:na=0\/nb=0):Mgd (leR r) (a.toList++b.toList) (a.extract 0 na++b.extract 0 nb++out.reverse).toList:=by
 unfold MH at h;rw[Array.toList_append,Array.toList_append,JX,JX,Array.toList_reverse];rcases e with rfl|rfl
 .have:=h.endR.rev;simpa using this
 .have:=(MI.endL (l:=(a.toList.take na).reverse) (by simpa using h)).rev;simpa using this
def MH.firstB (h:MH r a b out na nb) (hl:∀ x∈a.toList.take na,∀ y∈b.toList.take nb,r y.1<=r x.1):Mgd (leR r) (a.toList++b.toList) (b.extract 0 nb++a.extract 0 na++out.reverse).toList:=by
 unfold MH at h;have h2:=MI.endR (MI.takeL (p:=(a.toList.take na).reverse) (l:=[]) (by simpa using h) λx hx y hy=>hl x (by simpa using hx) y (by simpa using hy));rw[Array.toList_append,Array.toList_append,JX,JX,Array.toList_reverse];simpa using h2.rev
structure Fr2 (r:Yr) (a b:Array Keyed) (st st':SortSt) (out:Array Keyed) (na nb:Nat):Prop where
 m:MH r a b out na nb
 s:SameS st st'
 a0:0<na
 b0:1<nb
 al:na<a.size
 bl:nb<=b.size
set_option maxHeartbeats 4000000 in
def T8 (R:Cc prog w s κ vs r) (ha:∀ x∈a.toList,x.1∈vs) (hb:∀ x∈b.toList,x.1∈vs) (sa:a.toList.Pairwise (leR r)) (sb:b.toList.Pairwise (leR r)) (h0:0<a.size) (h1:0<b.size)
  (hf:∀ y,b[0]?=some y -> ∀ x∈a.toList,r y.1<=r x.1) (hl:∀ y∈b.toList,∀ x,a[a.size-1]?=some x->r y.1<=r x.1) {st:SortSt} (hk:kindOf st=κ) {Q:Array Keyed->SortSt->Prop}
  (h:∀ out st',SameS st st'->Mgd (leR r) (a.toList++b.toList) out.toList->Q out st'):wpS (model prog w) A E s (VU a b) Q st:=by
 have firstB:∀ {out na nb},MH r a b out na nb->nb=1->Mgd (leR r) (a.toList++b.toList) (b.extract 0 nb++a.extract 0 na++out.reverse).toList:=λ{out na nb} m e=>m.firstB λx hx y hy=>by
  obtain ⟨j,hj,ej⟩:=F0 hy;have:j=0:=by omega
  subst this;exact hf y ej x (Fy hx)
 have e0:a[a.size-1]?=some a[a.size-1]:=BP (by omega);refine Al (λP g=>wpS_lift (Ca ⟨rfl,g⟩)) ?_;refine Al (λP g=>zn e0 g) ?_;have m0:MH r a b #[] (a.size-1+1) b.size:=by
  refine ⟨?_,.nil,?_,?_,(λx hx=>absurd hx (by simp)),(λx hx=>absurd hx (by simp))⟩
  .show ([]++((a.toList.take (a.size-1+1)).reverse++(b.toList.take b.size).reverse)).Perm _;rw[EX,show a.size-1+1=a.toList.length by simp;omega,show b.size=b.toList.length by simp,List.take_length,List.take_length];exact List.Perm.append (List.reverse_perm _) (List.reverse_perm _)
  .exact List.pairwise_reverse.mpr (sa.sublist (List.take_sublist _ _))
  .exact List.pairwise_reverse.mpr (sb.sublist (List.take_sublist _ _))
 have m1:MH r a b #[a[a.size-1]] (a.size-1) b.size:=m0.pushA e0 λy hy=>hl y (Fy hy) _ e0;refine zU (λc1=>wpS_pure (h _ _ (.refl _) (m1.done (.inl (by simpa using c1))))) (λc1=>?_);refine zU (λc2=>wpS_pure (h _ _ (.refl _) (firstB m1 (by simpa using c2)))) (λc2=>?_);have c1':¬ a.size-1=0:=by simpa using c1
 have c2':¬ b.size=1:=by simpa using c2
 refine Al (λP g=>wpS_get g) ?_;refine wpS_bind (wpS_mono (wpS_forRange (I:=λx c st'=>∃ out na nb g,c=(none,na,nb,out,g)/\Fr2 r a b st st' out na nb/\x+1+(na+nb)<=a.size+b.size) (Q:=λc st'=>∃ res,c.1=some res/\SameS st st'/\Mgd (leR r) (a.toList++b.toList) res.toList) ?step ?fin ⟨_,_,_,_,rfl,⟨m1,.refl _,by omega,by omega,by omega,by omega⟩,by omega⟩) ?post)
 case fin=>
  intro c st' hI;refine Classical.byContradiction λG=>?_;obtain ⟨out,na,nb,g,eI1,f,hx⟩:=hI;refine G ?_;clear G;subst eI1;have:=f.a0;have:=f.b0;omega
 case post=>
  rintro ⟨c1,c2⟩ st' ⟨res,e,hs,hm⟩;dsimp only at e;subst e;exact wpS_pure (h _ _ hs hm)
 case step=>
  intro x c st' _ hx hI;refine Classical.byContradiction λG=>?_;obtain ⟨out,na,nb,g,eI1,f,hx2⟩:=hI;refine G ?_;clear G;subst eI1;refine Al (λP=>wpS_mono (wpS_forRange (I:=λy c st'=>∃ out2 na2 nb2 ca cb,c=(none,na2,nb2,out2,ca,cb)/\Fr2 r a b st st' out2 na2 nb2/\na2+nb2+y<=na+nb) (Q:=λc st'=>(∃ res,c.1=some res/\SameS st st'/\Mgd (leR r) (a.toList++b.toList) res.toList) \/ ∃ out2 na2 nb2 ca cb,c=(none,na2,nb2,out2,ca,cb)/\Fr2 r a b st st' out2 na2 nb2/\na2+nb2+1<=na+nb) ?step1 ?fin1 ⟨out,na,nb,_,_,rfl,f,by omega⟩)) ?post1
  case fin1=>
   intro c st' hI;refine Classical.byContradiction λG=>?_;obtain ⟨out2,na,nb,ca,cb,eI1,f,hy⟩:=hI;refine G ?_;clear G;subst eI1;exact .inr ⟨_,_,_,_,_,rfl,f,by omega⟩
  case step1=>
   intro y c st' _ hy hI;refine Classical.byContradiction λG=>?_;obtain ⟨out2,na2,nb2,ca,cb,eI1,f,hy2⟩:=hI;refine G ?_;clear G;subst eI1;obtain ⟨p,rfl⟩:∃ p,na2=p+1:=⟨na2-1,by have:=f.a0;omega⟩;obtain ⟨q,rfl⟩:∃ q,nb2=q+1:=⟨nb2-1,by have:=f.b0;omega⟩;have hp:p<a.size:=by have:=f.al;omega
   have hq:q<b.size:=by have:=f.bl;omega
   have eb:b[q]?=some b[q]:=BP hq;have ea:a[p]?=some a[p]:=BP hp;refine Al (λP g=>zn eb g) (Al (λP g=>zn ea g) (Al (λP g=>HE R (f.s.k.trans hk) (hb _ (Cf eb)) (ha _ (Cf ea)) g) ?_));dsimp only;by_cases hlt:r b[q].1<r a[p].1
   .rw[Af hlt,AD rfl];refine Al (λP g=>zn ea g) ?_;have m2:MH r a b (out2.push a[p]) p (q+1):=f.m.pushA ea λz hz=>by
     obtain ⟨j,hj,ej⟩:=F0 hz;have:=EE sb (show j<=q by omega) ej eb;omega
    refine zU (λc3=>wpS_pure (.inl ⟨_,rfl,f.s,m2.done (.inl (by simpa using c3))⟩)) (λc3=>?_);have f2:Fr2 r a b st st' (out2.push a[p]) p (q+1):=⟨m2,f.s,by simp at c3;omega,f.b0,by omega,f.bl⟩;exact zU (λ_=>wpS_pure (.inr ⟨_,_,_,_,_,rfl,f2,by omega⟩)) (λ_=>wpS_pure ⟨_,_,_,_,_,rfl,f2,by omega⟩)
   .rw[AS hlt,AE (by decide)];refine Al (λP g=>zn eb g) ?_;have m2:MH r a b (out2.push b[q]) (p+1) q:=f.m.pushB eb λz hz=>by
     obtain ⟨j,hj,ej⟩:=F0 hz;have:=EE sa (show j<=p by omega) ej ea;omega
    refine zU (λc3=>wpS_pure (.inl ⟨_,rfl,f.s,firstB m2 (by simpa using c3)⟩)) (λc3=>?_);have f2:Fr2 r a b st st' (out2.push b[q]) (p+1) q:=⟨m2,f.s,f.a0,by have:=f.b0;simp at c3;omega,f.al,by omega⟩;exact zU (λ_=>wpS_pure (.inr ⟨_,_,_,_,_,rfl,f2,by omega⟩)) (λ_=>wpS_pure ⟨_,_,_,_,_,rfl,f2,by omega⟩)
  case post1=>
   intro c st' hI;refine Classical.byContradiction λG=>?_;obtain ⟨res,e,hs,hm⟩|⟨out2,na2,nb2,ca,cb,e,f,hy⟩:=hI
   .obtain ⟨c2,rfl⟩:∃ c2,c=(some res,c2):=⟨c.2,by cases c;cases e;rfl⟩;exact G (wpS_pure ⟨res,rfl,hs,hm⟩)
   .refine G ?_;clear G;subst e;refine Al (λP g=>wpS_lift (Ca ⟨rfl,g⟩)) ?_;refine wpS_bind (wpS_mono (wpS_forRange (I:=λy c st'=>∃ out3 na3 nb3 g ca cb,c=(none,na3,nb3,out3,g,ca,cb)/\Fr2 r a b st st' out3 na3 nb3/\na3+nb3<=na2+nb2) (Q:=λc st'=>(∃ res,c.1=some res/\SameS st st'/\Mgd (leR r) (a.toList++b.toList) res.toList) \/ ∃ out3 na3 nb3 g ca cb,c=(none,na3,nb3,out3,g,ca,cb)/\Fr2 r a b st st' out3 na3 nb3/\na3+nb3<=na2+nb2) ?step2 ?fin2 ⟨out2,na2,nb2,_,_,_,rfl,f,by omega⟩) ?post2)
    case fin2=>
     intro c st' hI;refine Classical.byContradiction λG=>?_;obtain ⟨out3,na,nb,g,ca,cb,eI1,f,hy⟩:=hI;refine G ?_;clear G;subst eI1;exact .inr ⟨_,_,_,_,_,_,rfl,f,hy⟩
    case post2=>
     intro c st' hI;refine Classical.byContradiction λG=>?_;obtain ⟨res,e,hs,hm⟩|⟨out3,na3,nb3,g,ca,cb,e,f,hz⟩:=hI
     .obtain ⟨c2,rfl⟩:∃ c2,c=(some res,c2):=⟨c.2,by cases c;cases e;rfl⟩;exact G (wpS_pure ⟨res,rfl,hs,hm⟩)
     .refine G ?_;clear G;subst e;exact wpS_bind (wpS_modify (wpS_pure ⟨out3,na3,nb3,_,rfl,⟨f.m,⟨f.s.k,f.s.a,f.s.p,f.s.f⟩,f.a0,f.b0,f.al,f.bl⟩,by omega⟩))
    case step2=>
     intro y c st' _ hy hI;refine Classical.byContradiction λG=>?_;obtain ⟨out3,na3,nb3,g,ca,cb,eI1,f,hy2⟩:=hI;refine G ?_;clear G;subst eI1;dsimp only;generalize hq1:nb3-1=q;obtain rfl:nb3=q+1:=by have:=f.b0;omega
     clear hq1;have hq:q<b.size:=by have:=f.bl;omega
     have hq0:0<q:=by have:=f.b0;omega
     have hn0:=f.a0;have hnl:=f.al;have eb:b[q]?=some b[q]:=BP hq;refine zU (λcg=>?_) (λcg=>?_);clear cg;generalize g-1=g';revert g';refine ?K;rotate_left;clear cg;exact ?K _;intro g';refine Al (λP g=>wpS_modify g) ?_;refine Al (λP g=>zn eb g) ?_;have hs2:=f.s;refine Al (λP=>Gm (left:=false) (key:=b[q]) (arr:=a) (base:=0) (n:=na3) (hint:=na3-1) R (hs2.k.trans hk) (hb _ (Cf eb)) (λi hi=>⟨_,BP (by omega),ha _ (Cf (BP (by omega)))⟩) (λi j x y hij hj ex ey=>EE sa (by omega) ex ey) (by omega)) λk hk1 g1 g2=>?_;have aft:∀ x∈a.toList.take k,r x.1<=r b[q].1:=λx hx=>by
      obtain ⟨j,hj,ej⟩:=F0 hx;exact g1 j x hj (by rw[Nat.zero_add];exact ej)
     refine zU (λhk0=>?_) (λhk0=>?_);have m4:=f.m.blockA hk1 λj x h1 h2 ej y hy=>by
      obtain ⟨i,hi,ei⟩:=F0 hy;have z1:=EE sb (show i<=q by omega) ei eb;have z2:r b[q].1<r x.1:=g2 j x h1 h2 (by rw[Nat.zero_add];exact ej);omega
     refine zU (λc4=>wpS_pure (.inl ⟨_,rfl,⟨hs2.k,hs2.a,hs2.p,hs2.f⟩,m4.done (.inl (by simpa using c4))⟩)) (λc4=>?_);have a4:0<k:=by simp at c4;omega
     clear c4 hk0 g1 g2;generalize na3-k=ac;generalize out3++(a.extract k na3).reverse=o4 at m4 ⊢;revert m4;revert o4;revert a4;revert aft;revert hk1;revert k;revert ac;refine ?K2;rotate_left;have hk00:k=na3:=by simp at hk0;omega
     exact ?K2 _ _ (AF _) (hk00▸aft) hn0 _ f.m;intro ac k hk1 aft a4 o4 m4;refine Al (λP g=>zn eb g) ?_;have m5:=m4.pushB eb aft;refine zU (λc6=>wpS_pure (.inl ⟨_,rfl,⟨hs2.k,hs2.a,hs2.p,hs2.f⟩,firstB m5 (by simpa using c6)⟩)) (λc6=>?_);have c6':1<q:=by simp at c6;omega
     obtain ⟨p,rfl⟩:∃ p,k=p+1:=⟨k-1,by omega⟩;have hp:p<a.size:=by omega
     have ea4:a[p]?=some a[p]:=BP hp;refine Al (λP g=>zn ea4 g) ?_;refine Al (λP=>Gm (left:=true) (key:=a[p]) (arr:=b) (base:=0) (n:=q) (hint:=q-1) R (hs2.k.trans hk) (ha _ (Cf ea4)) (λi hi=>⟨_,BP (by omega),hb _ (Cf (BP (by omega)))⟩) (λi j x y hij hj ex ey=>EE sb (by omega) ex ey) (by omega)) λk2 hk2 g3 g4=>?_;have aft2:∀ y∈b.toList.take k2,r y.1<=r a[p].1:=λy hy=>by
      obtain ⟨j,hj,ej⟩:=F0 hy;exact CP (g3 j y hj (by rw[Nat.zero_add];exact ej))
     refine zU (λhk3=>?_) (λhk3=>?_);have m6:=m5.blockB hk2 λj x h1 h2 ej y hy=>by
      obtain ⟨i,hi,ei⟩:=F0 hy;have z1:=EE sa (show i<=p by omega) ei ea4;have z2:r a[p].1<=r x.1:=g4 j x h1 h2 (by rw[Nat.zero_add];exact ej);omega
     refine zU (λc7=>wpS_pure (.inl ⟨_,rfl,⟨hs2.k,hs2.a,hs2.p,hs2.f⟩,firstB m6 (by simpa using c7)⟩)) (λc7=>zU (λc8=>wpS_pure (.inl ⟨_,rfl,⟨hs2.k,hs2.a,hs2.p,hs2.f⟩,m6.done (.inr (by simpa using c8))⟩)) (λc8=>?_));have b6:1<k2:=by simp at c7 c8;omega
     clear c7 c8 hk3 g3 g4;generalize q-k2=bc;generalize o4.push b[q]++(b.extract k2 q).reverse=o6 at m6 ⊢;revert m6;revert o6;revert b6;revert aft2;revert hk2;revert k2;revert bc;refine ?K3;rotate_left;have hk00:k2=q:=by simp at hk3;omega
     exact ?K3 _ _ (AF _) (hk00▸aft2) c6' _ m5;intro bc k2 hk2 aft2 b6 o6 m6;refine Al (λP g=>zn ea4 g) ?_;have m7:=m6.pushA ea4 aft2;refine zU (λc9=>wpS_pure (.inl ⟨_,rfl,⟨hs2.k,hs2.a,hs2.p,hs2.f⟩,m7.done (.inl (by simpa using c9))⟩)) (λc9=>?_);have a7:0<p:=by simp at c9;omega
     have b7:k2<=b.size:=by omega
     have l7:p+k2<=na2+nb2:=by omega
     exact zU (λ_=>wpS_pure (.inr ⟨_,p,k2,_,_,_,rfl,⟨m7,⟨hs2.k,hs2.a,hs2.p,hs2.f⟩,a7,b6,hp,b7⟩,l7⟩)) (λ_=>wpS_pure ⟨_,p,k2,_,_,_,rfl,⟨m7,⟨hs2.k,hs2.a,hs2.p,hs2.f⟩,a7,b6,hp,b7⟩,l7⟩)
end
section
variable {prog:Ym} {w:Yo} {A:Yn} {E:Yc} {s:Yl} {κ:SortKind} {vs:Yf} {r:Yr}
theorem Ou:∀ (m:List Keyed) (k sa:Nat) (arr:Array Keyed),sa+k+m.length<=arr.size->((m.zipIdx k).foldl (λa x=>match x with|(p,j)=>a.setIfInBounds (sa+j) p) arr).toList=arr.toList.take (sa+k)++m++arr.toList.drop (sa+k+m.length)
 |[],k,sa,arr,h=>by simp
 |x::m,k,sa,arr,h=>by
  rw[List.zipIdx_cons,List.foldl_cons];simp only[B5]at h;rw[Ou m (k+1) sa _ (by rw[Array.size_setIfInBounds];omega)];rw[Array.toList_setIfInBounds];have hl:arr.toList.length=arr.size:=by simp
  have e1:(arr.toList.set (sa+k) x).take (sa+(k+1))=arr.toList.take (sa+k)++[x]:=by
   rw[show sa+(k+1)=(sa+k)+1 by omega,List.take_add_one,List.take_set,Bn (by omega)];rw[List.set_eq_of_length_le (by simp;omega)];simp
  have e2:(arr.toList.set (sa+k) x).drop (sa+(k+1)+m.length)=arr.toList.drop (sa+k+(m.length+1)):=by
   rw[List.drop_set_of_lt (by omega)];congr 1;omega
  rw[e1,e2];simp
def Ny {T R1 U:List Keyed} (h:i<R1.length):(T++(R1++U))[T.length+i]?=R1[i]?:=by
 rw[Cn (by omega),Ag (by omega)];congr 1;omega
def O1 {l:List Keyed} (h:x∈l.take k):∃ j,j<k/\l[j]?=some x:=by
 obtain ⟨j,e⟩:=List.mem_iff_getElem?.mp h;rw[List.getElem?_take]at e;split at e
 .exact ⟨j,by assumption,e⟩
 .cases e
def Ng {l:List Keyed} (h:x∈l.drop k):∃ j,k<=j/\l[j]?=some x:=by
 obtain ⟨j,e⟩:=List.mem_iff_getElem?.mp h;rw[List.getElem?_drop]at e;exact ⟨k+j,by omega,e⟩
def TR (R:Cc prog w s κ vs r) {st:SortSt} (hk:kindOf st=κ) (hfl:failedOf st=none) {i sa na pw sb nb pw2:Nat} {T R1 R2 U:List Keyed} (ha:(arrOf st).toList=T++(R1++(R2++U))) (hv:∀ x∈(arrOf st).toList,x.1∈vs) (hT:T.length=sa) (h1:R1.length=na) (hsb:sb=sa+na) (h2:R2.length=nb) (n1:0<na) (n2:0<nb)
  (s1:R1.Pairwise (leR r)) (s2:R2.Pairwise (leR r)) (e1:(pendingOf st)[i]?=some (sa,na,pw)) (e2:(pendingOf st)[i+1]?=some (sb,nb,pw2)) {Q:Bool->SortSt->Prop}
  (h:∀ m st',kindOf st'=κ->failedOf st'=none->pendingOf st'=((pendingOf st).setIfInBounds i (sa,na+nb,pw)).eraseIdxIfInBounds (i+1)->(arrOf st').toList=T++(m++U)->m.Perm (R1++R2)->m.Pairwise (leR r)->Q true st') :
  wpS (model prog w) A E s (mergeAt' i) Q st:=by
 subst hT h1 h2 hsb;have at1:∀ j,j<R1.length->(arrOf st)[T.length+j]?=R1[j]?:=λj hj=>by rw[<-Bb,ha];exact Ny hj
 have at2:∀ j,j<R2.length->(arrOf st)[T.length+R1.length+j]?=R2[j]?:=λj hj=>by
  rw[<-Bb,ha,<-Bu,show T.length+R1.length=(T++R1).length by simp];exact Ny hj
 have srt1:∀ {i j:Nat} {x y:Keyed},i<=j->R1[i]?=some x->R1[j]?=some y->r x.1<=r y.1:=λ{i j x y} hij ex ey=>EE (a:=R1.toArray) (by simpa using s1) hij (by simpa using ex) (by simpa using ey);have srt2:∀ {i j:Nat} {x y:Keyed},i<=j->R2[i]?=some x->R2[j]?=some y->r x.1<=r y.1:=λ{i j x y} hij ex ey=>EE (a:=R2.toArray) (by simpa using s2) hij (by simpa using ex) (by simpa using ey);have v1:∀ x∈R1,x.1∈vs:=λx hx=>hv x (by rw[ha];simp[hx]);have v2:∀ x∈R2,x.1∈vs:=λx hx=>hv x (by rw[ha];simp[hx]);have g1:∀ {j} (hj:j<R1.length),R1[j]?=some R1[j]:=λhj=>AJ hj;have g2:∀ {j} (hj:j<R2.length),R2[j]?=some R2[j]:=λhj=>AJ hj;refine wpS_bind (wpS_get ?_);rw[e1,e2];have eb0:(arrOf st)[T.length+R1.length]?=some R2[0]:=(at2 0 n2).trans (g2 n2);refine wpS_bind (wpS_modify ?_);refine wpS_bind (zn eb0 ?_);refine wpS_bind (Gm (left:=false) (key:=R2[0]) (arr:=arrOf st) (base:=T.length) (n:=R1.length) (hint:=0) R hk (v2 _ (Aq n2)) (λj hj=>⟨_,(at1 j hj).trans (g1 hj),v1 _ (Aq hj)⟩) (λi j x y hij hj ex ey=>srt1 hij ((at1 i (by omega)).symm.trans ex) ((at1 j hj).symm.trans ey)) n1 λk hk1 q1 q2=>?_);have hP:∀ x∈R1.take k,r x.1<=r R2[0].1:=λx hx=>by
  obtain ⟨j,hj,ej⟩:=O1 hx;exact q1 j x hj ((at1 j (by omega)).trans ej)
 have hX:∀ x∈R1.drop k,r R2[0].1<=r x.1:=λx hx=>by
  obtain ⟨j,hj,ej⟩:=Ng hx;have hl:=(AK.mp ej).1;exact CP (q2 j x hj hl ((at1 j hl).trans ej))
 have h0:∀ y∈R2,r R2[0].1<=r y.1:=λy hy=>by
  obtain ⟨j,ej⟩:=List.mem_iff_getElem?.mp hy;exact srt2 (Bz _) (g2 n2) ej
 refine zU (λc1=>?_) (λc1=>?_)
 .have hk2:R1.length<=k:=by simp at c1;omega
  rw[GL hk2]at hP;exact wpS_pure (h (R1++R2) _ hk hfl rfl (by rw[ha];simp) (.refl _) (List.pairwise_append.mpr ⟨s1,s2,λx hx y hy=>Ak (hP x hx) (h0 y hy)⟩))
 have hkl:k<R1.length:=by simp at c1;omega
 have nl:R1.length-1<R1.length:=by omega
 have eL:(arrOf st)[T.length+k+(R1.length-k)-1]?=some R1[R1.length-1]:=by
  rw[show T.length+k+(R1.length-k)-1=T.length+(R1.length-1) by omega];exact (at1 _ nl).trans (g1 nl)
 refine wpS_bind (zn eL ?_);refine wpS_bind (Gm (left:=true) (key:=R1[R1.length-1]) (arr:=arrOf st) (base:=T.length+R1.length) (n:=R2.length) (hint:=R2.length-1) R hk (v1 _ (Aq nl)) (λj hj=>⟨_,(at2 j hj).trans (g2 hj),v2 _ (Aq hj)⟩) (λi j x y hij hj ex ey=>srt2 hij ((at2 i (by omega)).symm.trans ex) ((at2 j hj).symm.trans ey)) (by omega) λk2 hk2 q3 q4=>?_);have hXl:∀ x∈R1,r x.1<=r R1[R1.length-1].1:=λx hx=>by
  obtain ⟨j,ej⟩:=List.mem_iff_getElem?.mp hx;have hl:=(AK.mp ej).1;exact srt1 (by omega) ej (g1 nl)
 have hY:∀ y∈R2.take k2,r y.1<=r R1[R1.length-1].1:=λy hy=>by
  obtain ⟨j,hj,ej⟩:=O1 hy;exact CP (q3 j y hj ((at2 j (by omega)).trans ej))
 have hS:∀ y∈R2.drop k2,r R1[R1.length-1].1<=r y.1:=λy hy=>by
  obtain ⟨j,hj,ej⟩:=Ng hy;have hl:=(AK.mp ej).1;exact q4 j y hj hl ((at2 j hl).trans ej)
 refine zU (λc2=>?_) (λc2=>?_)
 .have:k2=0:=by simpa using c2
  subst this;exact wpS_pure (h (R1++R2) _ hk hfl rfl (by rw[ha];simp) (.refl _) (List.pairwise_append.mpr ⟨s1,s2,λx hx y hy=>Ak (hXl x hx) (hS y (by simpa using hy))⟩))
 have hk20:0<k2:=by simp at c2;omega
 have eX:((arrOf st).extract (T.length+k) (T.length+R1.length)).toList=R1.drop k:=by
  rw[Array.toList_extract,List.extract_eq_take_drop,ha,List.drop_append,List.drop_of_length_le (by omega),EX,show T.length+k-T.length=k by omega,List.drop_append_of_le_length (by omega),show T.length+R1.length-(T.length+k)=(R1.drop k).length by simp;omega,List.take_left'];rfl
 have eY:((arrOf st).extract (T.length+R1.length) (T.length+R1.length+k2)).toList=R2.take k2:=by
  rw[Jo,ha,<-Bu,show T.length+R1.length=(T++R1).length by simp,List.drop_left',List.take_append_of_le_length hk2];rfl
 generalize hx0:(arrOf st).extract (T.length+k) (T.length+R1.length)=x0 at eX;generalize hy0:(arrOf st).extract (T.length+R1.length) (T.length+R1.length+k2)=y0 at eY;have zx:x0.size=R1.length-k:=by rw[<-BD,eX,Ea]
 have zy:y0.size=k2:=by rw[<-BD,eY,BN];omega
 have w1:∀ y,y0[0]?=some y -> ∀ x∈x0.toList,r y.1<=r x.1:=λy ey x hx=>by
  rw[<-Bb,eY,List.getElem?_take,AD hk20,g2 n2]at ey;cases ey;rw[eX]at hx;exact hX x hx
 have w2:∀ y∈y0.toList,∀ x,x0[x0.size-1]?=some x->r y.1<=r x.1:=λy hy x ex=>by
  rw[<-Bb,eX,List.getElem?_drop,zx,show k+(R1.length-k-1)=R1.length-1 by omega,g1 nl]at ex;cases ex;rw[eY]at hy;exact hY y hy
 have fin:∀ (out:Array Keyed) (st':SortSt),SameS (SortSt.mk' (kindOf st) (arrOf st) (((pendingOf st).setIfInBounds i (T.length,R1.length+R2.length,pw)).eraseIdxIfInBounds (i+1)) (gallopOf st) (failedOf st)) st'->Mgd (leR r) (x0.toList++y0.toList) out.toList ->
   wpS (model prog w) A E s (do
    modify λs=>setArr s (out.toList.zipIdx.foldl (λa x=>match x with|(p,j)=>a.setIfInBounds (T.length+k+j) p) (arrOf s));let s <- get;pure (failedOf s).isNone) Q st':=by
  intro out st' sm mg;refine wpS_bind (wpS_modify (wpS_bind (wpS_get ?_)));have hf:failedOf st'=none:=sm.f.trans hfl;show wpS _ _ _ _ (pure (failedOf st').isNone) _ _;rw[hf];rw[eX,eY]at mg;have hlen:out.toList.length=(R1.length-k)+k2:=by
   rw[mg.1.length_eq,Ae,Ea,BN];omega
  have ea:arrOf st'=arrOf st:=sm.a;have e3:((out.toList.zipIdx).foldl (λa x=>match x with|(p,j)=>a.setIfInBounds (T.length+k+j) p) (arrOf st')).toList=T++((R1.take k++(out.toList++R2.drop k2))++U):=by
   have hsz:(arrOf st').size=T.length+(R1.length+(R2.length+U.length)):=by rw[ea,<-BD,ha];simp
   rw[Ou out.toList 0 (T.length+k) (arrOf st') (by omega),ea,ha];have t1:List.take (T.length+k+0) (T++(R1++(R2++U)))=T++R1.take k:=by
    rw[Nat.add_zero,List.take_append,GL (by omega),show T.length+k-T.length=k by omega,List.take_append_of_le_length (by omega)]
   have t2:List.drop (T.length+k+0+out.toList.length) (T++(R1++(R2++U)))=R2.drop k2++U:=by
    rw[show T.length+k+0+out.toList.length=(T++R1).length+k2 by rw[hlen];simp;omega,<-Bu,List.drop_append,List.drop_of_length_le (by omega),EX,show (T++R1).length+k2-(T++R1).length=k2 by omega,List.drop_append_of_le_length hk2]
   rw[t1,t2];simp
  have p1:=List.pairwise_append.mp (show (R1.take k++R1.drop k).Pairwise (leR r) by rw[DM];exact s1);have p2:=List.pairwise_append.mp (show (R2.take k2++R2.drop k2).Pairwise (leR r) by rw[DM];exact s2);have mo:∀ x,x∈out.toList->x∈R1.drop k\/x∈R2.take k2:=λx hx=>AV.mp (mg.1.mem_iff.mp hx);refine wpS_pure (h (R1.take k++(out.toList++R2.drop k2)) _ (sm.k.trans hk) hf sm.p e3 ?_ ?_)
  .refine ((mg.1.append_right (R2.drop k2)).append_left (R1.take k)).trans ?_;rw[Bu,DM,<-Bu,DM]
  .refine List.pairwise_append.mpr ⟨p1.1,List.pairwise_append.mpr ⟨mg.2,p2.2.1,λx hx y hy=>?_⟩,λx hx y hy=>?_⟩
   .rcases mo x hx with z|z
    .exact Ak (hXl x (Em z)) (hS y hy)
    .exact p2.2.2 x z y hy
   .rcases AV.mp hy with z|z
    .rcases mo y z with z|z
     .exact p1.2.2 x hx y z
     .exact Ak (hP x hx) (h0 y (Fy z))
    .exact Ak (hP x hx) (h0 y (Em z))
 have x1:∀ x∈x0.toList,x.1∈vs:=λx hx=>v1 x (Em (eX▸hx));have y1:∀ x∈y0.toList,x.1∈vs:=λx hx=>v2 x (Fy (eY▸hx));have x2:x0.toList.Pairwise (leR r):=eX▸s1.sublist (List.drop_sublist _ _);have y2:y0.toList.Pairwise (leR r):=eY▸s2.sublist (List.take_sublist _ _);refine zU (λc3=>?_) (λc3=>?_)
 .subst hx0 hy0;refine wpS_bind (Va R x1 y1 x2 y2 (by omega) (by omega) w1 w2 ?_ fin);exact hk
 .subst hx0 hy0;refine wpS_bind (T8 R x1 y1 x2 y2 (by omega) (by omega) w1 w2 ?_ fin);exact hk
end
noncomputable def KR (r:Yr) (xs:Array Keyed) (i:Nat):Nat:=match xs[i]? with
 |some p=>r p.1
 |none=>0
def RUp (r:Yr) (xs:Array Keyed) (lo hi:Nat):Prop:=∀ i j,lo<=i->i<=j->j<hi->KR r xs i<=KR r xs j
def RDn (r:Yr) (xs:Array Keyed) (lo hi:Nat):Prop:=∀ i j,lo<=i->i<=j->j<hi->KR r xs j<=KR r xs i
section
variable {prog:Ym} {w:Yo} {A:Yn} {E:Yc} {s:Yl} {κ:SortKind} {vs:Yf} {r:Yr}
def HZ {xs ys:Array Keyed} {i j:Nat} (h:xs[i]?=ys[j]?):KR r xs i=KR r ys j:=by unfold KR;rw[h]
def Lq {xs:Array Keyed} {i j:Nat} (hj:j<=xs.size) (k:Nat):KR r (mirror xs i j ((j-i) / 2)) k=if i<=k/\k<j then KR r xs (i+j-1-k) else KR r xs k:=by
 have e:=getElem?_mirror_all (i:=i) hj k;split at e
 .rw[AD (by assumption)];exact HZ e
 .rw[AE (by assumption)];exact HZ e
def O5 {xs:Array Keyed} {src d:Nat} (hs:src<xs.size) (hd:d<=src) (k:Nat):KR r (bubble xs src d) k=if k=src-d then KR r xs src else if src-d<k/\k<=src then KR r xs (k-1) else KR r xs k:=by
 have e:=getElem?_bubble hs d hd k;split at e
 .rw[AD (by assumption)];exact HZ e
 .rw[AE (by assumption)];split at e
  .rw[AD (by assumption)];exact HZ e
  .rw[AE (by assumption)];exact HZ e
def Hr {xs:Array Keyed} {i j:Nat} (hj:j<=xs.size) (he:∀ k,i<=k->k<j->KR r xs k=KR r xs (j-1)) (k:Nat):KR r (mirror xs i j ((j-i) / 2)) k=KR r xs k:=by
 rw[Lq hj];split
 .rw[he _ (by omega) (by omega),he k (by omega) (by omega)]
 .rfl
structure CB (lo:Nat) (st0 st:SortSt):Prop where
 k:kindOf st=kindOf st0
 p:pendingOf st=pendingOf st0
 f:failedOf st=failedOf st0
 perm:(arrOf st).Perm (arrOf st0)
 pre:∀ j,j<lo->(arrOf st)[j]?=(arrOf st0)[j]?
def CB.refl (lo:Nat) (st:SortSt):CB lo st st:=⟨rfl,rfl,rfl,.refl _,λ_ _=>rfl⟩
def CB.size {lo:Nat} {st0 st:SortSt} (h:CB lo st0 st):(arrOf st).size=(arrOf st0).size:=h.perm.size_eq
def CB.mir {lo i j:Nat} {st0 st:SortSt} (h:CB lo st0 st) (hi:lo<=i) (hj:j<=(arrOf st0).size):CB lo st0 (setArr st (mirror (arrOf st) i j ((j-i) / 2))) :=
 ⟨h.k,h.p,h.f,(mirror_perm _ _ _ _).trans h.perm,λk hk=>by
  show (mirror (arrOf st) i j ((j-i) / 2))[k]?=_;rw[getElem?_mirror_all (by rw[h.size];exact hj),AE (by omega)];exact h.pre k hk⟩
def CB.bub {lo src d:Nat} {st0 st:SortSt} (h:CB lo st0 st) (hs:src<(arrOf st0).size) (hd:d<=src) (hl:lo<=src-d):CB lo st0 (setArr st (bubble (arrOf st) src d)) :=
 ⟨h.k,h.p,h.f,(bubble_perm _ _ _).trans h.perm,λk hk=>by
  show (bubble (arrOf st) src d)[k]?=_;rw[getElem?_bubble (by rw[h.size];exact hs) d hd,AE (by omega),AE (by omega)];exact h.pre k hk⟩
variable {st0 st:SortSt} {lo nrem n:Nat}
def HG (R:Cc prog w s κ vs r) (hk:kindOf st0=κ) (hv:∀ x∈(arrOf st0).toList,x.1∈vs) (c:CB lo st0 st) {i j:Nat} (hi:i<(arrOf st0).size) (hj:j<(arrOf st0).size) {Q:Option Bool->SortSt->Prop} (h:Q (some (decide (KR r (arrOf st) i<KR r (arrOf st) j))) st) :
  wpS (model prog w) A E s (ltAt' i j) Q st:=by
 have ei:(arrOf st)[i]?=some ((arrOf st)[i]'(by rw[c.size];exact hi)):=BP _;have ej:(arrOf st)[j]?=some ((arrOf st)[j]'(by rw[c.size];exact hj)):=BP _;have pm:=Array.perm_iff_toList_perm.mp c.perm;refine Tv R (c.k.trans hk) ei ej (hv _ (pm.mem_iff.mp (Cf ei))) (hv _ (pm.mem_iff.mp (Cf ej))) ?_;unfold KR at h;rw[ei,ej]at h;exact h
noncomputable def Mb (lo a nrem:Nat):StateT SortSt Sem (Option (Option Nat) × Nat):=forIn [a:nrem] ((none,a):Option (Option Nat) × Nat) λ_ c=>do
 let x <- ltAt' (lo+c.2) (lo+c.2-1)
 match x with
 |some smaller=>if smaller=true then pure (ForInStep.done (none,c.2)) else pure (ForInStep.yield (none,c.2+1))
 |_=>pure (ForInStep.done (some none,c.2))
def Pb (R:Cc prog w s κ vs r) (hk:kindOf st0=κ) (hv:∀ x∈(arrOf st0).toList,x.1∈vs) (c:CB lo st0 st) (hz:lo+nrem<=(arrOf st0).size) (h1:1<=n) (h2:n<=nrem) (hu:RUp r (arrOf st) lo (lo+n)) {Q:Option (Option Nat) × Nat->SortSt->Prop}
  (h:∀ m,n<=m->m<=nrem->RUp r (arrOf st) lo (lo+m)->(m=nrem\/KR r (arrOf st) (lo+m)<KR r (arrOf st) (lo+m-1))->Q (none,m) st):wpS (model prog w) A E s (Mb lo n nrem) Q st:=by
 unfold Mb;refine wpS_forRange (I:=λx c st'=>st'=st/\c=(none,x)/\RUp r (arrOf st) lo (lo+x)) ?step ?fin ⟨rfl,rfl,hu⟩
 case fin=>
  intro c' st' hI;refine Classical.byContradiction λG=>?_;obtain ⟨eI1,eI2,hs⟩:=hI;refine G ?_;clear G;subst eI1 eI2;rw[show max n nrem=nrem by omega]at hs ⊢;exact h nrem h2 (AF _) hs (.inl rfl)
 case step=>
  intro x c' st' hax hxn hI;refine Classical.byContradiction λG=>?_;obtain ⟨eI1,eI2,hs⟩:=hI;refine G ?_;clear G;subst eI1 eI2;refine wpS_bind (HG R hk hv c (by omega) (by omega) ?_);dsimp only;by_cases hl:KR r (arrOf st') (lo+x)<KR r (arrOf st') (lo+x-1)
  .rw[Af hl,AD rfl];exact wpS_pure (h x hax (by omega) hs (.inr hl))
  .rw[AS hl,AE (by decide)];refine wpS_pure ⟨rfl,rfl,λi j h3 h4 h5=>?_⟩;by_cases hj:j<lo+x
   .exact hs i j h3 h4 hj
   .have hj':j=lo+x:=by omega
    by_cases hij:i=j
    .rw[hij];exact AF _
    .have:=hs i (lo+x-1) h3 (by omega) (by omega);rw[hj'];omega
def Xn (R:Cc prog w s κ vs r) (hk:kindOf st0=κ) (hv:∀ x∈(arrOf st0).toList,x.1∈vs) (hz:lo+nrem<=(arrOf st0).size) (h1:1<=nrem) {Q:Option Nat->SortSt->Prop}
  (h:∀ m st,CB lo st0 st->1<=m->m<=nrem->RUp r (arrOf st) lo (lo+m)->Q (some m) st):wpS (model prog w) A E s (countRun' lo nrem) Q st0:=by
 have one:∀ xs,RUp r xs lo (lo+1):=λxs i j a b c=>by rw[show i=j by omega];exact AF _
 refine wpS_bind (Pb R hk hv (.refl lo st0) hz (AF 1) h1 (one _) λn n1 n2 hu hor=>?_);refine zU (λc1=>wpS_pure (h n st0 (.refl lo st0) n1 n2 hu)) (λc1=>?_);have hn:n<nrem:=by simp at c1;omega
 have hlt:=hor.resolve_left (by omega);have mirU:∀ {st:SortSt} {n m neq:Nat},CB lo st0 st->m<=nrem->RDn r (arrOf st) lo (lo+m)->RUp r (mirror (arrOf st) lo (lo+m) ((lo+m-lo) / 2)) lo (lo+m):=λ{st n m neq} c hm hd i j a1 a2 a3=>by
  rw[Lq (by rw[c.size];omega),Lq (by rw[c.size];omega),AD (by omega),AD (by omega)];exact hd _ _ (by omega) (by omega) (by omega)
 refine zU (λc2=>?_) (λc2=>?_)
 case' refine_1=>
  refine wpS_bind (HG R hk hv (.refl lo st0) (by omega) (by dsimp only;omega) ?_);dsimp only;by_cases hrose:KR r (arrOf st0) lo<KR r (arrOf st0) (lo+n-1)
  case pos=>
   rw[Af hrose,AD rfl];exact wpS_pure (h n st0 (.refl lo st0) n1 n2 hu)
  case' neg=>
   rw[AS hrose,AE (by decide)];have hall:∀ k,lo<=k->k<lo+n->KR r (arrOf st0) k=KR r (arrOf st0) (lo+n-1):=λk k1 k2=>by
    have a1:=hu lo k (AF _) k1 k2;have a2:=hu k (lo+n-1) k1 (by omega) (by omega);omega
   refine wpS_bind (wpS_modify ?_);have cb:CB lo st0 (setArr st0 (mirror (arrOf st0) lo (lo+n) ((lo+n-lo) / 2))):=(CB.refl lo st0).mir (AF _) (by omega);have dn:RDn r (mirror (arrOf st0) lo (lo+n) ((lo+n-lo) / 2)) lo (lo+(n+1)):=λi j a1 a2 a3=>by
    rw[Hr (by omega) hall,Hr (by omega) hall];by_cases hj:j<lo+n
    .rw[hall i a1 (by omega),hall j (by omega) hj];exact AF _
    .by_cases hi:i<lo+n
     .rw[hall i a1 hi,show j=lo+n by omega];omega
     .rw[show i=j by omega];exact AF _
 case' refine_2=>
  have cb:CB lo st0 st0:=.refl lo st0;have dn:RDn r (arrOf st0) lo (lo+(n+1)):=λi j a1 a2 a3=>by
   have hn1:n=1:=by dsimp only at c2;omega
   subst hn1;by_cases hij:i=j
   .rw[hij];exact AF _
   .rw[show i=lo by omega,show j=lo+1 by omega];rw[show lo+1-1=lo by omega]at hlt;omega
 all_goals
  refine wpS_bind (wpS_lift (Ca ⟨rfl,?_⟩));refine wpS_bind (wpS_mono (wpS_forRange (I:=λx c st'=>∃ neq,c=(none,x,neq)/\CB lo st0 st'/\RDn r (arrOf st') lo (lo+x)/\neq+1<=x /\ ∀ i,lo+x-(neq+1)<=i->i<lo+x->KR r (arrOf st') i=KR r (arrOf st') (lo+x-1)) (Q:=λc st'=>∃ x neq,c=(none,x,neq)/\CB lo st0 st'/\1<=x/\x<=nrem/\RDn r (arrOf st') lo (lo+x)/\neq+1<=x /\ ∀ i,lo+x-(neq+1)<=i->i<lo+x->KR r (arrOf st') i=KR r (arrOf st') (lo+x-1)) ?step ?fin ⟨0,rfl,cb,dn,by omega,λi a1 a2=>by congr 1;omega⟩) ?post)
  case fin=>
   intro c st' hI;refine Classical.byContradiction λG=>?_;obtain ⟨neq,eI1,cb,dn,q1,q2⟩:=hI;refine G ?_;clear G;subst eI1;rw[show max (n+1) nrem=nrem by omega]at dn q1 q2 ⊢;exact ⟨nrem,neq,rfl,cb,h1,AF _,dn,q1,q2⟩
  case step=>
   intro x c st' hx1 hx2 hI;refine Classical.byContradiction λG=>?_;obtain ⟨neq,eI1,cb,dn,q1,q2⟩:=hI;refine G ?_;clear G;subst eI1;have hx1':n+1<=x:=hx1;refine wpS_bind (HG R hk hv cb (by dsimp only;omega) (by dsimp only;omega) ?_);dsimp only;have step1:∀ ys:Array Keyed,(∀ k,KR r ys k=KR r (arrOf st') k)->KR r (arrOf st') (lo+x)<=KR r (arrOf st') (lo+x-1)->RDn r ys lo (lo+(x+1)):=λys hy hle i j a1 a2 a3=>by
    rw[hy,hy];by_cases hj:j<lo+x
    .exact dn i j a1 a2 hj
    .by_cases hij:i=j
     .rw[hij];exact AF _
     .have:=dn i (lo+x-1) a1 (by omega) (by omega);rw[show j=lo+x by omega];omega
   by_cases hl:KR r (arrOf st') (lo+x)<KR r (arrOf st') (lo+x-1)
   .rw[Af hl,AD rfl];refine zU (λc3=>wpS_bind (wpS_modify (wpS_pure ⟨0,rfl,cb.mir (by omega) (by omega),step1 _ (Hr (by rw[cb.size];omega) q2) (by omega),by omega,λi a1 a2=>by congr 1;omega⟩))) (λc3=>wpS_pure ⟨0,rfl,cb,step1 _ (λ_=>rfl) (by omega),by omega,λi a1 a2=>by congr 1;omega⟩)
   .rw[AS hl,AE (by decide)];refine wpS_bind (HG R hk hv cb (by omega) (by omega) ?_);dsimp only;by_cases hg:KR r (arrOf st') (lo+x-1)<KR r (arrOf st') (lo+x)
    .rw[Af hg,AD rfl];exact wpS_pure ⟨x,neq,rfl,cb,by omega,by omega,dn,q1,q2⟩
    .rw[AS hg,AE (by decide)];refine wpS_pure ⟨neq+1,rfl,cb,step1 _ (λ_=>rfl) (by omega),by omega,λi a1 a2=>?_⟩;rw[show lo+(x+1)-1=lo+x by omega];by_cases hi:i=lo+x
     .rw[hi]
     .rw[q2 i (by omega) (by omega)];omega
  case post=>
   intro c st' hI;refine Classical.byContradiction λG=>?_;obtain ⟨x,neq,eI1,cb,x1,x2,dn,q1,q2⟩:=hI;refine G ?_;clear G;subst eI1;refine zU (λc3=>?_) (λc3=>?_)
   case' refine_1=>
    refine wpS_bind (wpS_modify ?_);replace dn:RDn r (mirror (arrOf st') (lo+x-(neq+1)) (lo+x) ((lo+x-(lo+x-(neq+1))) / 2)) lo (lo+x):=λi j a1 a2 a3=>by
     rw[Hr (by rw[cb.size];omega) q2,Hr (by rw[cb.size];omega) q2];exact dn i j a1 a2 a3
    replace cb:=cb.mir (i:=lo+x-(neq+1)) (j:=lo+x) (by omega) (by omega)
   all_goals
    refine wpS_bind (wpS_modify ?_);have cb2:=cb.mir (i:=lo) (j:=lo+x) (AF _) (by omega);refine wpS_bind (Pb R hk hv cb2 hz x1 x2 (mirU (n:=0) (neq:=0) cb x2 dn) λm m1 m2 hu2 _=>wpS_pure (h m _ cb2 (by omega) m2 hu2))
end
section
variable {prog:Ym} {w:Yo} {A:Yn} {E:Yc} {s:Yl} {κ:SortKind} {vs:Yf} {r:Yr} {st0 st:SortSt} {lo n ok:Nat}
def cT (R:Cc prog w s κ vs r) (hk:kindOf st0=κ) (hv:∀ x∈(arrOf st0).toList,x.1∈vs) (c0:CB lo st0 st) (hz:lo+n<=(arrOf st0).size) (h1:1<=ok) (h2:ok<=n) (hu:RUp r (arrOf st) lo (lo+ok))
  (h:∀ st',CB lo st0 st'->RUp r (arrOf st') lo (lo+n)->Q true st'):wpS (model prog w) A E s (binarySort' lo n ok) Q st:=by
 refine wpS_bind (wpS_mono (wpS_forRange (I:=λk c st'=>c=(none,())/\CB lo st0 st'/\RUp r (arrOf st') lo (lo+k)) (Q:=λc st'=>c=(none,())/\CB lo st0 st'/\RUp r (arrOf st') lo (lo+n)) ?step ?fin ⟨rfl,c0,by rw[show max ok 1=ok by omega];exact hu⟩) ?post)
 case fin=>
  intro c st' hI;refine Classical.byContradiction λG=>?_;obtain ⟨eI1,cb,hu⟩:=hI;refine G ?_;clear G;subst eI1;rw[show max (max ok 1) n=n by omega]at hu;exact ⟨rfl,cb,hu⟩
 case post=>
  intro c st' hI;refine Classical.byContradiction λG=>?_;obtain ⟨eI1,cb,hu⟩:=hI;refine G ?_;clear G;subst eI1;exact wpS_pure (h st' cb hu)
 case step=>
  intro k c st' hk1 hk2 hI;refine Classical.byContradiction λG=>?_;obtain ⟨eI1,cb,hu⟩:=hI;refine G ?_;clear G;subst eI1;have hk0:1<=k:=by omega
  refine wpS_bind (wpS_mono (wpS_forRange (I:=λx c st''=>st''=st' /\ ∃ a b,c=(none,a,b)/\a<=b/\b<=k/\b-a<=k-x/\(∀ i,i<a->KR r (arrOf st') (lo+i)<=KR r (arrOf st') (lo+k))/\(∀ i,b<=i->i<k->KR r (arrOf st') (lo+k)<=KR r (arrOf st') (lo+i))) (Q:=λc st''=>st''=st' /\ ∃ a b,c=(none,a,b)/\a<=k/\(∀ i,i<a->KR r (arrOf st') (lo+i)<=KR r (arrOf st') (lo+k))/\(∀ i,a<=i->i<k->KR r (arrOf st') (lo+k)<=KR r (arrOf st') (lo+i))) ?step1 ?fin1 ⟨rfl,0,k,rfl,by omega,by omega,by omega,λi hi=>by omega,λi a1 a2=>by omega⟩) ?post1)
  case fin1=>
   intro c st'' hI;refine Classical.byContradiction λG=>?_;obtain ⟨eI1,a,b,eI2,q1,q2,q3,q4,q5⟩:=hI;refine G ?_;clear G;subst eI1 eI2;exact ⟨rfl,a,b,rfl,by omega,q4,λi a1 a2=>q5 i (by omega) a2⟩
  case step1=>
   intro x c st'' _ hx hI;refine Classical.byContradiction λG=>?_;obtain ⟨eI1,a,b,eI2,q1,q2,q3,q4,q5⟩:=hI;refine G ?_;clear G;subst eI1 eI2;refine zU (λc1=>wpS_pure ⟨rfl,a,b,rfl,by omega,q4,λi a1 a2=>q5 i (by dsimp only at c1;omega) a2⟩) (λc1=>?_);have c1':a<b:=by dsimp only at c1;omega
   refine wpS_bind (HG R hk hv cb (by omega) (by dsimp only;omega) ?_);dsimp only;by_cases hl:KR r (arrOf st'') (lo+k)<KR r (arrOf st'') (lo+(a+b) / 2)
   .rw[Af hl,AD rfl];refine wpS_pure ⟨rfl,a,(a+b) / 2,rfl,by omega,by omega,by omega,q4,λi a1 a2=>?_⟩;have:=hu (lo+(a+b) / 2) (lo+i) (by omega) (by omega) (by omega);omega
   .rw[AS hl,AE (by decide)];refine wpS_pure ⟨rfl,(a+b) / 2+1,b,rfl,by omega,by omega,by omega,λi a1=>?_,q5⟩;have:=hu (lo+i) (lo+(a+b) / 2) (by omega) (by omega) (by omega);omega
  case post1=>
   intro c st'' hI;refine Classical.byContradiction λG=>?_;obtain ⟨eI1,a,b,eI2,q1,q4,q5⟩:=hI;refine G ?_;clear G;subst eI1 eI2;refine wpS_bind (wpS_modify (wpS_pure ⟨rfl,cb.bub (by omega) (by dsimp only;omega) (by dsimp only;omega),λi j a1 a2 a3=>?_⟩));have hs:lo+k<(arrOf st'').size:=by rw[cb.size];omega
   show KR r (bubble (arrOf st'') (lo+k) (lo+k-(lo+a))) i<=KR r (bubble (arrOf st'') (lo+k) (lo+k-(lo+a))) j;rw[O5 hs (by omega),O5 hs (by omega)];rw[show lo+k-(lo+k-(lo+a))=lo+a by omega];by_cases i1:i=lo+a
   .rw[AD i1];by_cases j1:j=lo+a
    .rw[AD j1];exact AF _
    .rw[AE j1,AD (by omega)];have:=q5 (j-1-lo) (by omega) (by omega);rw[show lo+(j-1-lo)=j-1 by omega]at this;exact this
   .rw[AE i1];by_cases i2:lo+a<i/\i<=lo+k
    .rw[AD i2,AE (by omega),AD (by omega)];exact hu _ _ (by omega) (by omega) (by omega)
    .rw[AE i2];by_cases j1:j=lo+a
     .rw[AD j1];have:=q4 (i-lo) (by omega);rw[show lo+(i-lo)=i by omega]at this;exact this
     .rw[AE j1];by_cases j2:lo+a<j/\j<=lo+k
      .rw[AD j2];exact hu _ _ a1 (by omega) (by omega)
      .rw[AE j2];exact hu _ _ a1 a2 (by omega)
end
noncomputable def Ce:Nat->List (List Keyed)->List (Nat × Nat)
 |_,[]=>[]
 |o,R::Rs=>(o,R.length)::Ce (o+R.length) Rs
theorem IY:∀ (o:Nat) (As Bs:List (List Keyed)),Ce o (As++Bs)=Ce o As++Ce (o+As.flatten.length) Bs
 |o,[],Bs=>by simp[Ce]
 |o,R::As,Bs=>by
  rw[List.cons_append,Ce,Ce,IY];simp only[List.cons_append,De,Ae];rw[Nat.add_assoc]
theorem LA:∀ (o:Nat) (As:List (List Keyed)),(Ce o As).length=As.length
 |_,[]=>rfl
 |o,R::As=>by rw[Ce,B5,LA,B5]
noncomputable abbrev two (p:Nat × Nat × Nat):Nat × Nat:=(p.1,p.2.1)
structure Run (κ:SortKind) (r:Yr) (a₀:List Keyed) (st:SortSt) (Rs:List (List Keyed)) (rest:List Keyed):Prop where
 k:kindOf st=κ
 f:failedOf st=none
 arr:(arrOf st).toList=Rs.flatten++rest
 perm:(arrOf st).toList.Perm a₀
 srt:∀ X∈Rs,X≠[]/\X.Pairwise (leR r)
 pd:(pendingOf st).toList.map two=Ce 0 Rs
section
variable {prog:Ym} {w:Yo} {A:Yn} {E:Yc} {s:Yl} {κ:SortKind} {vs:Yf} {r:Yr} {a₀:List Keyed} {st:SortSt} {Rs:List (List Keyed)} {rest:List Keyed}
def Run.plen (h:Run κ r a₀ st Rs rest):(pendingOf st).size=Rs.length:=by
 have:=BV List.length h.pd;rw[AG,LA]at this;simpa using this
def cS (h:i+1<Rs.length):∃ As R1 R2 Bs,Rs=As++R1::R2::Bs/\As.length=i:=by
 refine ⟨Rs.take i,Rs[i],Rs[i+1],Rs.drop (i+2),?_,by rw[BN];omega⟩;conv=>lhs;rw[<-DM i Rs,List.drop_eq_getElem_cons (by omega:i<Rs.length),List.drop_eq_getElem_cons h]
def MC (R:Cc prog w s κ vs r) (hv:∀ x∈a₀,x.1∈vs) (h:Run κ r a₀ st Rs rest) (hi:i+1<Rs.length)
  (q:∀ st' Rs',Run κ r a₀ st' Rs' rest->Rs'.length+1=Rs.length->Rs'.flatten.length=Rs.flatten.length->Q true st'):wpS (model prog w) A E s (mergeAt' i) Q st:=by
 obtain ⟨As,R1,R2,Bs,rfl,rfl⟩:=cS hi;have pd:=h.pd;rw[IY,Ce,Ce]at pd;obtain ⟨PA,P1,e1,e2,e3⟩:=List.map_eq_append_iff.mp pd;obtain ⟨p1,P2,e4,e5,e6⟩:=List.map_eq_cons_iff.mp e3;obtain ⟨p2,PB,e7,e8,e9⟩:=List.map_eq_cons_iff.mp e6;subst e4 e7;obtain ⟨x1,x2,pw⟩:=p1;obtain ⟨y1,y2,pw2⟩:=p2;have hPA:PA.length=As.length:=by have:=BV List.length e2;rw[AG,LA]at this;exact this
 obtain ⟨rfl,rfl⟩:x1=0+As.flatten.length/\x2=R1.length:=by have:=e5;simp only[two,Prod.mk.injEq]at this;exact this
 obtain ⟨rfl,rfl⟩:y1=0+As.flatten.length+R1.length/\y2=R2.length:=by have:=e8;simp only[two,Prod.mk.injEq]at this;exact this
 have a1:(pendingOf st)[As.length]?=some (0+As.flatten.length,R1.length,pw):=by
  rw[<-Bb,e1,Cn (by omega),hPA];simp
 have a2:(pendingOf st)[As.length+1]?=some (0+As.flatten.length+R1.length,R2.length,pw2):=by
  rw[<-Bb,e1,Cn (by omega),show As.length+1-PA.length=1 by omega];rfl
 have s1:=h.srt R1 (by simp);have s2:=h.srt R2 (by simp);have harr:(arrOf st).toList=As.flatten++(R1++(R2++(Bs.flatten++rest))):=by rw[h.arr];simp
 refine TR R h.k h.f harr (λx hx=>hv x (h.perm.mem_iff.mp hx)) (by omega) rfl rfl rfl (List.length_pos_iff.mpr s1.1) (List.length_pos_iff.mpr s2.1) s1.2 s2.2 a1 a2 λm st' hk hf hp ha hpm hs=>?_;have hml:m.length=R1.length+R2.length:=by rw[hpm.length_eq,Ae]
 refine q st' (As++m::Bs) ⟨hk,hf,by rw[ha];simp,?_,λX hX=>?_,?_⟩ (by simp;omega) (by simp;omega)
 .refine List.Perm.trans ?_ h.perm;rw[ha,harr];refine List.Perm.append_left _ ?_;rw[<-Bu R1];exact List.Perm.append_right _ hpm
 .rcases AV.mp hX with z|z
  .exact h.srt X (by simp[z])
  .rcases AL.mp z with z|z
   .subst z;refine ⟨λe=>?_,hs⟩;rw[e]at hml;have:=List.length_pos_iff.mpr s1.1;simp at hml;omega
   .exact h.srt X (by simp[z])
 .rw[hp];have hz:As.length+1<(pendingOf st).size:=(Array.getElem?_eq_some_iff.mp a2).1;have e10:(((pendingOf st).setIfInBounds As.length (0+As.flatten.length,R1.length+R2.length,pw)).eraseIdxIfInBounds (As.length+1)).toList=PA++(0+As.flatten.length,R1.length+R2.length,pw)::PB:=by
   rw[Array.toList_eraseIdxIfInBounds,Array.toList_setIfInBounds,e1,<-hPA,List.set_append_right _ _ (AF _),List.eraseIdx_append_of_length_le (by omega)];simp
  rw[e10,Br,Ad,IY,Ce,e2,hml,e9,Nat.add_assoc (0+As.flatten.length)]
end
section
variable {prog:Ym} {w:Yo} {A:Yn} {E:Yc} {s:Yl} {κ:SortKind} {vs:Yf} {r:Yr} {a₀:List Keyed} {st st1:SortSt} {Rs:List (List Keyed)} {rest W:List Keyed} {lo n:Nat}
def Run.total (h:Run κ r a₀ st Rs rest):Rs.flatten.length+rest.length=a₀.length:=by
 have:=h.perm.length_eq;rw[h.arr,Ae]at this;exact this
def Run.size (h:Run κ r a₀ st Rs rest):(arrOf st).size=a₀.length:=by rw[<-BD];exact h.perm.length_eq
def RI (h:Run κ r a₀ st Rs rest) (c:CB lo st st1) (hl:lo=Rs.flatten.length):∃ W,Run κ r a₀ st1 Rs W/\W.length=rest.length:=by
 have ht:=h.total;have hz:(arrOf st1).toList.length=a₀.length:=by rw[BD,c.size,h.size]
 have e:(arrOf st1).toList.take lo=Rs.flatten:=by
  apply List.ext_getElem?;intro i;rw[List.getElem?_take];by_cases hi:i<lo
  .rw[AD hi,Bb,c.pre i hi,<-Bb,h.arr,Ag (by omega)]
  .rw[AE hi,EG (by omega)]
 refine ⟨(arrOf st1).toList.drop lo,⟨c.k.trans h.k,c.f.trans h.f,?_,(Array.perm_iff_toList_perm.mp c.perm).trans h.perm,h.srt,by rw[c.p];exact h.pd⟩,by rw[Ea];omega⟩;rw[<-e,DM]
def Wi (h:Run κ r a₀ st Rs W) (hl:lo=Rs.flatten.length) (hn:n<=W.length) (hu:RUp r (arrOf st) lo (lo+n)):(W.take n).Pairwise (leR r):=by
 rw[List.pairwise_iff_getElem];intro i j hi hj hij;rw[BN]at hi hj;have at_:∀ (k:Nat) (hk:k<W.length),KR r (arrOf st) (lo+k)=r (W[k]).1:=λk hk=>by
  unfold KR;rw[<-Bb,h.arr,Cn (by omega),show lo+k-Rs.flatten.length=k by omega,AJ hk]
 have:=hu (lo+i) (lo+j) (by omega) (by omega) (by omega);rw[at_ i (by omega),at_ j (by omega)]at this;rw[List.getElem_take,List.getElem_take];exact this
def W5 (h:Run κ r a₀ st Rs W) (hl:lo=Rs.flatten.length) (n1:1<=n) (hn:n<=W.length) (hs:(W.take n).Pairwise (leR r)):Run κ r a₀ (setPending st ((pendingOf st).push (lo,n,0))) (Rs++[W.take n]) (W.drop n):=by
 refine ⟨h.k,h.f,?_,h.perm,λX hX=>?_,?_⟩
 .show (arrOf st).toList=_;rw[h.arr];simp
 .rcases AV.mp hX with z|z
  .exact h.srt X z
  .rw[AU.mp z];exact ⟨λe=>by have:=BV List.length e;rw[BN,DY]at this;omega,hs⟩
 .show ((pendingOf st).push (lo,n,0)).toList.map two=_;rw[Array.toList_push,Br,h.pd,IY,hl];simp[Ce,BN];omega
def Zk (hn:n<=W.length):(Rs++[W.take n]).flatten.length=Rs.flatten.length+n:=by
 simp[BN];omega
def Nx (h:Run κ r a₀ st Rs W) (hl:lo=Rs.flatten.length) (n1:1<=n) (hn:n<=W.length) (hs:(W.take n).Pairwise (leR r)) (hx:x<=lo) (hz:Rs.length<=lo) :
  ∃ lo2 Rs2 rest2,((none:Option Unit),lo+n)=(none,lo2)/\Run κ r a₀ (setPending st ((pendingOf st).push (lo,n,0))) Rs2 rest2/\lo2=Rs2.flatten.length/\x+1<=lo2/\Rs2.length<=lo2 :=
 ⟨_,_,_,rfl,W5 h hl n1 hn hs,by rw[Zk hn,hl],by omega,by rw[Ae];simp only[B5,DY];omega⟩
def ZM [Decidable c] (h:1<n) (e:n=m):(if c then n-2-1 else n-2)+1<m:=by
 split <;> omega
def Z5 (h:Run κ r a₀ st Rs W) (f:Nat × Nat × Nat->Nat × Nat × Nat) (hf:∀ p,two (f p)=two p) (i:Nat):Run κ r a₀ (setPending st ((pendingOf st).modify i f)) Rs W:=by
 refine ⟨h.k,h.f,h.arr,h.perm,h.srt,?_⟩;show ((pendingOf st).modify i f).toList.map two=_;rw[Array.toList_modify,<-h.pd];apply List.ext_getElem?;intro j;rw[AR,AR,List.getElem?_modify];cases (pendingOf st).toList[j]? with
 |none=>rfl
 |some p=>
  by_cases z:i=j
  .simp[z,hf]
  .simp[z]
set_option maxHeartbeats 4000000 in
def Y7 (R:Cc prog w s κ vs r) (hv:∀ x∈a₀,x.1∈vs) (h:Run κ r a₀ st [] a₀)
  (q:∀ st',failedOf st'=none->Mgd (leR r) a₀ (arrOf st').toList->Q () st'):wpS (model prog w) A E s sortRuns' Q st:=by
 have hN:=h.size;refine wpS_bind (wpS_get ?_);refine wpS_bind (wpS_mono (wpS_forRange (I:=λx c st'=>∃ lo Rs rest,c=(none,lo)/\Run κ r a₀ st' Rs rest/\lo=Rs.flatten.length/\x<=lo/\Rs.length<=lo) (Q:=λc st'=>∃ lo Rs,c=(none,lo)/\Run κ r a₀ st' Rs []/\Rs.length<=lo/\lo<=a₀.length) ?step ?fin ⟨0,[],a₀,rfl,h,rfl,AF _,AF _⟩) ?post)
 case fin=>
  intro c st' hI;refine Classical.byContradiction λG=>?_;obtain ⟨lo,Rs,rest,eI1,h,hlo,hp,hz⟩:=hI;refine G ?_;clear G;subst eI1;have ht:=h.total;have:rest=[]:=GB.mp (by have:max 0 (arrOf st).size<=lo:=hp;omega);subst this;exact ⟨lo,Rs,rfl,h,hz,by omega⟩
 case post=>
  intro c st' hI;refine Classical.byContradiction λG=>?_;obtain ⟨lo,Rs,eI1,h,hz,hz2⟩:=hI;refine G ?_;clear G;subst eI1;refine wpS_bind (wpS_mono (wpS_forRange (I:=λx c st'=>c=(none,()) /\ ∃ Rs,Run κ r a₀ st' Rs []/\Rs.length+x<=max (a₀.length) (x+1)) (Q:=λc st'=>c=(none,()) /\ ∃ Rs,Run κ r a₀ st' Rs []/\Rs.length<=1) ?step2 ?fin2 ⟨rfl,Rs,h,by omega⟩) ?post2)
  case fin2=>
   intro c st' hI;refine Classical.byContradiction λG=>?_;obtain ⟨eI1,Rs,h,hx⟩:=hI;refine G ?_;clear G;subst eI1;have hx':Rs.length+max 0 (arrOf st).size<=max a₀.length (max 0 (arrOf st).size+1):=hx;exact ⟨rfl,Rs,h,by omega⟩
  case post2=>
   intro c st' hI;refine Classical.byContradiction λG=>?_;obtain ⟨eI1,Rs,h,hx⟩:=hI;refine G ?_;clear G;subst eI1;refine wpS_pure (q st' h.f ⟨h.perm,?_⟩);rw[h.arr,CG];match Rs,hx,h with
   |[],_,_=>exact .nil
   |[X],_,h=>simpa using (h.srt X (by simp)).2
   |_::_::_,hx,_=>simp at hx
  case step2=>
   intro x c st' _ hx hI;refine Classical.byContradiction λG=>?_;obtain ⟨eI1,Rs,h,hr⟩:=hI;refine G ?_;clear G;subst eI1;refine wpS_bind (wpS_get ?_);have hpl:=h.plen;refine zU (λc1=>wpS_pure ⟨rfl,Rs,h,Ak (Nat.le_of_eq hpl.symm) c1⟩) (λc1=>?_);have c1':1<(pendingOf st').size:=by have:¬ (pendingOf st').size<=1:=c1;omega
   refine wpS_bind (MC R hv h ?_ λst2 Rs2 h2 l1 l2=>?_)
   .exact ZM c1' hpl
   .exact zU (λz=>absurd z (by decide)) (λ_=>wpS_pure ⟨rfl,Rs2,h2,by omega⟩)
 case step=>
  intro x c st' _ hx hI;refine Classical.byContradiction λG=>?_;obtain ⟨lo,Rs,rest,eI1,h,hlo,hp,hz⟩:=hI;refine G ?_;clear G;subst eI1;have ht:=h.total;refine zU (λc1=>?_) (λc1=>?_)
  .have c1':(arrOf st).size<=lo:=c1;have:rest=[]:=GB.mp (by omega);subst this;exact wpS_pure ⟨lo,Rs,rfl,h,hz,by omega⟩
  have c1':lo<(arrOf st).size:=Nat.lt_of_not_le c1;have hv':∀ x∈(arrOf st').toList,x.1∈vs:=λx hx=>hv x (h.perm.mem_iff.mp hx);refine wpS_bind (Xn (lo:=lo) (nrem:=(arrOf st).size-lo) R h.k hv' (by rw[h.size];omega) (by omega) λn st1 cb n1 n2 hu=>?_);refine zU (λc2=>?_) (λc2=>?_)
  case' refine_1=>
   refine wpS_bind (wpS_lift (Ca ⟨rfl,?_⟩));have c2':n<minRun' (arrOf st).size (arrOf st).size 0:=c2;refine wpS_bind (cT (n:=min ((arrOf st).size-lo) (minRun' (arrOf st).size (arrOf st).size 0)) R h.k hv' cb (by rw[h.size];omega) n1 (by omega) hu λst2 cb2 hu2=>?_);replace n1:1<=min ((arrOf st).size-lo) (minRun' (arrOf st).size (arrOf st).size 0):=by omega
   replace n2:min ((arrOf st).size-lo) (minRun' (arrOf st).size (arrOf st).size 0)<=(arrOf st).size-lo:=by omega
   refine zU (λz=>absurd z (by decide)) (λ_=>?_);replace hu:=hu2;replace cb:=cb2
  all_goals
   obtain ⟨W,hW,hWl⟩:=RI h cb hlo;have n3:=Ak n2 (show (arrOf st).size-lo<=W.length by omega);have hs:=Wi hW hlo n3 hu;refine wpS_bind (wpS_get ?_);split
   .refine wpS_bind (wpS_mono (wpS_forRange (I:=λy c st3=>c=(none,()) /\ ∃ Rs3,Run κ r a₀ st3 Rs3 W/\Rs3.flatten.length=Rs.flatten.length/\Rs3.length<=lo) (Q:=λc st3=>c=(none,()) /\ ∃ Rs3,Run κ r a₀ st3 Rs3 W/\Rs3.flatten.length=Rs.flatten.length/\Rs3.length<=lo) ?step3 (λ_ _ z=>z) ⟨rfl,Rs,hW,rfl,hz⟩) ?post3)
    case step3=>
     intro y c st3 _ _ hI;refine Classical.byContradiction λG=>?_;obtain ⟨eI1,Rs3,h3,l3,z3⟩:=hI;refine G ?_;clear G;subst eI1;refine wpS_bind (wpS_get ?_);have hpl:=h3.plen;dsimp only;by_cases hp1:(pendingOf st3).size>1
     .obtain ⟨p,ep⟩:∃ p,(pendingOf st3)[(pendingOf st3).size-2]?=some p:=⟨_,DC (by omega)⟩;rw[AD hp1,ep];refine zU (λ_=>wpS_pure ⟨rfl,Rs3,h3,l3,z3⟩) (λ_=>?_);refine wpS_bind (MC R hv h3 (i:=(pendingOf st3).size-2) (by omega) λst4 Rs4 h4 l4 z4=>?_);exact zU (λz=>absurd z (by decide)) (λ_=>wpS_pure ⟨rfl,Rs4,h4,by omega,by omega⟩)
     .rw[AE hp1];exact wpS_pure ⟨rfl,Rs3,h3,l3,z3⟩
    case post3=>
     intro c st3 hI;refine Classical.byContradiction λG=>?_;obtain ⟨eI1,Rs3,h3,l3,z3⟩:=hI;refine G ?_;clear G;subst eI1;refine wpS_bind (wpS_modify (wpS_bind (wpS_modify (wpS_pure ?_))));refine Nx (Z5 h3 _ ?_ _) (hlo.trans l3.symm) n1 n3 hs hp z3;rintro ⟨a,b,c⟩;rfl
   .exact wpS_bind (wpS_modify (wpS_pure (Nx hW hlo n1 n3 hs hp hz)))
end
section
variable {prog:Ym} {w:Yo} {A:Yn} {E:Yc} {s:Yl} {κ:SortKind} {vs:Yf} {r:Yr}
def Uq (R:Cc prog w s κ vs r):wpS (model prog w) A E s sortRuns' (λ_ st=>failedOf st=none/\((arrOf st).map (·.2)).toList.Perm vs/\((arrOf st).map (·.2)).toList.Pairwise λx y=>r x<=r y) (SortSt.mk' κ (pairsOf vs) #[] 7 none):=by
 have hz:(pairsOf vs).toList=vs.zip vs:=pairsOf_toList vs;have hv:∀ p∈(pairsOf vs).toList,p.1∈vs:=λp hp=>by rw[hz]at hp;exact (mem_zip_self hp).2
 refine Y7 R hv ⟨rfl,rfl,rfl,.refl _,(λX hX=>absurd hX (by simp)),rfl⟩ λst hf hm=>⟨hf,?_,?_⟩
 .rw[Array.toList_map];have:=hm.1.map (·.2);rw[hz,List.map_snd_zip (AF _)]at this;exact this
 .rw[Array.toList_map];refine List.pairwise_map.mpr ((List.Pairwise.and_mem.mp hm.2).imp λ{x y} h=>?_);have hx:=(mem_zip_self (hz▸hm.1.mem_iff.mp h.1)).1;have hy:=(mem_zip_self (hz▸hm.1.mem_iff.mp h.2.1)).1;rw[<-hx,<-hy];exact h.2.2
def VO
  (hc:wpAny (model prog w) A.in1 (collect v) (λvs s1=>vs.length<=sizeLine/\Kp s1.heap vs /\
   ∀ (h':Heap) (out:List Value) (n:Nat),(∀ b u,s1.heap.get? b=some u->h'.get? b=some u)->h'.get? s1.heap.objs.size=some (seqObj "list" out.toArray n)->out.Perm vs->out.Pairwise (λx y=>Aa (CA s1.heap y) (CA s1.heap x)=false)->Q (.ref s1.heap.objs.size) { s1 with heap:=h' }) E s) :
  wpAny (model prog w) A (call (.builtin "sorted") [v]) Q E s:=by
 refine Calls.call_function_entry kind_sorted plain_sorted entry_sorted (args_sorted1 _) ?_;unfold Builtin.«sorted»;refine AA (m:=checkCount "sorted" 1 1 _) (AB ?_);refine AA (Ar hc (λvs s1 z=>?_) λ_ _ e=>e);obtain ⟨hz,ht,h⟩:=z;refine AA (wpAny_newList ?_ hz);have hoL:(s1.heap.push (seqObj "list" vs.toArray 0)).get? s1.heap.objs.size=some (seqObj "list" vs.toArray 0):=AN _ rfl;refine AA (Bw (BY slot_list_sort ⟨_,hoL,rfl⟩ entry_list_sort (XS (κ:=tuples' true) (F:=λout=>out.toList.Perm vs/\out.toList.Pairwise (λx y=>Aa (CA s1.heap y) (CA s1.heap x)=false)) (s:={ s1 with heap:=s1.heap.push (seqObj "list" vs.toArray 0) }) hoL hz (λout e=>by rw[<-BD];exact e.1.length_eq) (λh2=>⟨by simp,?_⟩) ?_ λout e=>⟨_,rfl,?_⟩) (args_list_sort _)))
 .match vs,h2 with
  |[],_=>exact .nil
  |[x],_=>simp
  |_::_::_,h2=>simp at h2;omega
 .intro h2 h6 k6;have kT:∀ {v xs},BW s1.heap v xs->BW h6 v xs:=λ{v xs} t=>t.keep λb o _ e=>k6 b o (λz=>Bh _ (z▸AI e)) (AH _ e);have ht6:Kp h6 vs:=λv hv=>let ⟨x,xs,t⟩:=ht v hv;⟨x,xs,kT t⟩;refine ⟨λA E Q q=>?_,λA E=>wpS_mono (Uq (Uo (s:={ s1 with heap:=h6 }) ht6)) ?_⟩
  .match vs,h2,ht6 with
   |v::vs,_,ht6=>exact dF (s:={ s1 with heap:=h6 }) ht6 q
  .rintro _ st ⟨e1,e2,e3⟩;refine ⟨e1,e2,(List.Pairwise.and_mem.mp e3).imp λ{x y} z=>?_⟩;have mx:=e2.mem_iff.mp z.1;have my:=e2.mem_iff.mp z.2.1;obtain ⟨a,as,tx⟩:=ht x mx;obtain ⟨b,bs,ty⟩:=ht y my;rw[Ex tx,Ex ty,<-Ex (kT tx),<-Ex (kT ty),OV (ks:=vs.map (CA h6)) (List.mem_map_of_mem my) (List.mem_map_of_mem mx)];have:rkV h6 vs x<=rkV h6 vs y:=z.2.2;unfold rkV at this;exact AS (by omega)
 .refine AB ⟨_,rfl,?_⟩;have g1:=get?_update_seq hoL (λ_=> #[]);have g4:=get?_update_seq (AH (seqObj "list" #[] 0) (AH (seqObj "tuple" vs.toArray 0) g1)) (λ_=>out);refine h _ out.toList _ (λb u e=>?_) (by rw[Array.toArray_toList];exact g4) e.1 e.2;have hb:s1.heap.objs.size≠b:=λz=>Bh _ (z▸AI e);exact (EC _ _ hb).trans (AH _ (AH _ ((EC _ _ hb).trans (AH _ e))))
noncomputable def leL (a b:Ye):Bool:=!Aa b a
noncomputable def Aw (ts:Ya):List (List Int):=ts.mergeSort leL
def Vh (a b c:Ye) (h1:leL a b=true) (h2:leL b c=true):leL a c=true:=by
 unfold leL at *;rw[Bool.not_eq_true']at *;cases e:Aa c a with
 |false=>rfl
 |true=>
  cases e2:Aa b a with
  |true=>rw[e2]at h1;cases h1
  |false=>
   cases e3:Aa a b with
   |true=>rw[IE e e3]at h2;cases h2
   |false=>rw[IQ e2 e3]at h2;rw[h2]at e;cases e
def Z0 (a b:Ye):(leL a b||leL b a)=true:=by
 unfold leL;cases e:Aa b a with
 |false=>rfl
 |true=>
  cases e2:Aa a b with
  |false=>rfl
  |true=>have:=IE e e2;rw[Kc]at this;cases this
def E5 (ts:Ya):(Aw ts).Perm ts:=List.mergeSort_perm ts leL
def RN (ts:Ya):(Aw ts).Pairwise λa b=>Aa b a=false:=(List.pairwise_mergeSort Vh Z0 ts).imp λ{a b} h=>by unfold leL at h;simpa using h
theorem QN:∀ {xs ys:Ya},xs.Perm ys->xs.Pairwise (λa b=>Aa b a=false)->ys.Pairwise (λa b=>Aa b a=false)->xs=ys
 |[],ys,h,_,_=>by rw[List.nil_perm.mp h]
 |x::xs,[],h,_,_=>by have:=h.length_eq;simp at this
 |x::xs,y::ys,h,hx,hy=>by
  have px:=Cj.mp hx;have py:=Cj.mp hy;have e:x=y:=by
   have m1:x∈y::ys:=h.mem_iff.mp AW;have m2:y∈x::xs:=h.mem_iff.mpr AW;rcases AL.mp m1 with z|z
   .exact z
   .rcases AL.mp m2 with z'|z'
    .exact z'.symm
    .exact IQ (py.1 x z) (px.1 y z')
  subst e;rw[QN (List.Perm.cons_inv h) px.2 py.2]
def Y8 (h:xs.Perm ts) (hp:xs.Pairwise λa b=>Aa b a=false):xs=Aw ts:=QN (h.trans (E5 ts).symm) hp (RN ts)
end
end ST
namespace L3
open L2 ST
def Il (H:Hp) (ys:List V) (ts:Ya):Prop:=ys.length=ts.length /\ ∀ (i:Nat) t,ts[i]?=some t -> ∃ b,ys[i]?=some (.ref b)/\H b=some (.tup ((kkI t).map kV))
def YH (hl:its.length=ts.length) (ha:∀ (i:Nat) u,its[i]?=some u -> ∃ t b,ts[i]?=some t/\u=.ref b/\H b=some (.tup ((kkI t).map kV))/\BW h1 (.ref b) t)
  (hp:out.Perm its) (hs:out.Pairwise λx y=>Aa (CA h1 y) (CA h1 x)=false):∃ ys,zX ys out/\Il H ys (Aw ts):=by
 have key:∀ u∈its,∃ t b,u=.ref b/\H b=some (.tup ((kkI t).map kV))/\CA h1 u=t:=λu hu=>by
  obtain ⟨i,hi⟩:=List.mem_iff_getElem?.mp hu;obtain ⟨t,b,_,rfl,e1,e2⟩:=ha i u hi;exact ⟨t,b,rfl,e1,Ex e2⟩
 have e0:its.map (CA h1)=ts:=by
  apply List.ext_getElem?;intro i;rw[AR];by_cases hi:i<its.length
  .rw[AJ hi];obtain ⟨t,b,e1,e2,_,e4⟩:=ha i _ (AJ hi);rw[e1,e2];exact BV some (Ex e4)
  .rw[EG (by omega),EG (by omega)];rfl
 have e1:out.map (CA h1)=Aw ts:=Y8 (by rw[<-e0];exact hp.map _) (List.pairwise_map.mpr hs);refine ⟨out.map λu=>match u with|.ref b=> .ref b|_=> .non,?_,?_,λi t et=>?_⟩
 .refine Pt (by simp) λi y u ey eu=>?_;rw[AR,eu]at ey;obtain ⟨t,b,rfl,_⟩:=key u (hp.mem_iff.mp (Ba eu));cases ey;rfl
 .rw[AG,<-e1,AG]
 .rw[<-e1,AR]at et;cases eu:out[i]? with
  |none=>rw[eu]at et;cases et
  |some u=>
   rw[eu]at et;obtain ⟨t',b,rfl,e2,e3⟩:=key u (hp.mem_iff.mp (Ba eu));have et':CA h1 (.ref b)=t:=Bc et;rw[e3]at et';subst et';exact ⟨b,by rw[AR,eu];rfl,e2⟩
theorem Mm:∀ {ts:Ya} {ys:List V},Il H ys ts->zH L H (ts.map λt=>D.tup (t.map D.int)) ys
 |[],ys,h=>by
  have:ys=[]:=GB.mp h.1;subst this;exact .nil
 |t::ts,[],h=>by have:=h.1;cases this
 |t::ts,y::ys,h=>by
  obtain ⟨b,e1,e2⟩:=h.2 0 t rfl;cases e1;refine .cons (Oo (k:=kkI t) ?_ e2) (Mm ⟨Nat.succ.inj h.1,λi u e=>by obtain ⟨b,q1,q2⟩:=h.2 (i+1) u (by simpa using e);exact ⟨b,by simpa using q1,q2⟩⟩);exact LO (DU t)
section
variable {X:Cx}
noncomputable def Hs (ts:Ya):Bool:=ts.all λt=> !t.isEmpty
def Uh (h:Hs ts=true):∀ t∈ts,t≠[]:=λt ht e=>by
 unfold Hs at h;rw[Ab]at h;have:=h t ht;rw[e]at this;cases this
end
section
variable {X:Cx} {a b a2 b2 a3 b3:Expr} {pos:Pos}
noncomputable def IU (k1:Str) (fv:FE) (k2:Str) (fw:FE) (k3:Str) (fz:FE):FE:=λY M=>match toD fv Y (M++[.dict []]) with
 |some (v,M1)=>match toD fw Y M1 with
  |some (w,M2)=>match toD fz Y M2 with
   |some (z,M3)=>match M3[M.length]? with
    |some (.dict [])=>if k1=k2\/k1=k3\/k2=k3 then none else some (.dat (.ref M.length),M3.set M.length (.dict [(.str k1,v),(.str k2,w),(.str k3,z)]))
    |_=>none
   |none=>none
  |none=>none
 |none=>none
def Wm (h1:QE X a (fC (.str k1))) (h2:QE X b fv) (h3:QE X a2 (fC (.str k2))) (h4:QE X b2 fw) (h5:QE X a3 (fC (.str k3))) (h6:QE X b3 fz):QE X (.Dict [some a,some a2,some a3] [b,b2,b3] pos) (IU k1 fv k2 fw k3 fz):=.mk <| PE.imp (aM (JA (BB h1).un (BB h2).un (JA (BB h3).un (BB h4).un (JA (BB h5).un (BB h6).un L9))) rfl rfl (by simp) (by simp)) λτ H Q ⟨L,Y,M,d,M',c,rs,hf,q⟩ p hp=>by
 unfold IU at hf;split at hf
 .rename_i v M1 e2;split at hf
  .rename_i w M2 e4;split at hf
   .rename_i z M3 e6;split at hf
    .rename_i e5;split at hf
     .cases hf
     .rename_i hne;cases hf;obtain ⟨c0,s0⟩:=c.pushO (m:=.dict []) (o:=.dK []) hp ⟨[],zq,rfl⟩;refine ⟨L++[p],Y,_,_,_,c0,rs.stp s0,(rfl:toD (fC (.str k1)) Y (M++[.dict []])=some (.str k1,_)),λL1 H1 x st1 c1 r1=>⟨L1,Y,_,_,_,c1,(rs.stp s0).stp st1,e2,λL2 H2 y st2 c2 r2=>?_⟩⟩;refine ⟨L2,Y,_,_,_,c2,((rs.stp s0).stp st1).stp st2,(rfl:toD (fC (.str k2)) Y M1=some (.str k2,_)),λL3 H3 x' st3 c3 r3=>⟨L3,Y,_,_,_,c3,(((rs.stp s0).stp st1).stp st2).stp st3,e4,λL4 H4 y' st4 c4 r4=>?_⟩⟩;refine ⟨L4,Y,_,_,_,c4,((((rs.stp s0).stp st1).stp st2).stp st3).stp st4,(rfl:toD (fC (.str k3)) Y M2=some (.str k3,_)),λL5 H5 x'' st5 c5 r5=>⟨L5,Y,_,_,_,c5,(((((rs.stp s0).stp st1).stp st2).stp st3).stp st4).stp st5,e6,λL6 H6 y'' st6 c6 r6=>?_⟩⟩;have st:=(((((s0.trans st1).trans st2).trans st3).trans st4).trans st5).trans st6;have hx:x=.str k1:=by unfold Rep at r1;exact r1
      have hx':x'=.str k2:=by unfold Rep at r3;exact r3
      have hx'':x''=.str k3:=by unfold Rep at r5;exact r5
      have lp:L6[M.length]?=some p:=by
       obtain ⟨N,hN⟩:=(((((st1.trans st2).trans st3).trans st4).trans st5).trans st6).pre;rw[hN,<-c.len];simp
      obtain ⟨vs,ev,dv⟩:=c6.obj _ p _ lp e5;unfold AM at dv;subst dv;have hm:F9 [] [((Sum.inr k1:Key),y),(Sum.inr k2,y'),(Sum.inr k3,y'')]=[((Sum.inr k1:Key),y),(Sum.inr k2,y'),(Sum.inr k3,y'')]:=by
       unfold F9 BH;have h12:¬ ((Sum.inr k1:Key)=Sum.inr k2):=λz=>hne (.inl (Sum.inr.inj z));have h13:¬ ((Sum.inr k1:Key)=Sum.inr k3):=λz=>hne (.inr (.inl (Sum.inr.inj z)));have h23:¬ ((Sum.inr k2:Key)=Sum.inr k3):=λz=>hne (.inr (.inr (Sum.inr.inj z)));simp[h12,h13,h23,BH]
      refine ⟨ev,[(Sum.inr k1,y),(Sum.inr k2,y'),(Sum.inr k3,y'')],by rw[hx,hx',hx''];rfl,by simp,?_⟩;rw[hm];obtain ⟨c7,s7⟩:=c6.put (m:=.dict [(.str k1,v),(.str k2,w),(.str k3,z)]) (o':=.dK [(Sum.inr k1,y),(Sum.inr k2,y'),(Sum.inr k3,y'')]) lp ev (λ_ z=>by cases z) (λ_ _ z=>by cases z) λs7=>⟨_,zq,_,y,[(Sum.inr k2,y'),(Sum.inr k3,y'')],rfl,rfl,(r2.stp (((st3.trans st4).trans st5).trans st6)).stp s7,_,y',[(Sum.inr k3,y'')],rfl,rfl,(r4.stp (st5.trans st6)).stp s7,_,y'',[],rfl,rfl,r6.stp s7,rfl⟩;refine q _ _ _ (st.trans s7) c7 ?_;unfold zT Rep;exact ⟨p,rfl,lp⟩
    .cases hf
   .cases hf
  .cases hf
 .cases hf
end
section
variable {prog:Ym} {w:Yo} {A:Yn} {E:Yc} {s:Yl} {d:Yt} {ep:Nat} {o:Obj} {es:Array DictEntry}
def Zd (hd:(d==sysModules)=false) (hT:s.TypeIs (.ref d) "dict") (ho:s.heap.get? d=some o) (hdat:o.data=.dict es ep) (hfit:(es.size:Int)<2 ^ 63)
  (h:Q (!es.isEmpty) { s with toks:=s.toks+1+1 }):wpAny (model prog w) A (truthy (.ref d)) Q E s:=by
 have hne:((es.size:Int) != 0) = !es.isEmpty:=by
  rw[Array.isEmpty];by_cases z:es.size=0
  .simp[z]
  .simp[z]
 have key:wpAny (model prog w) A (runValue (.builtin "len" ⟨[.ref d],[]⟩)) (λr s'=>r=.int es.size (s.toks+1)/\Q (!es.isEmpty) s') E s:=by
  refine wpAny_runValue (C1 entry_len ?_);rw[Dv plain_len _];unfold Builtin.«len»;refine AA (AB ?_);refine AA (CY hT F.slot_dict_len (call_meetsIn F.slot_dict_len hT F.entry_dict_len (F.args_dict_len_1 _) (WB hd) ⟨o,es,ep,ho,hdat,?_⟩));refine AA (Bw (AB (AA (wpAny_letGo ?_))));rw[AE (by omega)];rw[AE (by omega)];exact AA (wpAny_mkInt (AB ⟨rfl,h⟩))
 unfold truthy
 first
  |refine AA (wpAny_callSpecial?_none hT noBool_dict ?_)
  |refine AA (AB (AA (wpAny_callSpecial?_none hT noBool_dict ?_)))
 first
  |refine AA (wpAny_specialOf hT F.slot_dict_len.lookup ?_)
  |refine AA (AB (AA (wpAny_specialOf hT F.slot_dict_len.lookup ?_)))
 first
  |exact AA (Ar key (λr s' h'=>by obtain ⟨rfl,hq⟩:=h';exact AB (hne▸hq)) λ_ _ e=>e)
  |exact AA (AB (AA (Ar key (λr s' h'=>by obtain ⟨rfl,hq⟩:=h';exact AB (hne▸hq)) λ_ _ e=>e)))
end
noncomputable def FU (M:Mem) (x:EV):Option (List (D × D)):=match x with
 |.dat (.ref n)=>match M[n]? with
  |some (.dicT ps)=>some ps
  |some (.froT ps)=>some ps
  |_=>none
 |_=>none
def PL {K:Yb} {L:Yg} {M:Mem} {H H0:Hp} {x:EV} {v:V} {ps:List (D × D)} (c:Cor K L M H) (r:zT H0 L H x v) (h:FU M x=some ps):∃ a vs,v=.ref a/\Rd H a (.dT vs)/\AM tkD L H ps vs:=by
 unfold FU at h;split at h
 .rename_i n;unfold zT Rep at r;obtain ⟨a,rfl,ea⟩:=r;split at h
  .rename_i ps' e;cases h;obtain ⟨vs,e3,r3⟩:=c.obj n a _ ea e;exact ⟨a,vs,rfl,.inl e3,r3⟩
  .rename_i ps' e;cases h;obtain ⟨o,vs,e3,r3⟩:=c.obj n a _ ea e;exact ⟨a,vs,rfl,.inr ⟨o,e3⟩,r3⟩
  .cases h
 .cases h
section
variable {X:Cx} {a:Expr} {f:FE}
noncomputable def HW (f:FE):FT:=λY M=>match f Y M with
 |some (x,M1)=>match FU M1 x with
  |some ps=>some (!ps.isEmpty,M1)
  |none=>none
 |none=>none
def aB (h:QE X a f) (he:∀ whole,isTrue a X.env whole=(do let v <- whole;standAt a.pos;holding [v] (truthy v)):=by intro _;rfl):QT X a (HW f):=.mk <| by
 intro zB s τ H Q I ⟨L,Y,M,d,M',c,rs,hf,q⟩;unfold HW at hf;split at hf
 .rename_i x M1 e1;split at hf
  .rename_i ps e2;cases hf;refine isTrue_plain (thn (h.un zB s τ H (λv H1=>∃ L1,Stp L H L1 H1/\Cor X.K L1 M' H1/\zT H L1 H1 x v) I ⟨L,Y,M,_,_,c,rs,e1,λL1 H1 v s1 c1 r1=>⟨L1,s1,c1,r1⟩⟩) λu s1 ⟨v,H1,I1,rv,L1,st,c1,r1⟩=>?_) (he _);obtain ⟨p,vs,rfl,rd,r3⟩:=PL c1 r1 e2;cases rv;have hn:=GQ;obtain ⟨z1,z2,xs,r,o,es,en,h1,h2,h3,h4,h5⟩:=(show zr X.prog X.w H1 s1.heap p (.dT vs)from rd.ok I1.hok);have hsz:es.size=vs.length:=by rw[Paired.length r,<-BD,h4,AG]
   refine Zd z2 ⟨o,h1,h2.1⟩ h1 h3 (by omega) ⟨H1,I1.tok _,?_⟩;have hl:=r3.length;have:(!es.isEmpty) = !ps.isEmpty:=by
    rw[Array.isEmpty,hsz,hl];cases ps <;> simp
   rw[this];exact q L1 H1 st c1
  .cases hf
 .cases hf
end
section
variable {X:Cx} {e:Expr} {es:Yi} {ek:Nat} {ep apos cpos:Pos} {f:FE}
def Rj (ho:PE X e td) (hbase:attributeBase e "items" X.env (eval e X.env)=eval e X.env:=by rfl) (hline:(apos.endLine==cpos.line)=true:=by rfl) :
  PI X (.Tuple es ek ep) (.Call (.Attribute e "items" apos) [] [] cpos) (λY H R=>td Y H λx H1=>∃ d kvs,x=.ref d/\((H1 d=some (.dT kvs) /\ ∀ o,R (Hi d o kvs) (upd H1 d (.frz o (.dT kvs)))) \/ ∃ o,H1 d=some (.frz o (.dT kvs))/\R (Hi d o kvs) H1)):=by
 intro zB s Y H R I h;refine wpAny_Call_method0_late hbase hline (thn (ho zB s Y H _ I h) λv s1 ⟨x,H1,I1,r1,d,kvs,ex,q⟩=>?_);subst ex;cases r1;rcases q with ⟨ed,q⟩|⟨o,ed,q⟩
 .obtain ⟨t1,t2,t3⟩:=LV I1 (.inr ⟨kvs,.inl ed⟩);refine ⟨"dict", "dict.items", PySem.F.plainAttrs_dict,PySem.F.slot_dict_items,PySem.F.type_dict_items,t1,t2,Calls.callWith_builtin rfl (PySem.evalArgs_none ?_)⟩;refine call_meetsIn PySem.F.slot_dict_items t1 PySem.F.entry_dict_items (PySem.F.args_dict_items_1 _) (Qf d t3) ⟨t1,?_⟩;obtain ⟨o,es',en,h1,h3,I0⟩:=Ub I1 ed;refine MU ⟨_,AN _ rfl,rfl,rfl⟩ (AH _ h1) h3 ?_;have ge:s1.heap.objs.size<=(s1.heap.push { cls:=.type "dict_items", data:=.fields #[.ref d] }).objs.size:=by rw[CK];exact DF _
  refine ⟨_,[_],_,_,_,rfl,I0.kept λb q z=>AH _ (AH _ z),NS h3,⟨_,_,AN _ rfl⟩,λc hc=>?_,q o⟩;cases AU.mp hc;exact I0.fpOk ge (I0.hok.fresh ge)
 .obtain ⟨t1,t2,t3⟩:=LV I1 (.inr ⟨kvs,.inr ⟨o,ed⟩⟩);refine ⟨"dict", "dict.items", PySem.F.plainAttrs_dict,PySem.F.slot_dict_items,PySem.F.type_dict_items,t1,t2,Calls.callWith_builtin rfl (PySem.evalArgs_none ?_)⟩;refine call_meetsIn PySem.F.slot_dict_items t1 PySem.F.entry_dict_items (PySem.F.args_dict_items_1 _) (Qf d t3) ⟨t1,?_⟩;obtain ⟨h1,_,_,xs,r,o',es',en,h1',h2,h3,h4,h5⟩:=(show zr X.prog X.w H1 s1.heap d (.frz o (.dT kvs))from I1.hok d _ ed);rw[h1]at h1';cases h1';refine MU ⟨_,AN _ rfl,rfl,rfl⟩ (AH _ h1) h3 ?_;have ge:s1.heap.objs.size<=(s1.heap.push { cls:=.type "dict_items", data:=.fields #[.ref d] }).objs.size:=by rw[CK];exact DF _
  refine ⟨_,[_],_,_,_,rfl,I1.kept λb q z=>AH _ (AH _ z),NS h3,⟨_,_,AN _ rfl⟩,λc hc=>?_,q⟩;cases AU.mp hc;exact I1.fpOk ge (I1.hok.fresh ge)
noncomputable def EO (f:FE):FI:=λY M=>match f Y M with
 |some (.dat (.ref n),M1)=>match M1[n]? with
  |some (.dicT ps)=>some (ps.map λp=>D.tup [p.1,p.2],none,M1.set n (.froT ps))
  |some (.froT ps)=>some (ps.map λp=>D.tup [p.1,p.2],none,M1)
  |_=>none
 |_=>none
def aV (h:QE X e f) (hbase:attributeBase e "items" X.env (eval e X.env)=eval e X.env:=by rfl) (hline:(apos.endLine==cpos.line)=true:=by rfl) :
  QI X (.Tuple es ek ep) (.Call (.Attribute e "items" apos) [] [] cpos) (EO f):=.mk <| PI.imp (Rj h.un hbase hline) λτ H R zz=>by
 obtain ⟨L,Y,M,xs,gd,M',c,rs,hf,q⟩:=zz;have fin:∀ {L2:Yg} {H2:Hp} {ps:List (D × D)} {a:Yt} {o:Obj} {vs:List (List Key × V)},H2 a=some (.frz o (.dT vs))->AM tkD L2 H2 ps vs -> ∀ (i:Nat) (d:D),(ps.map λp=>D.tup [p.1,p.2])[i]?=some d->(Hi a o vs).go i H2 /\ ∀ v H3,(Hi a o vs).yld i H2 v H3->(∀ a o,H2 a=some o->H3 a=some o)/\Rep L2 H3 d v:=by
  intro L2 H2 ps a o vs hz r4 i d hd;rw[AR]at hd;cases hp:ps[i]? with
  |none=>rw[hp]at hd;cases hd
  |some p=>
   rw[hp]at hd;cases hd;obtain ⟨k,x,hk,ek,rx⟩:=Ms r4 hp;refine ⟨⟨hz,(AK.mp hk).1⟩,λv H3 hy=>?_⟩;obtain ⟨T,b,k',x',hk',rfl,hT,hb,rfl⟩:=hy;rw[hk]at hk';cases hk';exact ⟨λa o e=>by rw[zP (zi e hT)];exact e,Rep.newTup hT (.cons (Oo ek hb) (.cons rx .nil))⟩
 unfold EO at hf;split at hf
 .rename_i n M1 e1;split at hf
  .rename_i ps e2;cases hf;refine ⟨L,Y,M,_,_,c,rs,e1,λL1 H1 v s1 c1 r1=>?_⟩;unfold zT Rep at r1;obtain ⟨a,rfl,ea⟩:=r1;obtain ⟨vs,e3,r3⟩:=c1.obj n a _ ea e2;refine ⟨a,vs,rfl,.inl ⟨e3,λo=>?_⟩⟩;obtain ⟨c2,s2⟩:=c1.put (m:=.froT ps) ea e3 (λ_ z=>by cases z) (λ_ _ z=>by cases z) λs2=>⟨o,_,zq,r3.stp s2⟩;refine q L1 _ _ (s1.trans s2) c2 λL2 H2 M2 s3 c3 _=>?_;have hz:H2 a=some (.frz o (.dT vs)):=s3.frz _ _ _ zq;have r4:=r3.stp (s2.trans s3);exact ⟨λi d hd=>fin hz r4 i d hd,hz,by rw[AG,r4.length];exact AF _⟩
  .rename_i ps e2;cases hf;refine ⟨L,Y,M,_,_,c,rs,e1,λL1 H1 v s1 c1 r1=>?_⟩;unfold zT Rep at r1;obtain ⟨a,rfl,ea⟩:=r1;obtain ⟨o,vs,e3,r3⟩:=c1.obj n a _ ea e2;refine ⟨a,vs,rfl,.inr ⟨o,e3,?_⟩⟩;refine q L1 _ _ s1 c1 λL2 H2 M2 s3 c3 _=>?_;have hz:H2 a=some (.frz o (.dT vs)):=s3.frz _ _ _ e3;have r4:=r3.stp s3;exact ⟨λi d hd=>fin hz r4 i d hd,hz,by rw[AG,r4.length];exact AF _⟩
  .cases hf
 .cases hf
end
section
variable {X:Cx}
def UW (hc:X.calm=true):B9 X (.builtin "sorted") (λxs H Q=>∃ (d:Addr) (kvs:List (List Key × V)) (ts:List (List Int)),xs=[.ref d]/\Rd H d (.dT kvs)/\kvs.map (·.1)=ts.map kkI/\(∀ t∈ts,t≠[]) /\ ∀ ys l,Il H ys (Aw ts)->H l=none->Q (.ref l) (upd H l (.lst ys))):=by
 intro zB s Y H xs us Q I r h;obtain ⟨d,kvs,ts,rfl,ed,ets,hne,q⟩:=h;obtain ⟨u,rfl,rx⟩:=D5 r;cases rx;obtain ⟨z1,z2,xs,r,o,es,en,h1,h2,h3,h4,h5⟩:=(show zr X.prog X.w H s.heap d (.dT kvs)from ed.ok I.hok);have hsz:es.size=kvs.length:=by rw[Paired.length r,<-BD,h4,AG]
 have htl:ts.length=kvs.length:=by have:=BV List.length ets;simpa using this.symm
 have kat:∀ (i:Nat) t,ts[i]?=some t -> ∃ b u,es[i]?=some (entryOfKey (tupleKind (zw X.prog X.w)) (kkI t,b,u))/\H b=some (.tup ((kkI t).map kV)):=by
  intro i t e;have hi:i<kvs.length:=by rw[<-htl];exact (AK.mp e).1
  have e1:(kvs.map (·.1))[i]?=some (kkI t):=by rw[ets,AR,e];rfl
  rw[AR,AJ hi]at e1;have e2:kvs[i]?=some (kkI t,kvs[i].2):=by rw[AJ hi];have:=Bc e1;rw[<-this]
  obtain ⟨b,u,h6,h7,_⟩:=Qv r e2;exact ⟨b,u,by rw[<-Bb,h4,AR,h6];rfl,h7⟩
 refine VO (eI (cZ z2 h2.1 h3) (I.ok.hd hc) h1 (by omega) λh' tk acc hk hle hacc=>?_);have hal:acc.toList.length=ts.length:=by rw[BD,hacc.1,hsz,htl]
 have aat:∀ (i:Nat) u,acc.toList[i]?=some u -> ∃ t b,ts[i]?=some t/\u=.ref b/\H b=some (.tup ((kkI t).map kV))/\BW h' (.ref b) t:=by
  intro i u e;have hi:i<ts.length:=by rw[<-hal];exact (AK.mp e).1
  have e0:ts[i]?=some ts[i]:=AJ hi;obtain ⟨b,u',k2,k3⟩:=kat i _ e0;rw[Bb]at e;obtain ⟨e',he',hv⟩:=hacc.2 i u e;rw[k2]at he';cases he';exact ⟨_,b,e0,hv,k3,(VH (I.hok b _ k3)).keep λc o _ eo=>hk c o eo⟩
 refine ⟨by rw[hal,htl];exact z1,λv hv'=>?_,λh2' out n hk2 hL hp hs=>?_⟩
 .obtain ⟨i,hi⟩:=List.mem_iff_getElem?.mp hv';obtain ⟨t,b,e1,rfl,_,tt⟩:=aat i v hi;cases t with
  |nil=>exact absurd rfl (hne _ (Ba e1))
  |cons x t=>exact ⟨x,t,tt⟩
 .obtain ⟨ys,rvy,tv⟩:=YH hal aat hp hs;exact ⟨.ref h'.objs.size,_,I.laid (λb o e=>hk2 b o (hk b o e)) hle (show zr X.prog X.w _ h2' _ (.lst ys)from ⟨by rw[tv.1,(E5 ts).length_eq,htl];exact z1,out,n,rvy,hL⟩),rfl,q ys _ tv (I.hok.fresh hle)⟩
noncomputable def EY:KB:=λxs M=>match xs with
 |[x]=>match FU M x with
  |some ps=>match Gh (ps.map (·.1)) with
   |some ts=>if Hs ts=true then some (.fl ((Aw ts).map λt=>D.tup (t.map D.int)),M) else none
   |none=>none
  |_=>none
 |_=>none
def RF:Dd X.K (λxs H Q=>∃ (d:Yt) (kvs:List (List Key × V)) (ts:Ya),xs=[.ref d]/\Rd H d (.dT kvs)/\kvs.map (·.1)=ts.map kkI/\(∀ t∈ts,t≠[]) /\ ∀ ys l,Il H ys (Aw ts)->H l=none->Q (.ref l) (upd H l (.lst ys))) EY:=by
 intro L M M' H H0 xs d vs Q cc r hk q;unfold EY at hk;split at hk
 .rename_i x;split at hk
  .rename_i ps e1;split at hk
   .rename_i ts e2;split at hk
    .rename_i e3;cases hk;obtain ⟨v,rfl,r1⟩:=r.one;obtain ⟨a,ws,rfl,e4,r3⟩:=PL cc r1 e1;exact ⟨a,ws,ts,rfl,e4,Qa e2 r3,Uh e3,λys l tv hl=>q L _ _ (.upd hl) (cc.upd hl) (zT.newLst' cc hl (Mm tv))⟩
    .cases hk
   .cases hk
  .cases hk
 .cases hk
def Tz (hc:X.calm=true) (hg:Gl X "sorted") (hm:X.mg "sorted" = none) (ha:QAE X [e] fa) (he:starEach [e] X.env=(false,eval e X.env)::starEach [] X.env:=by rfl) (hpl:(backTo pos (starEach [] X.env)).any (·.1)=false:=by rfl):QE X (.Call (.Name "sorted" p) [e] [] pos) (fB EY fa) :=
 Gn RF (UW hc) (by rfl) hg hm ha (by decide) (by decide) he hpl
end
open PySem.Calls
structure LamAt (base:Heap) (l:Lm) (pr:Arguments) (bd:Expr) (sc:Y0) (fs:Yk):Prop where
 len:l.us.length=fs.length
 ex:∃ qual cl pm ctv,base.get? l.f=some { cls:=.type "function", data:=.func (PySem.W.kla_fn "<lambda>" qual pr bd sc cl pm l.c ctv) } /\
  (∀ x y d,cl.lookup x=some d->cl.lookup y=some d->x=y)/\(∀ y∈sc.names,y.2=.free->(cl.lookup y.1).isSome=true)/\(∀ x d,cl.lookup x=some d -> ∃ v,base.IsCell d v) /\
  ∀ (i:Nat) x v,fs[i]?=some x->l.us[i]?=some v -> ∃ d u,cl.lookup x=some d/\zc v u/\base.IsCell d (some u)
noncomputable def spC (K:Yb) (n:Nat) (l:Lm) (g:List D->FF):Sp:=λvs H Q _=>∃ L ds cs M d M',Cor K L M H/\zH L H ds vs/\ds.length=n/\DR H l.c/\zH L H cs l.us/\g cs ds M=some (d,M') /\
 ∀ L' H' v,Stp L H L' H'->Cor K L' M' H'->Rep L' H' d v->Q v H'
structure LamOk (P:Ym) (w:Yo) (K:Yb) (mg:Yh) (base:Heap) (k:Nat) (l:Lm) (n:Nat) (g:List D->FF):Prop where
 ex:∃ fd ps,D3 K fd ps []/\PySem.W.FnAt l.f base/\FnOk P w K mg base CX0 k l.f fd ps (spC K n l g)
structure LamScope (N ps fs:Yk) (pr:Arguments) (bd:Expr) (sc:Y0):Prop where
 kind:sc.kind=.function
 co:sc.isCoroutine=false
 gen:sc.isGenerator=false
 nd:N.Nodup
 pre:N=ps++fs
 par:∀ x∈ps,sc.names.lookup x=some .local
 fre:∀ x∈fs,sc.names.lookup x=some .free
 noc:∀ y∈sc.names,y.2≠.cell
 bind:∀ (qual:Str) cl pm c ctv (us:List Value),us.length=ps.length->bindArgs (PySem.W.kla_fn "<lambda>" qual pr bd sc cl pm c ctv) ⟨us,[]⟩=pure (ps.zip us)
noncomputable def J0 (b:FD):List D->FF:=λcs ds M=>b ((ds++cs).map some) M
noncomputable def KD (P:Ym) (w:Yo) (K:Yb) (mg:Yh) (base:Heap) (N:Yk) (q:Str) (sc:Y0) (f:Yt) (cd:Yu) (cl:Yv) (A:Yn) (outer:List Env) (s:Yl) (H:Hp):Cx where
 prog:=P
 w:=w
 K:=K
 mg:=mg
 base:=base
 A:=A.deeper (PySem.W.envX q sc s.heap.objs.size f cd cl)
 N:=N
 s₀:=s
 H₀:=H
 env:=PySem.W.envX q sc s.heap.objs.size f cd cl
 outer:=outer
 stack:=PySem.W.envX q sc s.heap.objs.size f cd cl::outer
 ex:=[]
 calm:=true
 fn:=λ_=>false
 pn:=[]
 xe:=λ_ _=>False
section
variable {P:Ym} {w:Yo} {K:Yb} {mg:Yh} {base:Heap} {A:Yn} {s:Yl} {R:Yx}
def cK (hroom:A.depth<recursionLimit) (ho:s.heap.get? a=some o)
  (hd':o.data=.func fd) (hco:fd.scope.isCoroutine=false) (hgen:fd.scope.isGenerator=false) (hbody:fd.body=.expr body) (hc:fd.code=.ref c) (hoc:s.heap.get? c=some oc) (hdc:oc.data=.fields vs) (hq:vs[1]?=some (.str q t))
  (h:wpAny (model P w) A.in1 (bindArgs fd args) (λbinds s₁=>
   wpAny (model P w) A.in1 (newFunctionEnv fd.scope fd.globals fd.closure binds (q ++ ".<locals>.") (some a) (.ref c) none fd.builtins)
    (λenv s₂=>s₂.heap.NoLimit/\codeAny (model P w) A (.expr body env) R s₂) (λe s'=>R (.error e) s') s₁) (λe s'=>R (.error e) s') s) :
  codeAny (model P w) A (.call (.ref a) args) R s:=by
 refine codeAny_of_tree ?_;show wpAny _ A.in1 (callAny (.ref a) args) _ _ s;simp only[callAny];refine AA (wpAny_load ho ?_);simp only[hd',callFunction,hco,hgen,hbody,hc];refine AA (m:=field (.ref c) 1) (Cm hoc hdc hq (AA (AB ?_)))
 exact AA (Ar h (λbinds s₁ h₁=>AA (Ar h₁ (λenv s₂ h₂=>AA (wpAny_enterFrame h₂.1 hroom
  (AB (And.intro rfl h₂.2)))) λ_ _ h'=>h')) λ_ _ h'=>h')
def R9:∀ {ps:Yk} {us:Yf} {i:Nat} {x:Str} {u:Yu},ps.Nodup->ps[i]?=some x->us[i]?=some u->(ps.zip us).reverse.lookup x=some u:=by
 intro ps us i x u nd h1 h2;have hm:(x,u)∈(ps.zip us).reverse:=by
  rw[List.mem_reverse];exact Ba (i:=i) (by rw[List.getElem?_zip_eq_some];exact ⟨h1,h2⟩)
 have hu:∀ v,(x,v)∈(ps.zip us).reverse->v=u:=λv hv=>by
  rw[List.mem_reverse]at hv;obtain ⟨j,hj⟩:=List.getElem?_of_mem hv;rw[List.getElem?_zip_eq_some]at hj;have:j=i:=(List.getElem?_inj (AK.mp hj.1).1 nd).mp (hj.1.trans h1.symm);subst this;exact Bc (hj.2.symm.trans h2)
 generalize (ps.zip us).reverse=l at hm hu;induction l with
 |nil=>cases hm
 |cons p r ih=>
  obtain ⟨y,v⟩:=p;rw[D6];cases hb:x==y with
  |true=>
   have:=beq_iff_eq.mp hb;subst this;exact BV some (hu v AW)
  |false=>
   refine ih ?_ λv hv=>hu v (Am _ hv);rcases AL.mp hm with z|z
   .cases z;simp at hb
   .exact z
def Na (h:LamAt base l pr bd sc fs) (S:LamScope N ps fs pr bd sc)
  (hb:∀ (q:Str) (cd:Yu) (cl:Yv) (A:Yn) (outer:List Env) (s:Yl) (H:Hp),Room k (A.deeper (PySem.W.envX q sc s.heap.objs.size l.f cd cl))->QD (KD P w K mg base N q sc l.f cd cl A outer s H) bd b) :
  LamOk P w K mg base (k+1) l ps.length (J0 b):=by
 obtain ⟨qual,cl,pm,ctv,ho,inj,has,cel,cap⟩:=h.ex;refine ⟨_,ps,.all (S.bind qual cl pm l.c ctv),⟨_,_,_,_,ho⟩,λvs H Q E z=>?_,λA outer s H args us vs Q E hr e0 hbd r hsp=>?_⟩
 .obtain ⟨L,ds,cs,M,d,M',c,r,hl,_⟩:=z;rw[r.length,hl]
 obtain ⟨L,ds,cs,M,d,M',c,rd,hl,⟨ca,oc,cvs,q,t,ec,eh,ed,e1⟩,rc,hf,hq⟩:=hsp;have lim:s.heap.NoLimit:=e0.mod.nolimit.keeps λb o e=>(e0.bs b o e).1;obtain ⟨hoc,_⟩:=e0.hok ca _ eh;have hul:us.length=ps.length:=by rw[<-r.length,rd.length,hl]
 refine cK hr.depth (e0.bs _ _ ho).1 rfl S.co S.gen rfl (by exact ec) hoc ed e1 (hbd _ _ _ _ ?_);refine wpAny_newFunctionEnv S.noc (λy hy=>S.par _ (List.of_mem_zip hy).1) (λh' hns hsb=>⟨lim.fresh _ hsb,?_⟩) S.kind;have hk:∀ b o,s.heap.get? b=some o->h'.get? b=some o:=λb o e=>hsb.extBut b o (AX (AI e)) (AH _ e);show codeAny _ _ (.expr bd (PySem.W.envX q sc s.heap.objs.size l.f (.ref ca) cl)) _ _;have cellS:∀ d v,base.IsCell d v->h'.IsCell d v/\H d=none:=λd v ⟨o,e,z⟩=>⟨⟨o,hk _ _ (e0.bs _ _ e).1,z⟩,(e0.bs _ _ e).2⟩;have hN:N.length=(vs++l.us).length:=by rw[S.pre,Ae,Ae,h.len,r.length,hul]
 have I:Inv (KD P w K mg base N q sc l.f (.ref ca) cl A outer s H) [] ((vs++l.us).map some) H { s with heap:=h',toks:=s.toks+(ps.zip us).length }:=by
  have noA:∀ b:Addr,b∉(KD P w K mg base N q sc l.f (.ref ca) cl A outer s H).ex:=λb z=>absurd (show b∈([]:List Addr)from z) (by simp)
  refine ⟨⟨e0.mod,S.kind,rfl,rfl,AF _,inj,λy hy=>?_,λy c z _=>Bool.noConfusion z,λ_=>hr.hd,Around.frames_deeper e0.frames,.inr ⟨rfl,rfl⟩,λb z=>absurd z (noA b),e0.bs,e0.bsz,λb _ _=>noA b,λb z=>absurd z (noA b),e0.funs,e0.frf⟩,
   rfl,e0.bare,Un.kept hk,⟨_,hns,λi y v h1 h2 h3=>?_⟩,λy c z=>?_,e0.hok.fresh (AF _),λy c z=>?_,λp hp=>absurd (show p∈([]:List (Addr × Obj))from hp) (by simp),e0.hok.kept hk,?_⟩
  .have hy:sc.names.lookup y=some .cell\/sc.names.lookup y=some .free:=hy;rcases hy with hy|hy
   .exact absurd rfl (S.noc _ (Bx hy))
   .exact Option.isSome_iff_exists.mp (has _ (Bx hy) rfl)
  .have h1':(ps++fs)[i]?=some y:=by rw[<-S.pre];exact h1
   rw[AR]at h2;have h2':(vs++l.us)[i]?=some v:=by
    cases e:(vs++l.us)[i]? with
    |none=>rw[e]at h2;cases h2
    |some z=>rw[e]at h2;cases h2;rfl
   by_cases hi:i<ps.length
   .rw[Ag hi]at h1';rw[Ag (by rw[r.length,hul];exact hi)]at h2';obtain ⟨u,hu,rv⟩:=r.get h2';have ndP:ps.Nodup:=by have:=S.nd;rw[S.pre]at this;exact (Dm.mp this).1
    exact ⟨u,rv,.inl ⟨S.par y (Ba h1'),R9 ndP h1' hu⟩⟩
   .rw[Cn (by omega)]at h1';have hv:vs.length=ps.length:=by rw[r.length,hul]
    rw[Cn (by omega),hv]at h2';obtain ⟨d,u,e2,rv,ce⟩:=cap _ y v h1' h2';exact ⟨u,rv,.inr ⟨.inr (S.fre y (Ba h1')),d,e2,(cellS d _ ce).1⟩⟩
  .obtain ⟨v,z2⟩:=cel y c z;exact ⟨v,(cellS c v z2).1⟩
  .obtain ⟨v,z2⟩:=cel y c z;exact (cellS c v z2).2
  .rw[AG];exact hN.symm
 refine PySem.W.kla_codeExpr (Ar ((hb q (.ref ca) cl A outer s H (hr.deeper _)).un [] _ _ H (λv H'=>Q v H') I ⟨L,(ds++cs).map some,M,d,M',c,?_,hf,λL' H' v s1 c1 r1=>hq L' H' v s1 c1 r1⟩) (λu s' ⟨v,H',J,rv,z⟩=>⟨v,H',J.os,J.bare,J.base,J.hok,rv,z⟩) λ_ _ z=>False.elim z);have rr:=rd.app rc;refine ⟨by rw[AG,AG,rr.length],λi d' e=>?_⟩;rw[AR]at e ⊢;cases e2:(ds++cs)[i]? with
 |none=>rw[e2]at e;cases e
 |some d2=>
  rw[e2]at e;cases e;obtain ⟨v,e3,r3⟩:=rr.get e2;exact ⟨v,by rw[e3];rfl,r3⟩
end
def F3 (X:Cx) (pr:Arguments) (bd:Expr) (sc:Y0) (H:Hp) (f:Yt) (c:Yu):Prop:=DR H c /\ ∃ qual cl pm ctv,
 H f=some (.ext λh=>h.get? f=some { cls:=.type "function", data:=.func (PySem.W.kla_fn "<lambda>" qual pr bd sc cl pm c ctv) }) /\
 (∀ x d,cl.lookup x=some d->X.env.cells.lookup x=some d) /\ ∀ y∈sc.names,y.2=.free->(cl.lookup y.1).isSome=true
noncomputable def Vb (X:Cx) (P:Yt) (pr:Arguments) (bd:Expr) (sc:Y0):TE:=λ_ H Q=>(∃ ps,H P=some (.tbl ps)/\EZ H ps) /\ ∀ f c H',H f=none->Stp [] H [] H'->F3 X pr bd sc H' f c->Q (.ref f) H'
theorem QF {pos p:Pos}:∀ {l:Yf},TriplesOk l->codeAmong p (l++[rawInt pos.line,rawInt pos.col,c])=some v->codeAmong p l=some v\/v=c
 |[],_,h=>by
  unfold codeAmong at h;simp only[EX]at h;split at h
  .rename_i h2;cases h2;split at h
   .exact .inr (Bc h).symm
   .unfold codeAmong at h;cases h
  .cases h
 |.int a _ :: .int b _::x::r,ht,h=>by
  simp only[List.cons_append,codeAmong]at h ⊢;split at h
  .rename_i hc;rw[AD hc];exact .inl h
  .rename_i hc;rw[AE hc];exact QF (l:=r) ht h
theorem Nd {pos:Pos}:∀ {l:Yf},TriplesOk l->TriplesOk (l++[rawInt pos.line,rawInt pos.col,c])
 |[],_=>trivial
 |.int a _ :: .int b _::x::r,ht=>Nd (l:=r) ht
section
variable {X:Cx} {pr:Arguments} {bd:Expr} {sc:Y0} {pos:Pos} {c P:Yt}
def SW (hcode:X.env.code=.ref c) (hC:PySem.W.codeHdIn X.K c P=true) (hS:∀ y∈sc.names,y.2=.free->(X.env.kindOf y.1=some .cell\/X.env.kindOf y.1=some .free))
  (hd:pr.defaults=[]:=by rfl) (hkd:pr.kw_defaults=[]:=by rfl):PE X (.Lambda pr bd sc pos) (Vb X P pr bd sc):=by
 intro zB s Y H Q I h;obtain ⟨⟨ps,hP,gT⟩,h⟩:=h;have hPo:s.heap.get? P=some (PySem.W.tabObj ps):=I.hok P _ hP;have C:PySem.W.CodeHd s.heap c P:=PySem.W.codeHd_of_K I.kIn hC;obtain ⟨cl,hcl,h1,h2⟩:=NC (env:=X.env) (scope:=sc) λy hy hk=>I.ok.has y.1 (hS y hy hk);have hgl:=I.mod.glob.keeps I.bk;have hgP:mainGlobals≠P:=λq=>by
  obtain ⟨o,es,ep,e,hd,_⟩:=hgl;rw[q,hPo]at e;cases e;cases hd
 obtain ⟨bm,ob,b1,b2,b3,b4,b5,b6⟩:=I.mod.bmn;have b3':=I.bk _ _ b3;have hbG:bm≠mainGlobals:=λq=>by
  obtain ⟨o,es,ep,e,hd,_⟩:=hgl;rw[q,e]at b3';cases b3';rw[hd]at b6;cases b6
 have hbP:bm≠P:=λq=>by
  rw[q,hPo]at b3';cases b3';cases b4
 have hbA:s.heap.BuiltinsAt X.mg P:=⟨bm,ob,b1,b2,hbG,hbP,b3',b4,b5,b6⟩;refine PySem.W.kla_eval (by rw[defaultsOf_eq,hd,hkd];rfl) ?_;cases hf:codeAmong pos ps.toList with
 |some cv=>
  refine PySem.W.kla_makeFunctionHit hcl I.ok.glob hgl hcode C hPo gT.1 hf hbA λctv h' tk hk hsz=>?_;have hn:H h'.objs.size=none:=I.hok.fresh hsz;have hk2:∀ b o,s.heap.get? b=some o->(h'.push { cls:=.type "function", data:=.func (PySem.W.kla_fn "<lambda>" (X.env.qual ++ "<lambda>") pr bd sc cl ((X.mg "__name__").getD .none) cv ctv) }).get? b=some o:=λb o e=>AH _ (hk b o e)
  refine ⟨.ref h'.objs.size,upd H h'.objs.size (.ext λh=>h.get? h'.objs.size=some { cls:=.type "function", data:=.func (PySem.W.kla_fn "<lambda>" (X.env.qual ++ "<lambda>") pr bd sc cl ((X.mg "__name__").getD .none) cv ctv) }),
   I.laid hk2 hsz ⟨AN _ rfl,⟨_,AN _ rfl⟩,λh1 h2 e k=>k _ e⟩,rfl,h _ cv _ hn (.upd hn) ⟨?_,_,_,_,_,zq,h1,h2⟩⟩
  exact (gT.2 pos cv hf).keep λa o u e=>by rw[zP (zi e hn)];exact e
 |none=>
  refine PySem.W.kla_makeFunction hcl I.ok.glob hgl hcode C hPo gT.1 hf hgP hbA λc' ctv h' tk hx hge hlt hrec htb=>?_;obtain ⟨c₂,oc,vs,t,e2,hoc,hdc,hv⟩:=hrec;cases e2;have hPc:P≠c':=λz=>absurd (Az (AI hPo) (by rw[z];exact hge)) (Bh _);have hnc:H c'=none:=I.hok.fresh hge;have hnf:H h'.objs.size=none:=I.hok.fresh (Ak hge (CP hlt));have hPf:P≠h'.objs.size:=λz=>by rw[<-z,hP]at hnf;cases hnf
  have hcf:c'≠h'.objs.size:=AX hlt;generalize hfo:({ cls:=.type "function", data:=.func (PySem.W.kla_fn "<lambda>" (X.env.qual ++ "<lambda>") pr bd sc cl ((X.mg "__name__").getD .none) (.ref c') ctv) }:Obj)=fo;have hpu:(h'.push fo).get? h'.objs.size=some fo:=AN _ (by rw[<-hfo];rfl);generalize hH':upd (upd (upd H P (.tbl (ps ++ #[rawInt pos.line,rawInt pos.col,.ref c']))) c' (.frz oc (.ext λ_=>True))) h'.objs.size (.ext λh=>h.get? h'.objs.size=some fo)=H';have e3:H' h'.objs.size=some (.ext λh=>h.get? h'.objs.size=some fo):=by rw[<-hH'];exact zq
  have e4:H' c'=some (.frz oc (.ext λ_=>True)):=by rw[<-hH',zP hcf];exact zq
  have e5:H' P=some (.tbl (ps ++ #[rawInt pos.line,rawInt pos.col,.ref c'])):=by rw[<-hH',zP hPf,zP hPc];exact zq
  have e6:∀ b,b≠P->b≠c'->b≠h'.objs.size->H' b=H b:=λb z1 z2 z3=>by rw[<-hH',zP z3,zP z2,zP z1]
  have e7:∀ b o,H b=some o->b≠P->H' b=some o:=λb o e z=>by rw[e6 b z (zi e hnc) (zi e hnf)];exact e
  have hk:∀ b o,b≠P->s.heap.get? b=some o->(h'.push fo).get? b=some o:=λb o z e=>AH _ (hx b o z e);have st:Stp [] H [] H':=by
   have hfz:∀ a o u,H a=some (.frz o u)->H' a=some (.frz o u):=λa o u e=>e7 a _ e (C6 e hP (by intro z;cases z));refine ⟨⟨[],by simp⟩,λa ha=> .inl ha,λa o e _ nt=>e7 a o e λz=>?_,λa xs e=>e7 a _ e (C6 e hP (by intro z;cases z)),hfz,λa ps' e=>?_⟩
   .subst z;rw[hP]at e;cases e;exact nt _ rfl
   .by_cases z:a=P
    .subst z;rw[hP]at e;cases e;refine ⟨_,e5,λg=>⟨?_,λp v ev=>?_⟩⟩
     .rw[show (ps ++ #[rawInt pos.line,rawInt pos.col,Value.ref c']).toList=ps.toList++[rawInt pos.line,rawInt pos.col,.ref c'] by simp];exact Nd g.1
     .rw[show (ps ++ #[rawInt pos.line,rawInt pos.col,Value.ref c']).toList=ps.toList++[rawInt pos.line,rawInt pos.col,.ref c'] by simp]at ev;rcases QF g.1 ev with z|z
      .exact (g.2 p v z).keep hfz
      .exact ⟨c',oc,vs,_,t,z,e4,hdc,hv⟩
    .exact ⟨ps',e7 a _ e z,.keep hfz⟩
  subst hfo;refine ⟨.ref h'.objs.size,H',I.un (t':=tk) ⟨λb o e n _ _=>?_,λb o e n _ _=>⟨o.slots,?_⟩,λb o e n _=>?_,λb o e _=>?_,st.tup,st.frz,λb ps' e=>?_⟩ λa o e=>?_,rfl,h _ (.ref c') H' hnf st ⟨⟨c',oc,vs,_,t,rfl,e4,hdc,hv⟩,_,_,_,_,e3,h1,h2⟩⟩
  .exact hk b o (λz=>by rw[z,hP]at n;cases n) e
  .exact hk b o (λz=>by rw[z,hP]at n;cases n) e
  .rw[e6 b (λz=>by rw[z,hP]at n;cases n) (AX (Az (AI e) hge)) (AX (Az (AI e) (Ak hge (CP hlt))))];exact n
  .by_cases z:b=P
   .subst z;exact ⟨_,AH _ htb⟩
   .exact ⟨o,hk b o z e⟩
  .by_cases z:b=P
   .subst z;rw[hP]at e;cases e;exact ⟨_,e5⟩
   .exact ⟨#[],by rw[e7 b _ e z];simp⟩
  .by_cases z1:a=h'.objs.size
   .subst z1;rw[e3]at e;cases e;exact ⟨hpu,⟨_,hpu⟩,λh1 h2 e k=>k _ e⟩
   .by_cases z2:a=c'
    .subst z2;rw[e4]at e;cases e;exact ⟨AH _ hoc,trivial,⟨_,AH _ hoc⟩,λ_ _ _ _=>trivial⟩
    .by_cases z3:a=P
     .subst z3;rw[e5]at e;cases e;exact AH _ htb
     .rw[e6 a z3 z2 z1]at e;refine (I.hok a o e).stay (λb u hb q=>hk b u (λz=>?_) q) (λb q=>e7 b _ q (C6 q hP (by intro z;cases z))) st.tup;rcases hb with z4|z4
      .exact z3 (z4.symm.trans z)
      .rw[z,hP]at z4;cases z4
end
noncomputable def drp (H:Hp) (f:Yt):Hp:=λb=>if b=f then none else H b
def JM (h:b≠f):drp H f b=H b:=AE h
def Kw:drp H f f=none:=AD rfl
section
variable {H:Hp} {f:Yt} {φ:Heap->Prop} {L:Yg}
def BS (e:H b=some o) (hf:H f=some (.ext φ)) (n:∀ ψ,o≠.ext ψ):drp H f b=some o:=by
 rw[JM (C6 e hf (n φ))];exact e
mutual
theorem Rep.drp (hf:H f=some (.ext φ)):∀ {d:D} {v:V},Rep L H d v->Rep L (drp H f) d v
 |.non,_,h=>by unfold Rep at h ⊢;exact h
 |.bl _,_,h=>by unfold Rep at h ⊢;exact h
 |.int _,_,h=>by unfold Rep at h ⊢;exact h
 |.str _,_,h=>by unfold Rep at h ⊢;exact h
 |.tup ds,_,h=>by
  unfold Rep at h ⊢;obtain ⟨a,vs,rfl,e,r⟩:=h;exact ⟨a,vs,rfl,BS e hf (by intro _ z;cases z),zH.drp hf r⟩
 |.ref n,_,h=>by unfold Rep at h ⊢;exact h
 |.fn _ ds,_,h=>by
  unfold Rep at h ⊢;obtain ⟨h1,⟨a,oc,vs,q,t,e1,e2,r⟩,h2⟩:=h;exact ⟨h1,⟨a,oc,vs,q,t,e1,BS e2 hf (by intro _ z;cases z),r⟩,zH.drp hf h2⟩
theorem zH.drp (hf:H f=some (.ext φ)):∀ {ds:List D} {vs:List V},zH L H ds vs->zH L (drp H f) ds vs
 |[],_,h=>by unfold zH at h ⊢;exact h
 |d::ds,_,h=>by
  unfold zH at h ⊢;obtain ⟨v,r,rfl,h1,h2⟩:=h;exact ⟨v,r,rfl,Rep.drp hf h1,zH.drp hf h2⟩
end
theorem AM.drp {κ:Type} {kf:D->Option κ} (hf:H f=some (.ext φ)):∀ {ps:List (D × D)} {vs:List (κ × V)},AM kf L H ps vs->AM kf L (drp H f) ps vs
 |[],_,h=>h
 |p::r,_,h=>by
  obtain ⟨k,v,r',rfl,e,h1,h2⟩:=h;exact ⟨k,v,r',rfl,e,h1.drp hf,AM.drp hf h2⟩
def B6.drp {K:Yb} {a:Yt} {m:MO} (hf:H f=some (.ext φ)) (h:B6 K L H a m):B6 K L (L3.drp H f) a m:=by
 cases m with
 |lst xs=>obtain ⟨vs,e,r⟩:=h;exact ⟨vs,BS e hf (by intro _ z;cases z),r.drp hf⟩
 |fro xs=>obtain ⟨o,vs,e,r⟩:=h;exact ⟨o,vs,BS e hf (by intro _ z;cases z),r.drp hf⟩
 |dict ps=>obtain ⟨vs,e,r⟩:=h;exact ⟨vs,BS e hf (by intro _ z;cases z),r.drp hf⟩
 |dicT ps=>obtain ⟨vs,e,r⟩:=h;exact ⟨vs,BS e hf (by intro _ z;cases z),r.drp hf⟩
 |set _=>obtain ⟨o,u,e⟩:=h;exact ⟨o,u,BS e hf (by intro _ z;cases z)⟩
 |froT ps=>obtain ⟨o,vs,e,r⟩:=h;exact ⟨o,vs,BS e hf (by intro _ z;cases z),r.drp hf⟩
 |froK ps=>obtain ⟨o,vs,e,r⟩:=h;exact ⟨o,vs,BS e hf (by intro _ z;cases z),r.drp hf⟩
def DR.drp (hf:H f=some (.ext φ)) (x:DR H v):DR (L3.drp H f) v:=x.keep λ_ _ _ e=>BS e hf (by intro _ z;cases z)
def Cor.drp {K:Yb} {M:Mem} (hf:H f=some (.ext φ)) (c:Cor K L M H):Cor K L M (L3.drp H f) :=
 ⟨c.len,c.nd,λn a m e1 e2=>(c.obj n a m e1 e2).drp hf,λx hx d P e=>
  let ⟨ps,e1,g⟩:=c.tab x hx d P e
  ⟨ps,BS e1 hf (by intro _ z;cases z),g.keep λ_ _ _ e=>BS e hf (by intro _ z;cases z)⟩⟩
def Stp.drp (hf:H f=some (.ext φ)) (h0:H0 f=none) (s:Stp L0 H0 L H):Stp L0 H0 L (L3.drp H f):=by
 refine ⟨s.pre,s.new,λa o e hl nt=>?_,λa xs e=>BS (s.tup a xs e) hf (by intro _ z;cases z),λa o u e=>BS (s.frz a o u e) hf (by intro _ z;cases z),λa ps e=>?_⟩
 .rw[JM (zi e h0)];exact s.old a o e hl nt
 .obtain ⟨p,e1,g⟩:=s.tbl a ps e;exact ⟨p,BS e1 hf (by intro _ z;cases z),λq=>(g q).keep λ_ _ _ e=>BS e hf (by intro _ z;cases z)⟩
end
section
variable {X:Cx} {pr:Arguments} {bd:Expr} {sc:Y0} {pos p lp:Pos} {e:Expr} {es:Yi} {c P f:Yt} {g1 g2:FA}
noncomputable def only (h:Heap) (base:Heap) (S:Yg):Heap:=PySem.W.hideAll h ((List.range h.objs.size).filter λb=> !((base.get? b).isSome||S.contains b))
def J2 (e:h.get? b=some o) (hb:(∃ u,base.get? b=some u)\/b∈S):(only h base S).get? b=some o:=by
 refine PySem.W.hideAll_get _ e λhm=>?_;have q:=(List.mem_filter.mp hm).2;rcases hb with ⟨u,z⟩|z
 .rw[z]at q;simp at q
 .rw[List.contains_iff_mem.mpr z]at q;simp at q
def PJ (e:(only h base S).get? b=some o):h.get? b=some o/\((∃ u,base.get? b=some u)\/b∈S):=by
 have e1:=PySem.W.of_hideAll _ e;refine ⟨e1,?_⟩;cases q:base.get? b with
 |some u=>exact .inl ⟨u,rfl⟩
 |none=>
  by_cases z:b∈S
  .exact .inr z
  .have:(only h base S).get? b=none:=PySem.W.hideAll_none _ (List.mem_filter.mpr ⟨DD.mpr (AI e1),by rw[q];simpa using z⟩);rw[this]at e;cases e
def ZX
  (F:∀ base',LamAt base' ⟨f,cv,cvs⟩ pr bd sc fs->FnOk X.prog X.w X.K X.mg base' CX0 k g gd ps sp) (hfn:∀ x,X.fn x=true) (hr:Room k X.A) (hb:D3 X.K gd ps []) (I:Inv X zB Y H s) (V:F3 X pr bd sc H f cv)
  (hl:cvs.length=fs.length) (hcap:∀ (i:Nat) x v,fs[i]?=some x->cvs[i]?=some v -> ∃ j:Nat,X.N[j]?=some x/\Y[j]?=some (some v)/\X.env.scope.names.lookup x=some .cell/\(x,NameKind.free)∈sc.names)
  (r:zX vs us) (h:sp vs (drp H f) Q E0):wpAny (model X.prog X.w) X.A (call (.ref g) us) (EP X zB Y Q) X.xe s:=by
 obtain ⟨cf,qual,cl,pm,ctv,hf,h1,h2⟩:=V;obtain ⟨ho,_⟩:=I.hok f _ hf;have fne:∀ b,H b=none->drp H f b=none:=λb n=>by
  by_cases z:b=f
  .rw[z];exact Kw
  .rw[JM z];exact n
 have cells:∀ x d,cl.lookup x=some d->d∈X.env.cells.map (·.2):=λx d e=>Aj.mpr ⟨(x,d),Bx (h1 x d e),rfl⟩;generalize hS:f::X.env.cells.filterMap (λp=>if X.env.cells.lookup p.1=some p.2 then some p.2 else none)=S;have inS:∀ x d,cl.lookup x=some d->d∈S:=λx d e=>by
  rw[<-hS];exact Am _ (List.mem_filterMap.mpr ⟨(x,d),Bx (h1 x d e),AD (h1 x d e)⟩)
 have ofS:∀ b∈S,b=f \/ ∃ x,X.env.cells.lookup x=some b:=λb hb=>by
  rw[<-hS]at hb;rcases AL.mp hb with z|z
  .exact .inl z
  .obtain ⟨p,hp,e⟩:=List.mem_filterMap.mp z;split at e
   .rename_i q;cases e;exact .inr ⟨_,q⟩
   .cases e
 have bk:∀ b o,X.base.get? b=some o->(only s.heap X.base S).get? b=some o:=λb o e=>J2 (I.bk b o e) (.inl ⟨o,e⟩);have nsK:∀ {b:Yt} {m:Yh},X.base.Ns b m->(only s.heap X.base S).Ns b m:=λ{b m} ⟨o,es,ep,e,d,r⟩=>⟨o,es,ep,bk _ _ e,d,r⟩;have md:Mod X.K X.mg (only s.heap X.base S):=by
  have M:=I.mod;obtain ⟨mb,n1,n2⟩:=M.blt;obtain ⟨bm,ob,b1,b2,b3,b4⟩:=M.bmn;exact ⟨M.kin.keeps bk,M.glob.keeps bk,⟨mb,n1.keeps bk,n2⟩,M.nolimit.keeps bk,bm,ob,b1,b2,bk _ _ b3,b4⟩
 have la:LamAt (only s.heap X.base S) ⟨f,cv,cvs⟩ pr bd sc fs:=by
  have cel:∀ x d,cl.lookup x=some d -> ∀ v,s.heap.IsCell d v->(only s.heap X.base S).IsCell d v:=λx d e v ⟨o,e2,z⟩=>⟨o,J2 e2 (.inr (inS x d e)),z⟩;refine ⟨hl,qual,cl,pm,ctv,J2 ho (.inr (by rw[<-hS];exact AW)),λx y d a b=>I.ok.inj x y d (h1 x d a) (h1 y d b),h2,λx d e=>?_,λi x v e1 e2=>?_⟩
  .obtain ⟨v,z⟩:=I.cell x d (h1 x d e);exact ⟨v,cel x d e v z⟩
  .obtain ⟨j,n1,n2,n3,n4⟩:=hcap i x v e1 e2;obtain ⟨m,hn,lk⟩:=I.loc;obtain ⟨u,ru,l⟩:=lk j x v n1 n2 (.inr (.inl n3));obtain ⟨d,hd⟩:=Option.isSome_iff_exists.mp (h2 (x,.free) n4 rfl);refine ⟨d,u,hd,ru,cel x d hd _ ?_⟩;rcases l with ⟨l,_⟩|⟨_,c2,l,z⟩
   .exfalso;have l':X.env.scope.names.lookup x=some .local:=l;rw[n3]at l';cases l'
   .rw[h1 x d hd]at l;cases l;exact z
 have hok:HOk X.prog X.w (drp H f) s.heap:=λa o e=>by
  by_cases z:a=f
  .rw[z,Kw]at e;cases e
  .rw[JM z]at e;exact (I.hok a o e).stay (λ_ _ _ q=>q) (λb q=>BS q hf (by intro _ z;cases z)) λb xs q=>BS q hf (by intro _ z;cases z)
 have I2:Inv X zB Y (drp H f) s:=by
  refine ⟨I.ok,I.os,I.bare,⟨I.base.keep,I.base.slot,λb o e n hx=>fne b (I.base.free b o e n hx),I.base.there,λb xs e=>BS (I.base.tups b xs e) hf (by intro _ z;cases z),λb o xs e=>BS (I.base.frzs b o xs e) hf (by intro _ z;cases z),λb qs e=>?_⟩,I.loc,I.cell,fne _ I.free,λx c e=>fne _ (I.freeC x c e),λq hq=>?_,hok,I.len⟩
  .obtain ⟨more,z⟩:=I.base.tbls b qs e;exact ⟨more,BS z hf (by intro _ z;cases z)⟩
  .obtain ⟨a1,a2,a3⟩:=I.pin q hq;exact ⟨a1,fne _ a2,a3⟩
 have E0':=I2.env0;have e1:Env0 X.prog X.w X.K X.mg (only s.heap X.base S) X.A X.stack s (drp H f):=by
  refine ⟨E0'.frames,md,λb o e=>?_,Nat.le_of_eq (PySem.W.hideAll_size _ _),?_,E0'.frf,hok,E0'.bare⟩
  .obtain ⟨q1,q2⟩:=PJ e;refine ⟨q1,?_⟩;rcases q2 with ⟨u,q2⟩|q2
   .exact fne b (I.bs b u q2).2
   .rcases ofS b q2 with rfl|⟨x,z⟩
    .exact Kw
    .exact fne b (I.freeC x b z)
  .have nofr:∀ L∈frs X.stack,X.base.get? L=none->(only s.heap X.base S).get? L=none:=λL hL eb=>by
    cases q:(only s.heap X.base S).get? L with
    |none=>rfl
    |some u=>
     obtain ⟨q1,q2⟩:=PJ q;rcases q2 with ⟨u,q2⟩|q2
     .rw[eb]at q2;cases q2
     .rcases ofS L q2 with rfl|⟨x,z⟩
      .have:=I.stkFree L hL;rw[hf]at this;cases this
      .rcases AL.mp (I.stkSub L hL)with z2|z2
       .exact absurd z2 (I.cne x L z)
       .obtain ⟨_,o,ho2,_⟩:=I.ok.funs.mem z2;exact absurd (Az (AI ho2) (I.ok.cab x L (hfn x) z)) (Bh _)
   have all:∀ l:List Env,(∀ b∈frs l,b∈frs X.stack)->s.heap.FunFrames X.base l->s.heap.FunFrames (only s.heap X.base S) l:=by
    intro l;induction l with
    |nil=>intro _ _;trivial
    |cons env r ih=>
     intro hs hh;obtain ⟨hk,⟨L,o,hf,hn,ho'⟩,hr⟩:=hh;exact ⟨hk,⟨L,o,hf,nofr L (hs L (by unfold frs;rw[List.filterMap_cons,hf];exact AW)) hn,ho'⟩,ih (λb hb=>hs b (by unfold frs;rw[List.filterMap_cons,hf];exact Am _ hb)) hr⟩
   exact all _ (λ_ h=>h) E0'.funs
 have hl2:us.length=ps.length:=by rw[<-r.length];exact (F _ la).len _ _ _ _ h
 refine wpAny_call (codeAny_mono ((F _ la).run X.A X.stack s (drp H f) ⟨us,[]⟩ us vs Q E0 hr e1 (by have:=hb s us I.kIn (by simpa using hl2);simpa using this) r h) λr s' hq=>?_);cases r with
 |error e=>exact False.elim hq
 |ok fl=>
  cases fl with
  |ret u=>exact I2.after hq
  |next=>exact False.elim hq
  |brk=>exact False.elim hq
  |cont=>exact False.elim hq
end
noncomputable def cA (X:Cx) (pr:Arguments) (bd:Expr) (sc:Y0) (g1 g2:FA):TA:=λτ H Q=>∃ L Y M ds1 M1 ds2 M2,Cor X.K L M H/\Ac L H Y τ/\g1 Y M=some (ds1,M1)/\g2 Y M1=some (ds2,M2) /\
 ∀ L' H' vs1 f c vs2,Stp L H L' H'->Cor X.K L' M2 H'->zH L' H' ds1 vs1->zH L' H' ds2 vs2->H f=none->F3 X pr bd sc H' f c->Q (vs1 ++ .ref f::vs2) H'
structure QAL (X:Cx) (es:Yi) (pr:Arguments) (bd:Expr) (sc:Y0) (g1 g2:FA):Prop where
 un:PA X es (cA X pr bd sc g1 g2)
def F3.stp {X:Cx} {pr:Arguments} {bd:Expr} {sc:Y0} {L L':Yg} {M:Mem} {K:Yb} {H H':Hp} {f:Yt} {c:Yu} (k:Cor K L M H) (s:Stp L H L' H') (v:F3 X pr bd sc H f c):F3 X pr bd sc H' f c:=by
 obtain ⟨cf,qual,cl,pm,ctv,hf,h1,h2⟩:=v;refine ⟨cf.keep s.frz,qual,cl,pm,ctv,s.old f _ hf (λz=>?_) (by intro _ z;cases z),h1,h2⟩;obtain ⟨n,hn⟩:=List.getElem?_of_mem z;have hm:=k.obj n f _ hn (AJ (by rw[<-k.len];exact (AK.mp hn).1));generalize M[n]'_=m at hm;cases m with
 |lst xs=>obtain ⟨vs,e',_⟩:=hm;rw[hf]at e';cases e'
 |fro xs=>obtain ⟨o,vs,e',_⟩:=hm;rw[hf]at e';cases e'
 |dict ps=>obtain ⟨vs,e',_⟩:=hm;rw[hf]at e';cases e'
 |dicT ps=>obtain ⟨vs,e',_⟩:=hm;rw[hf]at e';cases e'
 |set _=>obtain ⟨o,u,e'⟩:=hm;rw[hf]at e';cases e'
 |froT ps=>obtain ⟨o,vs,e',_⟩:=hm;rw[hf]at e';cases e'
 |froK ps=>obtain ⟨o,vs,e',_⟩:=hm;rw[hf]at e';cases e'
section
variable {X:Cx} {pr:Arguments} {bd:Expr} {sc:Y0} {pos p lp:Pos} {e:Expr} {es:Yi} {c P:Yt} {g1 g2:FA} {x y:Str}
def NI (hx:y∈Ga) (ht:PySem.W.tabIn X.K y=some (c,P)) (hcode:X.env.code=.ref c) (hC:PySem.W.codeHdIn X.K c P=true) {sc0:Y0} (hs0:X.env.scope=sc0) (hS:∀ y∈sc.names,y.2=.free->sc0.names.lookup y.1=some .cell) (h2:QA X es g2)
  (hd:pr.defaults=[]:=by rfl) (hkd:pr.kw_defaults=[]:=by rfl) (hs:starEach (.Lambda pr bd sc lp::es) X.env=(false,eval (.Lambda pr bd sc lp) X.env)::starEach es X.env:=by rfl):QAL X (.Lambda pr bd sc lp::es) pr bd sc zL g2 :=
 .mk <| PA.imp (Ek (SW hcode hC (λy hy hf=> .inl (by show X.env.scope.names.lookup y.1=_;rw[hs0];exact hS y hy hf)) hd hkd) h2.un hs) λτ H Q zz=>by
  obtain ⟨L,Y,M,ds1,M1,ds2,M2,k,rs,e1,e2,q⟩:=zz;unfold zL at e1;cases e1;refine ⟨k.tab y hx c P ht,λf cv H1 hf s1 V=>?_⟩;have s1':Stp L H L H1:=s1.bare;refine ⟨L,Y,M,ds2,M2,k.bare s1,rs.stp s1',e2,λL2 H2 vs s2 k2 r2=>?_⟩;exact q L2 H2 [] f cv vs (s1'.trans s2) k2 .nil r2 hf (V.stp (k.bare s1) s2)
def Iu (h1:QD X e f) (h2:QAL X es pr bd sc g1 g2) (hs:starEach (e::es) X.env=(false,eval e X.env)::starEach es X.env:=by rfl):QAL X (e::es) pr bd sc (zD f g1) g2 :=
 .mk <| PA.imp (Ek h1.un h2.un hs) λτ H Q zz=>by
  obtain ⟨L,Y,M,ds1,M1,ds2,M2,k,rs,e1,e2,q⟩:=zz;unfold zD at e1;split at e1
  .rename_i d0 M0 e0;split at e1
   .rename_i ds3 M3 e3;cases e1;refine ⟨L,Y,M,d0,M0,k,rs,e0,λL0 H0 v s0 k0 r0=>⟨L0,Y,M0,ds3,M1,ds2,M2,k0,rs.stp s0,e3,e2,λL' H' vs1 f c vs2 s' k' r1 r2 hf V=>?_⟩⟩;exact q L' H' (v::vs1) f c vs2 (s0.trans s') k' (.cons (r0.stp s') r1) r2 (ME s0 k k0 hf).1 V
   .cases e1
  .cases e1
noncomputable def HX (Y:Sd):List Nat->Option (List D)
 |[]=>some []
 |i::r=>match Y[i]?,HX Y r with
  |some (some d),some ds=>some (d::ds)
  |_,_=>none
noncomputable def GV (idx:Yj) (m:Lm->FF) (g1 g2:FA):FE:=λY M=>match g1 Y M with
 |some (ds1,M1)=>match g2 Y M1 with
  |some (ds2,M2)=>match HX Y idx with
   |some cs=>open Classical in if h:∃ r:D × Mem,∀ l,m l (ds1 ++ .fn l cs::ds2) M2=some r then some (.dat h.choose.1,h.choose.2) else none
   |none=>none
  |none=>none
 |none=>none
theorem QH (rs:Ac L H Y τ):∀ {idx:Yj} {cs:List D},HX Y idx=some cs -> ∃ vs,zH L H cs vs/\vs.length=idx.length /\ ∀ (i:Nat) v,vs[i]?=some v -> ∃ j:Nat,idx[i]?=some j/\τ[j]?=some (some v)
 |[],cs,h=>by cases h;exact ⟨[],.nil,rfl,λi v e=>by simp at e⟩
 |j::r,cs,h=>by
  unfold HX at h;split at h
  .rename_i d ds e1 e2;cases h;obtain ⟨v,e3,r3⟩:=rs.2 j d e1;obtain ⟨vs,r4,l4,h4⟩:=QH rs e2;refine ⟨v::vs,.cons r3 r4,by simp[l4],λi u e=>?_⟩;cases i with
   |zero=>simp at e;subst e;exact ⟨j,rfl,e3⟩
   |succ i=>exact h4 i u (by simpa using e)
  .cases h
def U5 (h1:zH L H d1 v1) (h2:zH L H d2 v2) (hc:DR H l.c) (h3:zH L H cs l.us):zH L H (d1 ++ .fn l cs::d2) (v1 ++ .ref l.f::v2) :=
 h1.app (.cons (by unfold Rep;exact ⟨rfl,hc,h3⟩) h2)
def P0
  (F:∀ base' l,LamAt base' l pr bd sc fs->FnOk X.prog X.w X.K X.mg base' CX0 k g gd ps (spF X.K n (m l))) (hfn:∀ x,X.fn x=true) (hr:Room k X.A) (hg:Gl X x) (hm:X.mg x=some (.ref g)) (hk:PySem.W.keepIn X.K (.ref g)=true) (hb:D3 X.K gd ps [])
  (ha:QAL X (e::es) pr bd sc g1 g2) (hl:∀ Y M ds1 M1 ds2 M2,g1 Y M=some (ds1,M1)->g2 Y M1=some (ds2,M2)->ds1.length+(ds2.length+1)=n)
  (hi:idx.length=fs.length) (hcap:∀ (i:Nat) x j,fs[i]?=some x->idx[i]?=some j->X.N[j]?=some x/\X.env.scope.names.lookup x=some .cell/\(x,NameKind.free)∈sc.names)
  (hdb:(x==("__debug__" : Str))=false:=by decide) (he:starEach (e::es) X.env=(false,eval e X.env)::starEach es X.env:=by rfl) (hpl:(backTo pos (starEach es X.env)).any (·.1)=false:=by rfl) :
  QE X (.Call (.Name x p) (e::es) [] pos) (GV idx m g1 g2):=.mk <| by
 intro zB s τ H Q I ⟨L,Y,M,d,M',k0,rs,hf,q⟩;unfold GV at hf;split at hf
 .rename_i ds1 M1 e1;split at hf
  .rename_i ds2 M2 e2;split at hf
   .rename_i cs e3;split at hf
    .rename_i hh;have hc:=hh.choose_spec;generalize hh.choose=r at hc hf;cases hf;refine Eu (OS I hg hm ?_ hdb)
     refine PySem.W.callWith_K (h₀:=X.base) I.ok.mod.kin hk (thn (ha.un pos zB s τ H (λvs H1=>∃ L' vs1 f c vs2,Stp L H L' H1/\Cor X.K L' M2 H1/\zH L' H1 ds1 vs1/\zH L' H1 ds2 vs2/\H f=none/\F3 X pr bd sc H1 f c/\vs=vs1 ++ .ref f::vs2) I
      ⟨L,Y,M,ds1,M1,ds2,M2,k0,rs,e1,e2,λL' H' vs1 f c vs2 a1 a2 a3 a4 a5 a6=>⟨L',vs1,f,c,vs2,a1,a2,a3,a4,a5,a6,rfl⟩⟩) λus s1 ⟨vs,H1,I1,rv,L1,vs1,f,c,vs2,s1',k1,r1,r2,hfn0,V,ev⟩=>⟨I1.kIn,?_⟩) he hpl
     subst ev;obtain ⟨cvs,rc,lc,hcv⟩:=QH (rs.stp s1') e3;have V':=V;obtain ⟨cf,qual,cl,pm,ctv,hfe,_⟩:=V';refine ZX (F:=λbase' la=>F base' ⟨f,c,cvs⟩ la) hfn hr hb I1 V (by rw[lc,hi]) (λi y v q1 q2=>?_) rv ?_
     .obtain ⟨j,z1,z2⟩:=hcv i v q2;obtain ⟨z3,z4,z5⟩:=hcap i y j q1 z1;exact ⟨j,z3,z2,z4,z5⟩
     .refine ⟨L1,ds1 ++ .fn ⟨f,c,cvs⟩ cs::ds2,M2,r.1,r.2,k1.drp hfe,U5 (l:=⟨f,c,cvs⟩) (r1.drp hfe) (r2.drp hfe) (cf.drp hfe) (rc.drp hfe),?_,hc _,λL2 H2 v s2 k2 r3=>?_⟩
      .rw[Ae,B5];exact hl Y M ds1 M1 ds2 M2 e1 e2
      .exact q L2 H2 v ((s1'.drp hfe hfn0).trans s2) k2 r3
    .cases hf
   .cases hf
  .cases hf
 .cases hf
noncomputable def Gb (i:Nat) (l:Lm) (g:List D->FF) (fa:FA):FE:=λY M=>match Y[i]? with
 |some (some (.fn l' cs))=>open Classical in if l'=l then match fa Y M with
   |some (ds,M1)=>match g cs ds M1 with
    |some (d,M2)=>some (.dat d,M2)
    |none=>none
   |none=>none
  else none
 |_=>none
def WL (F:LamOk X.prog X.w X.K X.mg X.base k l n g) (hr:Room k X.A) (hN:X.N[i]?=some x) (ha:QA X (e::es) fa) (hl:Fw fa n)
  (hv:Vis X.env.scope x:=by first|exact Or.inl rfl|exact Or.inr (Or.inl rfl)|exact Or.inr (Or.inr rfl)) (hdb:(x==("__debug__" : Str))=false:=by decide) (hcd:(x==("__classdict__" : Str))=false:=by decide)
  (he:starEach (e::es) X.env=(false,eval e X.env)::starEach es X.env:=by rfl) (hpl:(backTo pos (starEach es X.env)).any (·.1)=false:=by rfl) :
  QE X (.Call (.Name x p) (e::es) [] pos) (Gb i l g fa):=.mk <| by
 intro zB s τ H Q I ⟨L,Y,M,d,M',k0,rs,hf,q⟩;unfold Gb at hf;split at hf
 .rename_i l' cs e1;split at hf
  .rename_i hl';subst hl';split at hf
   .rename_i ds M1 e2;split at hf
    .rename_i d' M2 e3;cases hf;obtain ⟨fd,ps,hb,⟨oc,od,fd',sl,fo⟩,FO⟩:=F.ex;obtain ⟨v,e4,r4⟩:=rs.2 i _ e1;unfold Rep at r4;obtain ⟨rfl,cf,rc⟩:=r4;refine Eu (thn (Nk hN hv hdb hcd zB s τ H (λv H'=>v=.ref l'.f/\H'=H) I ⟨_,e4,rfl,rfl⟩) λu s1 ⟨v,H1,I1,rv,ev,eH⟩=>?_);subst ev eH;obtain rfl:u=Value.ref l'.f:=rv;refine PySem.W.callWith_F ⟨_,_,_,_,I1.bk _ _ fo⟩ (thn (ha.un pos zB s1 τ H1 (λvs H2=>∃ L2,Stp L H1 L2 H2/\Cor X.K L2 M1 H2/\zH L2 H2 ds vs) I1 ⟨L,Y,M,ds,M1,k0,rs,e2,λL2 H2 vs a1 a2 a3=>⟨L2,a1,a2,a3⟩⟩) λus s2 ⟨vs,H2,I2,rv2,L2,s2',k2,r2⟩=>⟨⟨_,_,_,_,I2.bk _ _ fo⟩,?_⟩) he hpl;have:=NW (dvs:=[]) (E:=E0) (Q:=Q) FO hr hb .nil Nt I2 rv2 (by
      rw[CG];exact ⟨L2,ds,cs,M1,d',M',k2,r2,hl _ _ _ _ e2,cf.keep s2'.frz,rc.stp s2',e3,λL3 H3 v s3 k3 r3=>q L3 H3 v (s2'.trans s3) k3 r3⟩)
     simpa using this
    .cases hf
   .cases hf
  .cases hf
 .cases hf
end
def N1 {P:Ym} {w:Yo} {K:Yb} {mg:Yh} {base:Heap} {qual x:Str} {st:Stmt} {f c:Yt} {fd:Yz} {N ps:Yk} {b:FS} {n k:Nat} (F:Fun K x qual st f fd) (S:FnScope N ps (zN st)) (hn:ps.length=n) (hc:fd.code=.ref c)
  (hb:∀ (A:Yn) (outer:List Env) (s:Yl) (H:Hp) (E:XK),Room k (A.deeper (envOfC qual (zN st) s.heap.objs.size f (.ref c)))->QSs (FK CX0 P w K mg base N qual (zN st) f (.ref c) A outer s H E).nox (Dw st) b) :
  FnOk P w K mg base CX0 (k+1) f fd ps (spF K n (Ax N.length b)):=by
 have F':=F;obtain ⟨oc,od,kV,doc,pm,an,cdv,ct,osl,rfl,lk,hcd⟩:=F'.ex;have hc':cdv=.ref c:=hc;subst hc';refine MT lk hcd S (λvs H Q E h=>?_) (λA outer s H vs Q E hr h=>⟨_,(hb A outer s H E hr).un.nox,?_⟩)
 .obtain ⟨L,ds,M,d,M',c,r,hl,_⟩:=h;rw[r.length,hl,hn]
 .obtain ⟨L,ds,M,d,M',c,r,hl,hf,q⟩:=h;unfold Ax at hf;split at hf
  .rename_i d' Y' M1 e1;cases hf;exact ⟨L,_,M,_,_,_,c,ID r,e1,λL1 H1 s1 c1 v r1=>q L1 H1 v s1 c1 r1⟩
  .rename_i Y' M1 e1;cases hf;exact ⟨L,_,M,_,_,_,c,ID r,e1,λL1 H1 s1 c1 τ' r1=>q L1 H1 .non s1 c1 (by unfold Rep;rfl)⟩
  .cases hf
def Je (ts:Yg) (H:Hp):Prop:=(∀ b xs,H b≠some (.lst xs)) /\ ∀ P∈ts,H P=some (.tbl #[])
def XJ {K:Yb} {ts:Yg} {H:Hp} (h:∀ x∈Ga,∀ c P,PySem.W.tabIn K x=some (c,P)->P∈ts) (hO:Je ts H):GA K H:=λx hx c P e=>
 ⟨#[],hO.2 P (h x hx c P e),trivial,λpos v q=>by
  have q':(none:Option Value)=some v:=q;cases q'⟩
def VN {K:Yb} {s₁:Yl} {vs:Yf} {ns:Ye}
  (KX:K.In s₁.heap) (hns:s₁.heap.Ns mainGlobals mg) (hb:s₁.heap.Ns builtinsNs mb) (hbb:∀ x:Str,x ≠ "__name__" -> mb x=bootBuiltins x) (hlim:s₁.heap.NoLimit) (hbm:BMn mg s₁.heap) (hg:s₁.gens = #[])
  (ha:s₁.heap.get? a=some { cls:=.type "list", data:=.seq vs.toArray }) (hi:IntsAre vs ns) (hl:ns.length<=sizeLine) (hr:Room k callerA)
  (hnL:GD K=true) (hnT:PySem.W.noTabs K=true) (hts:∀ P∈ts,s₁.heap.get? P=some (PySem.W.tabObj #[]) /\ ∃ c,PySem.W.codeHdIn K c P=true)
  (F:∀ base:Heap,K.In base->base.Ns mainGlobals mg->FnOk P w K mg base CX0 k fa fd [x] sp) (hbind:∀ (s:Yl) (u:Yu),BindsTo s fd ⟨[u],[]⟩ [(x,u)])
  (hsp:∀ H:Hp,Je ts H->SqL K H a (ns.map V.int)->sp [.ref a] H (λv _=>v=.bl true) λ_ _ _=>False) :
  codeAny (model P w) callerA (.call (.ref fa) ⟨[.ref a],[]⟩) (λr s'=>r=.ok (.ret (.bool true))/\OldK s₁.heap s'.heap/\s'.os=s₁.os/\AllBare s'.gens) s₁:=by
 have rv:=MQ hi;have lenV:=hi.length;have aT:a∉ts:=λz=>by
  have:=(hts a z).1;rw[ha]at this;cases this
 have Ka:K.lookup a=none:=by
  cases q:K.lookup a with
  |none=>rfl
  |some o=>
   have e:=KX a o q;rw[ha]at e;cases e;exact (QL hnL q rfl).elim
 have KT:∀ P∈ts,K.lookup P=none:=λP hP=>by
  cases q:K.lookup P with
  |none=>rfl
  |some o=>
   have e:=KX P o q;rw[(hts P hP).1]at e;cases e;have h2:=Ab.mp hnT (P,_) (LH q);exact absurd (show false=true from h2) AY
 generalize hH:(λb=>if b=a then some (.frz { cls:=.type "list", data:=.seq vs.toArray } (.lst (ns.map V.int))) else if b∈ts then some (.tbl #[]) else none:Hp)=H;have Ha:H a=some (.frz { cls:=.type "list", data:=.seq vs.toArray } (.lst (ns.map V.int))):=by rw[<-hH];exact AD rfl
 have Ht:∀ P∈ts,H P=some (.tbl #[]):=λP hP=>by
  rw[<-hH];show (if P=a then _ else if P∈ts then _ else _)=_;have hPa:P≠a:=λz=>by subst z;exact aT hP
  rw[AE hPa,AD hP]
 have Hn:∀ b,b≠a->b∉ts->H b=none:=λb h1 h2=>by
  rw[<-hH];show (if b=a then _ else if b∈ts then _ else _)=_;rw[AE h1,AE h2]
 have hO:Je ts H:=by
  refine ⟨λb xs z=>?_,Ht⟩;by_cases h1:b=a
  .rw[h1,Ha]at z;cases z
  .by_cases h2:b∈ts
   .rw[Ht b h2]at z;cases z
   .rw[Hn b h1 h2]at z;cases z
 have hok:HOk P w H s₁.heap:=λb u z=>by
  by_cases h1:b=a
  .subst h1;rw[Ha]at z;cases z;exact ⟨ha,by rw[AG];exact hl,vs,_,rv,ha⟩
  .by_cases h2:b∈ts
   .rw[Ht b h2]at z;cases z;exact (hts b h2).1
   .rw[Hn b h1 h2]at z;cases z
 have base_of:∀ {b:Yt} {o:Obj},s₁.heap.get? b=some o->H b=none->(EB s₁.heap H).get? b=some o:=λe n=>U3 e n;have noA:∀ {b:Yt} {o:Obj},s₁.heap.get? b=some o->(∀ xs n,o.data≠.seq xs n)->(∀ xs,o.data≠.fields xs)->H b=none:=λ{b o} e d1 d2=>by
  refine Hn b (λz=>?_) λz=>?_
  .rw[z,ha]at e;cases e;exact d1 _ _ rfl
  .rw[(hts b z).1]at e;cases e;exact d2 _ rfl
 have nsK:∀ {b:Yt} {m:Yh},s₁.heap.Ns b m->(EB s₁.heap H).Ns b m:=λ{b m} ⟨o,es,ep,e,d,r⟩=>⟨o,es,ep,base_of e (noA e (λ_ _ z=>by rw[d]at z;cases z) λ_ z=>by rw[d]at z;cases z),d,r⟩;have hKb:K.In (EB s₁.heap H):=λb o e=>base_of (KX b o e) (Hn b (λz=>by rw[z,Ka]at e;cases e) λz=>by rw[KT b z]at e;cases e);have bmK:BMn mg (EB s₁.heap H):=by
  obtain ⟨bm,ob,b1,b2,b3,b4,b5,b6⟩:=hbm;exact ⟨bm,ob,b1,b2,base_of b3 (noA b3 (λ_ _ z=>by rw[b6]at z;cases z) λ_ z=>by rw[b6]at z;cases z),b4,b5,b6⟩
 have hM:Mod K mg (EB s₁.heap H):=⟨hKb,nsK hns,⟨mb,nsK hb,hbb⟩,let ⟨mc,h1,h2⟩:=hlim;⟨mc,nsK h1,h2⟩,bmK⟩;have e0:Env0 P w K mg (EB s₁.heap H) callerA [] s₁ H:=⟨rfl,hM,λb o e=>ZZ e,Nat.le_of_eq (Rn _ _),trivial,λb hb=>absurd (show b∈([]:List Addr)from hb) (by simp),hok,.of_eq hg⟩;refine codeAny_mono ((F _ hKb (nsK hns)).run callerA [] s₁ H ⟨[.ref a],[]⟩ [.ref a] [.ref a] _ _ hr e0 (hbind s₁ (.ref a)) (.cons rfl .nil) (hsp H hO (.inl (.inr ⟨_,Ha⟩)))) λr s' h=>?_;cases r with
 |error e=>exact False.elim h
 |ok fl=>
  cases fl with
  |next=>exact False.elim h
  |brk=>exact False.elim h
  |cont=>exact False.elim h
  |ret u=>
   obtain ⟨v,H',os,bare,un,hok',r',q⟩:=h;have q':v=.bl true:=q;subst q';obtain rfl:u=Value.bool true:=r';have tb:∀ P∈ts,∃ more,s'.heap.get? P=some (PySem.W.tabObj (#[]++more)):=λP hP=>by
    obtain ⟨more,z⟩:=un.tbls P _ (Ht P hP);exact ⟨more,hok' P _ z⟩
   refine ⟨rfl,⟨λb o e=>?_,λb o e=>un.there b o e (by simp)⟩,os,bare⟩;by_cases h2:b∈ts
   .obtain ⟨more,z⟩:=tb b h2;obtain ⟨e1,c,hc⟩:=hts b h2;rw[e]at e1;cases e1;exact .inr (.inl ⟨((PySem.W.codeHd_of_K KX hc).tab e).isCodeTable,rfl,#[],more,rfl,z⟩)
   .refine .inl ?_;by_cases h1:b=a
    .subst h1;have z2:=un.frzs b _ _ Ha;obtain ⟨e2,_⟩:=hok' b _ z2;rw[ha]at e;cases e;exact e2
    .exact un.keep b o e (Hn b h1 h2) (by intro z;exact absurd (show b∈([]:List Addr)from z) (by simp)) (by simp)
def Au (K:Yb) (ts:Yg):Prop:=(∀ P∈ts,∃ c,PySem.W.codeHdIn K c P=true) /\ ∀ x∈Ga,∀ c P,PySem.W.tabIn K x=some (c,P)->P∈ts
def WE {l:PySem.W.OpenLaw} {n k:Nat} {q:Ym} {loose:Yk} {XP:(Str->Option Value)->Heap->Prop} {d:DefRec} {K:Params->PySem.W.Frag} {as:Yg} {ee:∀ P,as=(K P).map (·.1)} {ts:Yg} {m:FF} {x:Str}
  (hn:l.most=some n) (hn2:n<=sizeLine) (hdf:d.params.defaults=[]) (hr:Room k callerA)
  (hL:∀ w:World,GD (K w.params)=true) (hT:∀ w:World,PySem.W.noTabs (K w.params)=true)
  (F:∀ (w:Yo) (mg:Yh) (fa:Yt) (h:Heap),(K w.params).In h->h.Ns mainGlobals mg->mg d.name=some (.ref fa) ->
   Au (K w.params) ts /\ ∃ fd:FuncData,(∀ (s:Yl) (u:Yu),BindsTo s fd ⟨[u],[]⟩ [(x,u)]) /\
    ∀ base:Heap,(K w.params).In base->base.Ns mainGlobals mg->FnOk l.prog w (K w.params) mg base CX0 k fa fd [x] (spF (K w.params) 1 m))
  (hsp:∀ ns:List Int,ns.length<=n -> ∃ M',m [.ref 0] [.fro (ns.map D.int)]=some (.bl true,M')) :
  PySem.W.WalkO q loose XP (PySem.W.kmHook K as ee ts).says l.row.toRowW d [] (λf vs=>PySem.call f vs):=by
 refine Att.cI hn hdf λw s₀ s₁ mg mb fa o pm cd doc a vs ns G YY ho hd hcd hmg hobj hints hlen hg=>?_;have KX:=PySem.W.km_in_of YY;obtain ⟨⟨c1,c2⟩,fd,hb,hF⟩:=F w mg fa _ KX G.T.g hmg;exact VN KX G.T.g G.T.b G.T.builtins G.T.nolimit G.T.bmain hg hobj hints (Ak hlen hn2) hr (hL w) (hT w) (λP hP=>⟨PySem.W.km_tabs_of YY P hP,c1 P hP⟩) hF hb λH hO hS=>RU (hL w) (XJ c2 hO) hO.1 hS (hsp ns hlen)
structure Tb (K:Yb) (x:Str) {st:Stmt} (g:Dg K x st) where
 c:Addr
 P:Addr
 {od:Option Addr}
 {sl:Array (Option Value)}
 {vs:Yp}
 e:g.cd=.ref c
 l:K.lookup c=some ⟨.type "code", od,.fields vs,sl⟩
 v:vs[11]?=some (.ref P)
 h:PySem.W.codeHdIn [(c,⟨.type "code", od,.fields vs,sl⟩)] c P=true
section
variable {K:Yb} {x:Str} {st:Stmt} {g:Dg K x st}
def Tb.tab (t:Tb K x g):PySem.W.tabIn K x=some (t.c,t.P):=by
 have h1:=g.a;have h2:=g.l;have h3:=t.e;have h4:=t.l;have h5:=t.v;generalize g.cd=cd at h2 h3;subst h3;unfold PySem.W.tabIn;simp only[h1,h2,h4,h5]
def Tb.hd (t:Tb K x g):PySem.W.codeHdIn K t.c t.P=true:=by
 have h4:=t.l;have h6:=t.h;have e:List.lookup t.c [(t.c,(⟨.type "code", t.od,.fields t.vs,t.sl⟩:Obj))]=K.lookup t.c:=by rw[h4,D6];simp
 unfold PySem.W.codeHdIn at h6 ⊢;rw[e]at h6;exact h6
def YN (h:Zn K x):PySem.W.tabIn K x=none:=by
 unfold PySem.W.tabIn;rw[h]
def ZS (xs:List (Str × Addr × Addr)) (h1:∀ p∈xs,PySem.W.tabIn K p.1=some (p.2.1,p.2.2)/\PySem.W.codeHdIn K p.2.1 p.2.2=true) (h2:∀ x∈Ga,x∉xs.map (·.1)->PySem.W.tabIn K x=none)
  (h3:(ts.all (λP=>xs.any (·.2.2==P))&&xs.all (λp=>ts.contains p.2.2))=true):Au K ts:=by
 rw[Ap,Ab,Ab]at h3;refine ⟨λP hP=>?_,λx hx c P e=>?_⟩
 .obtain ⟨p,hp,e⟩:=El.mp (h3.1 P hP);rw[beq_iff_eq]at e;subst e;exact ⟨_,(h1 p hp).2⟩
 .by_cases z:x∈xs.map (·.1)
  .obtain ⟨p,hp,rfl⟩:=Aj.mp z;rw[(h1 p hp).1]at e;cases e;exact List.contains_iff_mem.mp (h3.2 p hp)
  .rw[h2 x hx z]at e;cases e
def LamOk.mono {P:Ym} {w:Yo} {mg:Yh} {base:Heap} {j k n:Nat} {l:Lm} {g:List D->FF} (h:LamOk P w K mg base j l n g) (hk:j<=k):LamOk P w K mg base k l n g :=
 let ⟨fd,ps,a,b,c⟩:=h.ex;⟨fd,ps,a,b,c.mono hk⟩
def Mg (h1:Fw g1 a) (h2:Fw g2 b) (h:a+(b+1)=n):∀ Y M ds1 M1 ds2 M2,g1 Y M=some (ds1,M1)->g2 Y M1=some (ds2,M2)->ds1.length+(ds2.length+1)=n:=λY M ds1 M1 ds2 M2 e1 e2=>by
 rw[h1 _ _ _ _ e1,h2 _ _ _ _ e2,h]
def Pp {X:Cx} {sc:Y0} {y:Str} {n:Nat} (h:X.N[n]?=some y/\X.env.scope.names.lookup y=some .cell/\(y,NameKind.free)∈sc.names):∀ (i:Nat) x j,[y][i]?=some x->[n][i]?=some j->X.N[j]?=some x/\X.env.scope.names.lookup x=some .cell/\(x,NameKind.free)∈sc.names:=λi x j h1 h2=>by
 cases i with
 |zero=>simp at h1 h2;subst h1;subst h2;exact h
 |succ i=>simp at h1
end
noncomputable def Oe:Expr->Bool
 |.Lambda _ _ _ _=>true
 |_=>false
noncomputable def Rc (e:Expr):Expr:=match e with
 |.Subscript (.Call _ args _ _) _ _=>(args.find? Oe).getD e
 |.Call _ args _ _=>(args.find? Oe).getD e
 |_=>e
noncomputable def Kl (st:Stmt):Expr:=match Dw st with
 |[.Return (some e) _]=>Rc e
 |_=> .Constant .none 0 ⟨0,0,0,0⟩
noncomputable def YO (e:Expr):Arguments:=match e with
 |.Lambda p _ _ _=>p
 |_=>Fj (.Pass ⟨0,0,0,0⟩)
noncomputable def WX (e:Expr):Expr:=match e with
 |.Lambda _ b _ _=>b
 |_=>e
noncomputable def Xk (e:Expr):Scope:=match e with
 |.Lambda _ _ s _=>s
 |_=>zN (.Pass ⟨0,0,0,0⟩)
abbrev NX (base:Heap) (l:Lm) (st:Stmt) (fs:Yk):Prop:=LamAt base l (YO (Kl st)) (WX (Kl st)) (Xk (Kl st)) fs
noncomputable def N8 (neg:Bool) (K:Yb):R2:=λx y H Q=>∃ (L:Yg) (d:D) (ds:List D) (p:Yt) (xs:List V),y=.ref p/\(SqL K H p xs\/SqT K H p xs)/\BJ 1 d=true/\ds.all (BJ 1)=true/\Rep L H d x/\zH L H ds xs/\Q (.bl (nb neg (ds.any λe=>BK 1 e d))) H
section
variable {X:Cx} {a b:Expr} {pos:Pos} {f g:FE} {zB:Yd} {Y:L2.St} {H:Hp} {s:Yl} {L:Yg} {d:D} {ds:List D} {xs:List V} {its:Yf} {v:V} {u:Yu}
open Classical in
noncomputable def eY (L:Yg) (H:Hp) (ds:List D) (d:D) (y:Yu):Bool:=decide (∃ e,e∈ds/\(∃ v,Rep L H e v/\zc v y)/\BK 1 e d=true)
open Classical in
def J6 (hs:ds.all (BJ 1)=true) {e:D} {v:V} {y:Yu} (he:e∈ds) (r:Rep L H e v) (q:zc v y):eY L H ds d y=BK 1 e d:=by
 rw[Ab]at hs;have h1:=hs e he;have key:(∃ e,e∈ds/\(∃ v,Rep L H e v/\zc v y)/\BK 1 e d=true) ↔ BK 1 e d=true:=by
  constructor
  .rintro ⟨e',h2,⟨v',r',q'⟩,h3⟩;have h4:=hs e' h2;have:v=v':=by
    cases e <;> first|cases h1|skip
    cases e' <;> first|cases h4|skip
    have r1:=r;have r2:=r';unfold Rep at r1 r2;obtain ⟨a1,_,rfl,_⟩:=r1;obtain ⟨a2,_,rfl,_⟩:=r2;cases q;cases q';rfl
   subst this;rw[OE 1 e e' v h1 h4 r r'];exact h3
  .intro h;exact ⟨e,he,⟨v,r,q⟩,h⟩
 unfold eY;cases z:BK 1 e d with
 |true=>exact Af (key.mpr z)
 |false=>exact AS λw=>by rw[key.mp w]at z;cases z
def Jj (rr:zH L H ds xs) (r:zX xs its) (h:j<its.length):∃ e v,e∈ds/\ds[j]?=some e/\Rep L H e v/\zc v its[j]:=by
 have l1:xs.length=its.length:=r.length;have l2:xs.length=ds.length:=rr.length;have hj:j<ds.length:=by omega
 obtain ⟨v,g1,t1⟩:=rr.get (AJ hj);obtain ⟨o,g2,t2⟩:=r.get g1;rw[AJ h]at g2;cases g2;exact ⟨_,v,Aq hj,AJ hj,t1,t2⟩
def Qs (I:Inv X zB Y H s) (hu:X.A.units+1+1<cLine) (hd:BJ 1 d=true) (hs:ds.all (BJ 1)=true) (rd:Rep L H d v) (rx:zc v u) (rr:zH L H ds xs) (r:zX xs its) (w:Yu) (hw:w∈its):SeqAt.EqAt X.A.in1 s w u (eY L H ds d w):=by
 obtain ⟨j,hj,rfl⟩:=DZ hw;obtain ⟨e,v',he,_,re,q⟩:=Jj rr r hj;rw[J6 hs he re q];rw[Ab]at hs;exact Vi I 1 X.A.in1 _ _ _ _ _ _ hu (hs e he) hd re rd q rx
def NH (hs:ds.all (BJ 1)=true) (rr:zH L H ds xs) (r:zX xs its):its.any (eY L H ds d)=ds.any λe=>BK 1 e d:=by
 have l1:xs.length=its.length:=r.length;have l2:xs.length=ds.length:=rr.length;rw[Dt,El,El];constructor
 .rintro ⟨w,hw,h⟩;obtain ⟨j,hj,rfl⟩:=DZ hw;obtain ⟨e,v',he,_,re,q⟩:=Jj rr r hj;rw[J6 hs he re q]at h;exact ⟨e,he,h⟩
 .rintro ⟨e,he,h⟩;obtain ⟨j,hj,rfl⟩:=DZ he;obtain ⟨e',v',he',g,re,q⟩:=Jj rr r (j:=j) (by omega);rw[AJ hj]at g;cases g;exact ⟨its[j],Aq (by omega),by rw[J6 hs he' re q];exact h⟩
def bS (hu:X.A.units+1+1<cLine):OpR X (compareOp .NotIn) (N8 true X.K):=by
 intro zB s Y H x y v u Q I rx ry h;obtain ⟨L,d,ds,p,xs,rfl,hq,hd,hs,rd,rr,q⟩:=h;cases ry;rcases hq with hq|hq
 .obtain ⟨its,r,pl,hz⟩:=I.list hq;refine SeqAt.notIn_listAt (eY L H ds d) pl.isList (λw hw=>Qs I hu hd hs rd rx rr r w (by simpa using hw)) ⟨.bl _,H,I,rfl,?_⟩;rw[show its.toArray.any (eY L H ds d)=its.any (eY L H ds d) by simp,NH hs rr r];exact q
 .obtain ⟨its,r,pl,hz⟩:=I.tuple hq;refine SeqAt.notIn_tupleAt (eY L H ds d) pl (λw hw=>Qs I hu hd hs rd rx rr r w (by simpa using hw)) ⟨.bl _,H,I,rfl,?_⟩;rw[show its.toArray.any (eY L H ds d)=its.any (eY L H ds d) by simp,NH hs rr r];exact q
noncomputable def Fi (neg:Bool):K2:=λx y M=>match x with
 |.dat d=>match Ai M y with
  |some ds=>if BJ 1 d&&ds.all (BJ 1) then some (.dat (.bl (nb neg (ds.any λe=>BK 1 e d))),M) else none
  |none=>none
 |_=>none
def Td {K:Yb} {neg:Bool}:BE K (N8 neg K) (Fi neg):=by
 intro L M M' H H0 x y d v w Q cc rx ry hk q;unfold Fi at hk;split at hk
 .rename_i d';split at hk
  .rename_i ds e1;split at hk
   .rename_i hb;cases hk;rw[Ap]at hb;obtain ⟨p,vs,rfl,hs,r⟩:=F1 cc ry e1;exact ⟨L,d',ds,p,vs,rfl,hs,hb.1,hb.2,rx,r,q L H _ (.refl L H) cc (CI (L:=L) (H:=H))⟩
   .cases hk
  .cases hk
 .cases hk
def RV (hu:X.A.units+1+1<cLine) (h1:QE X a f) (h2:QE X b g) (hm:behindInMarks .NotIn b=false:=by rfl):QT X (.Compare a [.NotIn] [b] pos) (tst (fOp (Fi true) f g)):=Fg Td (bS hu) h1 h2 hm
end
end L3
namespace Law
open L2 L3
theorem CT (n:Nat):∀ c:List Int,D.unds n (c.map D.int)=true
 |[]=>rfl
 |x::r=>by
  show (D.und n (D.int x)&&D.unds n (r.map D.int))=true;rw[CT n r];rfl
def eJ (h:x::r=c.map D.int):∃ y c',c=y::c'/\x=.int y/\r=c'.map D.int:=by
 cases c with
 |nil=>cases h
 |cons y c'=>rw[Ad]at h;exact ⟨y,c',rfl,(Ci h).1,(Ci h).2⟩
def zh:DN none xs M:=trivial
def za (h:n<=100000):n<=sizeLine:=Ak h (by decide)
mutual
theorem G9 (h:a<=b):∀ {d:D},D.und a d=true->D.und b d=true
 |.non,_=>by unfold D.und;rfl
 |.bl _,_=>by unfold D.und;rfl
 |.int _,_=>by unfold D.und;rfl
 |.str _,_=>by unfold D.und;rfl
 |.tup ds,e=>by unfold D.und at e ⊢;exact F6 h e
 |.fn _ ds,e=>by unfold D.und at e ⊢;exact F6 h e
 |.ref k,e=>by unfold D.und at e ⊢;simp at e ⊢;omega
theorem F6 (h:a<=b):∀ {ds:List D},D.unds a ds=true->D.unds b ds=true
 |[],_=>by unfold D.unds;rfl
 |d::ds,e=>by
  unfold D.unds at e ⊢;rw[Ap]at e ⊢;exact ⟨G9 h e.1,F6 h e.2⟩
end
def Vz (h:a<=b) (e:MO.und a u=true):MO.und b u=true:=by
 cases u with
 |lst xs=>exact F6 h e
 |fro xs=>exact F6 h e
 |set xs=>exact F6 h e
 |dict kvs|dicT kvs|froT kvs|froK kvs=>
  unfold MO.und at e ⊢;rw[Ab]at e ⊢;intro p hp;have:=e p hp;rw[Ap]at this ⊢;exact ⟨G9 h this.1,G9 h this.2⟩
theorem HI:∀ {xs ys:List D},D.unds n (xs++ys)=(D.unds n xs&&D.unds n ys)
 |[],ys=>by simp[D.unds]
 |x::xs,ys=>by
  show (D.und n x&&D.unds n (xs++ys))=((D.und n x&&D.unds n xs)&&D.unds n ys);rw[HI,Bool.and_assoc]
theorem FR:∀ {xs:List D},(∀ x∈xs,D.und n x=true)->D.unds n xs=true
 |[],_=>rfl
 |x::xs,h=>by
  show (D.und n x&&D.unds n xs)=true;rw[h x AW,FR λy hy=>h y (Am _ hy)];rfl
def HC (c:Ye):D.und n (.tup (c.map D.int))=true:=by unfold D.und;exact CT n c
noncomputable def DK (i:Nat):Nat->List D
 |0=>[]
 |n+1=> .int i::DK (i+1) n
def Vo (n:Nat):∀ i,((List.range' i n).map λ(k:Nat)=>D.int k)=DK i n:=by
 induction n with
 |zero=>intro i;rfl
 |succ n ih=>intro i;rw[List.range'_succ,Ad,ih];rfl
def K7 (n:Nat):((List.range n).map λ(k:Nat)=>D.int k)=DK 0 n:=by rw[List.range_eq_range',Vo]
theorem HD:∀ (n i:Nat),(DK i n).length=n
 |0,_=>rfl
 |n+1,i=>by show (DK (i+1) n).length+1=_;rw[HD n]
def Di (n:Nat) (I:Nat->Sd->Mem->Prop)
  (hs:∀ i Y M,i<n->I i Y M -> ∃ σ1,g (.int i) Y=some σ1/\OkS (b σ1 M) λo σ2 M2=>match o with|.nx=>I (i+1) σ2 M2|.cnt=>I (i+1) σ2 M2|.brk=>P .nx σ2 M2|.ret d=>P (.ret d) σ2 M2)
  (he:∀ Y M,I n Y M->P .nx Y M) (Y:Sd) (M:Mem) (h0:I 0 Y M):OkS (Dl g b all none (DK 0 n) Y M) P:=by
 refine D7 (I:=λr Y M=>∃ i,i<=n/\r=DK i (n-i)/\I i Y M) ?_ ?_ _ _ _ ⟨0,Bz _,by simp,h0⟩
 .intro x r Y M hI;refine Classical.byContradiction λG=>?_;obtain ⟨i,hi,e,hI⟩:=hI;refine G ?_;clear G;have hlt:i<n:=by
   rcases Dk i n with z|z
   .exact z
   .rw[show n-i=0 by omega]at e;cases e
  rw[show n-i=(n-(i+1))+1 by omega]at e;obtain ⟨rfl,rfl⟩:=Ci e;obtain ⟨σ1,e1,q⟩:=hs i Y M hlt hI;refine ⟨zh,σ1,e1,OkS.mono q ?_⟩;intro o σ2 M2 z;cases o with
  |nx=>exact ⟨i+1,hlt,rfl,z⟩
  |cnt=>exact ⟨i+1,hlt,rfl,z⟩
  |brk=>exact z
  |ret d=>exact z
 .intro Y M hI;refine Classical.byContradiction λG=>?_;obtain ⟨i,hi,e,hI⟩:=hI;refine G ?_;clear G;have:i=n:=by
   rcases Dk i n with z|z
   .rw[show n-i=(n-(i+1))+1 by omega]at e;cases e
   .omega
  subst this;exact ⟨zh,he Y M hI⟩
def Ku (n:Nat) (I:Nat->List D->Mem->Prop)
  (hs:∀ i acc M,i<n->I i acc M -> ∃ σ1,g (.int i) Y=some σ1/\Ok (te σ1 M) (DS λd M2=>I (i+1) (acc++[d]) M2)) (h0:I 0 [] M) :
  Ok (CL g zu te Y all none (DK 0 n) M) λys M1=>I n ys M1:=by
 refine Ok.mono (Gp (I:=λr acc M=>∃ i,i<=n/\r=DK i (n-i)/\I i acc M) (Q:=λacc M=>I n acc M) ?_ ?_ _ [] _ ⟨0,Bz _,by simp,h0⟩) λys M1 q=>by simpa using q
 .intro x r acc M hI;refine Classical.byContradiction λG=>?_;obtain ⟨i,hi,e,hI⟩:=hI;refine G ?_;clear G;have hlt:i<n:=by
   rcases Dk i n with z|z
   .exact z
   .rw[show n-i=0 by omega]at e;cases e
  rw[show n-i=(n-(i+1))+1 by omega]at e;obtain ⟨rfl,rfl⟩:=Ci e;obtain ⟨σ1,e1,q⟩:=hs i acc M hlt hI;refine ⟨zh,σ1,e1,PF.mpr ?_⟩;rw[AD rfl];refine Ok.mono q ?_;intro x M2 z;cases x with
  |dat d=>exact ⟨i+1,hlt,rfl,z⟩
  |fl xs=>exact ⟨i+1,hlt,rfl,z⟩
 .intro acc M hI;refine Classical.byContradiction λG=>?_;obtain ⟨i,hi,e,hI⟩:=hI;refine G ?_;clear G;have:i=n:=by
   rcases Dk i n with z|z
   .rw[show n-i=(n-(i+1))+1 by omega]at e;cases e
   .omega
  subst this;exact ⟨zh,hI⟩
def CQ (e:f Y M=some (.dat (.int j),M)) (h1:0<=j) (h2:j<2 ^ 62):zl (zD (toD f) zL) Y M=some (DK 0 j.toNat,none,M):=by
 have e':(zD (toD f) zL) Y M=some ([.int j],M):=by unfold zD toD zL;rw[e]
 rw[Ol e' h1 h2,K7]
noncomputable def mD (zA:Ya):D:=.tup (zA.map λr=> .tup (r.map D.int))
structure IsM (zA:Ya) (l:Nat):Prop where
 r0:0<zA.length
 l0:0<l
 row:∀ r∈zA,r.length=l /\ ∀ g∈r,0<=g/\g<zA.length
def Fx (zA:Ya):D.und n (mD zA)=true:=by
 unfold mD D.und;refine FR λx hx=>?_;obtain ⟨r,_,rfl⟩:=Aj.mp hx;exact HC r
def zF {α:Type} {x:Option (α × Mem)} {a:α} {M:Mem} (h:Ok x λb M'=>b=a/\M'=M):x=some (a,M):=by
 obtain ⟨b,M',e,rfl,rfl⟩:=h;exact e
def zI {α:Type} {x:Option (α × Mem)} {a:α} {M:Mem} {P:α->Mem->Prop} (h:x=some (a,M)) (p:P a M):Ok x P:=⟨a,M,h,p⟩
def C5 {c:FT} {a g:FS} {Y:Sd} {M:Mem} {P:Out->Sd->Mem->Prop} (hc:c Y M=some (false,M)) (h:OkS (g Y M) P):OkS (zO (sIf c a An) g Y M) P:=by
 rw[zM,CM];refine zI hc ?_;rw[AE (by decide),D4];exact h
def JT {c:FT} {a:FS} {Y:Sd} {M:Mem} {P:Out->Sd->Mem->Prop} (hc:c Y M=some (false,M)) (h:P .nx Y M):OkS (sIf c a An Y M) P:=by
 rw[CM];refine zI hc ?_;rw[AE (by decide),D4];exact h
def zp {f:FE} {Y:Sd} {M:Mem} {d:D} (h:f Y M=some (.dat d,M)):zD (toD f) zL Y M=some ([d],M):=by
 unfold zD toD zL;rw[h]
def zZ {f:FE} {g:FA} {Y:Sd} {M:Mem} {d:D} {ds:List D} (h:f Y M=some (.dat d,M)) (hg:g Y M=some (ds,M)):zD (toD f) g Y M=some (d::ds,M):=by
 unfold zD toD;rw[h];dsimp only;rw[hg]
def Bm {m:FF} {a:FA} {Y:Sd} {M M':Mem} {ds:List D} {d:D} (h:a Y M=some (ds,M)) (hm:m ds M=some (d,M')):zW m a Y M=some (.dat d,M'):=by
 unfold zW;rw[h];dsimp only;rw[hm]
def zG {k:K2} {f g:FE} {Y:Sd} {M:Mem} {x y:EV} {r:Option (EV × Mem)} (hf:f Y M=some (x,M)) (hg:g Y M=some (y,M)) (hk:k x y M=r):fOp k f g Y M=r:=by
 unfold fOp;rw[hf];dsimp only;rw[hg];exact hk
def BM {x:EV} {xs:List D} {i:Int} {d:D} {M:Mem} (h:Ai M x=some xs) (hd:atI xs i=some d):kIx x (.dat (.int i)) M=some (.dat d,M):=zF (Jh h hd ⟨rfl,rfl⟩)
def CJ {f:FE} {x:EV} {xs:List D} {Y:Sd} {M:Mem} (hf:f Y M=some (x,M)) (h:Ai M x=some xs):fB zg (zE f zJ) Y M=some (.dat (.int xs.length),M):=by
 unfold fB zE zJ;rw[hf];exact zF ((SJ h).mpr ⟨rfl,rfl⟩)
noncomputable def A0 (zA:Ya) (h g:Int):Int:=(zA.getD h.toNat []).getD g.toNat 0
def LG {zA:Ya} {h:Int} (h0:0<=h) (h1:h<zA.length):atI (zA.map λr=>D.tup (r.map D.int)) h=some (.tup ((zA.getD h.toNat []).map D.int)):=by
 refine EJ h0 ?_;rw[AR,Bi,AJ (by omega)];rfl
def Wz {r:Ye} {g:Int} (h0:0<=g) (h1:g<r.length):atI (r.map D.int) g=some (.int (r.getD g.toNat 0)):=by
 refine EJ h0 ?_;rw[AR,Bi,AJ (by omega)];rfl
def IsM.get {zA:Ya} {l:Nat} (m:IsM zA l) {h:Int} (h0:0<=h) (h1:h<zA.length):(zA.getD h.toNat []).length=l /\ ∀ g∈zA.getD h.toNat [],0<=g/\g<zA.length:=by
 refine m.row _ ?_;rw[Bi,AJ (by omega)];exact Aq _
def IsM.step {zA:Ya} {l:Nat} (m:IsM zA l) {h g:Int} (h0:0<=h) (h1:h<zA.length) (g0:0<=g) (g1:g<l):0<=A0 zA h g/\A0 zA h g<zA.length:=by
 obtain ⟨q1,q2⟩:=m.get h0 h1;refine q2 _ ?_;unfold A0;rw[Bi (l:=zA.getD h.toNat []),AJ (by omega)];exact Aq _
def IsM.ix {zA:Ya} {l:Nat} (m:IsM zA l) {h g:Int} (h0:0<=h) (h1:h<zA.length) (g0:0<=g) (g1:g<l) {f1 f2 f3:FE} {Y:Sd} {M:Mem} (e1:f1 Y M=some (.dat (mD zA),M)) (e2:f2 Y M=some (.dat (.int h),M)) (e3:f3 Y M=some (.dat (.int g),M)) :
  fOp kIx (fOp kIx f1 f2) f3 Y M=some (.dat (.int (A0 zA h g)),M):=by
 obtain ⟨q1,_⟩:=m.get h0 h1;exact zG (zG e1 e2 (BM zV (LG h0 h1))) e3 (BM zV (Wz g0 (by omega)))
def Ep (hf:f Y M=some (x,M)) (ht:Fu M x=some t):Bk T f Y M=some (.dat (.bl (isT t T)),M):=by
 unfold Bk;rw[hf];dsimp only;rw[ht]
def BU (h:f Y M=some (.dat (.bl k),M')):tst f Y M=some (k,M'):=by unfold tst;rw[h]
def isV (hf:f Y M=some (x,M)) (ht:Fu M x=some t) (h:isT t T=k):Bk T f Y M=some (.dat (.bl k),M):=by
 rw[Ep hf ht,h]
def Ej (hc:c Y M=some (true,M)) (h:OkS (a Y M) (nxP (λσ1 M1=>OkS (g σ1 M1) P) P)):OkS (zO (sIf c a b) g Y M) P:=by
 rw[zM,CM];refine zI hc ?_;rw[AD rfl];exact h
def zk (hf:f Y M=some (.dat d,M)) (h:P (.ret d) Y M):OkS (AO f Y M) P:=by
 rw[NF];exact zI hf h
def F5 {α:Type} (as:List α) (enc out:α->D) (hi:fi Y M=some (as.map enc,gd,M)) (hgd:DN gd (as.map enc) M) (hz:as.length<=100000)
  (he:∀ a∈as,∃ σ1,g (enc a) (Bp own Y)=some σ1/\te σ1 M=some (.dat (out a),M)):zj own fi g zu te Y M=some (.fl (as.map out),M):=by
 refine zF (GP.mpr ⟨_,_,_,hi,by rw[AG];exact za hz,?_⟩);refine Ok.mono (Gp (I:=λr acc M'=>M'=M /\ ∃ ra rb:List α,as=rb++ra/\r=ra.map enc/\acc=rb.map out) (Q:=λacc M'=>M'=M/\acc=as.map out) ?_ ?_ _ [] _ ⟨rfl,as,[],rfl,rfl,rfl⟩) ?_
 .rintro x r acc M' ⟨rfl,ra,rb,hab,hr,rfl⟩;cases ra with
  |nil=>cases hr
  |cons a ra=>
   rw[Ad]at hr;obtain ⟨rfl,rfl⟩:=Ci hr;obtain ⟨σ1,e1,e2⟩:=he a (by rw[hab];simp);refine ⟨hgd,σ1,e1,PF.mpr ?_⟩;rw[AD rfl];refine zI e2 ?_;rw[zQ];exact ⟨rfl,ra,rb++[a],by rw[hab];simp,rfl,by simp⟩
 .rintro acc M' ⟨rfl,ra,rb,hab,hr,rfl⟩;cases ra with
  |nil=>rw[CG]at hab;subst hab;exact ⟨hgd,rfl,rfl⟩
  |cons a ra=>cases hr
 .rintro ys M' ⟨rfl,h⟩;rw[EX]at h;subst h;exact ⟨rfl,rfl⟩
def CU (hf:f Y M=some (x,M)) (h:Ai M x=some xs):fB ze (zE f zJ) Y M=some (.dat (.tup xs),M):=by
 unfold fB zE zJ;rw[hf];exact zF ((Xr h).mpr ⟨rfl,rfl⟩)
def Hz (hf:f Y M=some (.dat (.tup xs),M)):Ah f Y M=some (xs,none,M):=Fq hf zV
def Fz (hf:f Y M=some (.dat d,M)) (h:OkS (g (Y.set i (some d)) M) P):OkS (zO (AQ i f) g Y M) P:=by
 rw[zM,zf];exact zI hf h
open ST
noncomputable def ris (xs:Ye):List Int:=Ay (zb xs)
def DH (xs:Ye) (x:Int):x∈ris xs ↔ x∈xs:=by
 unfold ris;rw[(Eh _).mem_iff,Tc]
def GF (xs:Ye):(ris xs).Pairwise (· < ·):=by
 have h1:=JV (zb xs);have h2:(ris xs).Nodup:=(Eh _).nodup_iff.mpr (cR xs);unfold ris at h2 ⊢;exact (h1.and h2).imp λ{a b} h=>by have:=h.1;have:=h.2;omega
theorem M9:∀ {xs ys:Ye},xs.Pairwise (· < ·)->ys.Pairwise (· < ·)->(∀ x,x∈xs ↔ x∈ys)->xs=ys
 |[],[],_,_,_=>rfl
 |[],y::ys,_,_,h=>by have:=(h y).mpr AW;cases this
 |x::xs,[],_,_,h=>by have:=(h x).mp AW;cases this
 |x::xs,y::ys,h1,h2,h=>by
  have hx:=Cj.mp h1;have hy:=Cj.mp h2;have e:x=y:=by
   have a:=(h x).mp AW;have b:=(h y).mpr AW;rcases AL.mp a with z|z
   .exact z
   .rcases AL.mp b with q|q
    .exact q.symm
    .have:=hx.1 y q;have:=hy.1 x z;omega
  subst e;rw[M9 hx.2 hy.2 λz=>?_];constructor
  .intro hz;rcases AL.mp ((h z).mp (Am _ hz))with q|q
   .subst q;have:=hx.1 _ hz;omega
   .exact q
  .intro hz;rcases AL.mp ((h z).mpr (Am _ hz))with q|q
   .subst q;have:=hy.1 _ hz;omega
   .exact q
def PQ (xs:Ye):(ris xs).length<=xs.length:=by
 unfold ris;rw[(Eh _).length_eq];exact Hu xs
def HY (h:0<xs.length):0<(ris xs).length:=by
 cases xs with
 |nil=>cases h
 |cons x r=>exact List.length_pos_of_mem ((DH (x::r) x).mpr AW)
def aN (h:zj own fi g tc te Y M=some (.fl (ks.map D.int),M)) (hz:ks.length<=4000):GU own fi g tc te Y M=some (zb ks,M):=by
 unfold GU;rw[h];dsimp only;rw[DU];dsimp only;rw[AD (by unfold scanBound;omega)]
def dW (h:f Y M=some (x,M)) (hx:Ai M x=some (ks.map D.int)) (hz:(zb ks).length<=4000):GG f Y M=some (zb ks,M):=by
 unfold GG;rw[h];dsimp only;rw[hx];dsimp only;rw[DU];dsimp only;rw[AD (by unfold scanBound;omega)]
def Z3 (h:f Y M=some (x,M)) (hx:Ai M x=some (ks.map D.int)) (hz:ks.length<=4000):GG f Y M=some (zb ks,M):=dW h hx (Ak (Hu ks) hz)
def Ov (h:fz Y M=some (zb ks,M)) (hz:(zb ks).length<64):Gu fz Y M=some (.fl ((ris ks).map D.int),M):=by
 unfold Gu;rw[h];dsimp only;rw[AD hz];rfl
noncomputable def Ly:FS:=(AO (fB ze (zE (Gu (GU [3] (Ah (zC 1)) (gN 3) zu (fOp kIx (fOp kIx (zC 0) (zC 3)) (zC 2)))) zJ)))
noncomputable def GY:FF:=Dh (Ax 4 Ly)
noncomputable def setR (zA:Ya) (S:Ye) (g:Int):List Int:=ris (S.map λh=>A0 zA h g)
noncomputable def broR (zA:Ya) (S word:Ye):List Int:=word.foldl (setR zA) S
structure IsS (zA:Ya) (S:Ye):Prop where
 pw:S.Pairwise (· < ·)
 n0:0<S.length
 mem:∀ x∈S,0<=x/\x<(zA.length:Int)
theorem MJ:∀ {S:Ye} {a:Int} {n:Nat},S.Pairwise (· < ·)->(∀ x∈S,a<=x/\x<a+(n:Int))->S.length<=n
 |[],_,_,_,_=>Bz _
 |x::S,a,n,h,hm=>by
  have hx:=Cj.mp h;obtain ⟨m0,m1⟩:=hm x AW;have hn:0<n:=by omega
  have:=MJ (S:=S) (a:=x+1) (n:=(a+n-(x+1)).toNat) hx.2 λy hy=>by
   have:=hx.1 y hy;have:=(hm y (Am _ hy)).2;omega
  simp only[B5];omega
def IsS.len (h:IsS zA S):S.length<=zA.length:=MJ h.pw (a:=0) λx hx=>by have:=h.mem x hx;omega
theorem IsM.setR {zA:Ya} {l:Nat} (m:IsM zA l) {S:Ye} (s:IsS zA S) {g:Int} (g0:0<=g) (g1:g<l):IsS zA (setR zA S g):=by
 refine ⟨GF _,HY (by rw[AG];exact s.n0),λx hx=>?_⟩;obtain ⟨y,hy,rfl⟩:=Aj.mp ((DH _ _).mp hx);obtain ⟨y0,y1⟩:=s.mem y hy;exact m.step y0 y1 g0 g1
theorem IsM.broR {zA:Ya} {l:Nat} (m:IsM zA l):∀ (word:Ye) {S:Ye},IsS zA S->(∀ g∈word,0<=g/\g<(l:Int))->IsS zA (broR zA S word)
 |[],S,s,_=>s
 |g::r,S,s,hw=>by
  obtain ⟨g0,g1⟩:=hw g AW;exact IsM.broR m r (m.setR s g0 g1) λx hx=>hw x (Am _ hx)
noncomputable def tI (xs:Ye):D:=.tup (xs.map D.int)
def aE {zA:Ya} {l:Nat} (m:IsM zA l) (hR:zA.length<64) {S:Ye} (s:IsS zA S) {g:Int} (g0:0<=g) (g1:g<l) {M:Mem}:GY [mD zA,tI S,.int g] M=some (tI (setR zA S g),M):=by
 refine zF ?_;unfold GY;refine Eo (by unfold D.unds D.unds D.unds D.unds;rw[Fx];simp[tI,HC,D.und,CT]) ?_;rw[Bj];unfold Ly;have hl:=s.len;have hz:(zb (S.map λh=>A0 zA h g)).length<64:=by have:=Hu (S.map λh=>A0 zA h g);rw[AG]at this;omega
 refine zk (d:=tI (setR zA S g)) ?_ ⟨by unfold tI;exact HC _,rfl,rfl⟩;refine CU (Ov (ks:=S.map λh=>A0 zA h g) (aN ?_ (by rw[AG];omega)) hz) Cy;refine (F5 S D.int (λh=> .int (A0 zA h g)) (Hz rfl) trivial (by omega) λh hh=>⟨_,rfl,?_⟩).trans ?_
 .obtain ⟨h0,h1⟩:=s.mem h hh;exact m.ix h0 h1 g0 g1 rfl rfl rfl
 .rw[BQ];rfl
def JP {a b:Ye} (h:a.Nodup) (hs:∀ x∈a,x∈b):a.length<=b.length:=List.Nodup.length_le_of_subset h hs
def GR (e:f Y M=some (.dat (mD zA),M)):fB zg (zE f zJ) Y M=some (.dat (.int zA.length),M):=by
 have:=CJ e zV;rw[AG]at this;exact this
def Wc (m:IsM zA l) (e:f Y M=some (.dat (mD zA),M)):fB zg (zE (fOp kIx f (fC (.int 0))) zJ) Y M=some (.dat (.int l),M):=by
 have r0:=m.r0;have:=CJ (zG (g:=fC (.int 0)) e rfl (BM zV (LG (by omega) (by omega)))) zV;rw[AG,(m.get (by omega) (by omega)).1]at this;exact this
mutual
def Vd (M:Mem):D->Prop
 |.ref n=>∃ t,Fu M (.dat (.ref n))=some t/\(t = "list" \/ t = "dict")
 |.tup ds=>ds.length<=100000/\Vds M ds
 |.fn _ _=>False
 |_=>True
def Vds (M:Mem):List D->Prop
 |[]=>True
 |d::ds=>Vd M d/\Vds M ds
end
def Vds.mem:∀ {ds:List D},Vds M ds -> ∀ d∈ds,Vd M d
 |[],_,d,h=>by cases h
 |x::ds,hv,d,h=>by
  unfold Vds at hv;rcases AL.mp h with q|q
  .subst q;exact hv.1
  .exact Vds.mem hv.2 d q
def Vds.of:∀ {ds:List D},(∀ d∈ds,Vd M d)->Vds M ds
 |[],_=>trivial
 |x::ds,h=>⟨h x AW,Vds.of λd hd=>h d (Am _ hd)⟩
noncomputable def O6:D->Bool
 |.int _=>true
 |_=>false
noncomputable def DJ (n:Int):D->Bool
 |.int i=>decide (0<=i)&&decide (i<n)
 |_=>false
noncomputable def P6:D->Nat
 |.tup ds=>ds.length
 |_=>0
noncomputable def Gd:D->Bool
 |.tup _=>true
 |_=>false
def Jz (out:D->D) (hf:f Y M=some (.dat (.tup ds),M)) (hz:ds.length<=100000)
  (he:∀ a∈ds,∃ σ1,g a (Bp own Y)=some σ1/\te σ1 M=some (.dat (out a),M)):zj own (Ah f) g zu te Y M=some (.fl (ds.map out),M) :=
 F5 (gd:=none) ds id out (by rw[List.map_id];exact Hz hf) trivial hz he
def Vd.ty (h:Vd M d):∃ t,Fu M (.dat d)=some t/\isT t "tuple" = Gd d/\(isT t "int" && !isT t "bool")=O6 d:=by
 cases d with
 |non=>exact ⟨_,rfl,(show isT "NoneType" "tuple" = false by decide),(show (isT "NoneType" "int" && !isT "NoneType" "bool")=false by decide)⟩
 |bl k=>exact ⟨_,rfl,(show isT "bool" "tuple" = false by decide),(show (isT "bool" "int" && !isT "bool" "bool")=false by decide)⟩
 |int i=>exact ⟨_,rfl,(show isT "int" "tuple" = false by decide),(show (isT "int" "int" && !isT "int" "bool")=true by decide)⟩
 |str x=>exact ⟨_,rfl,(show isT "str" "tuple" = false by decide),(show (isT "str" "int" && !isT "str" "bool")=false by decide)⟩
 |tup ds=>exact ⟨_,rfl,(show isT "tuple" "tuple" = true by decide),(show (isT "tuple" "int" && !isT "tuple" "bool")=false by decide)⟩
 |ref n=>
  unfold Vd at h;obtain ⟨t,e,h⟩:=h;rcases h with rfl|rfl
  .exact ⟨_,e,(show isT "list" "tuple" = false by decide),(show (isT "list" "int" && !isT "list" "bool")=false by decide)⟩
  .exact ⟨_,e,(show isT "dict" "tuple" = false by decide),(show (isT "dict" "int" && !isT "dict" "bool")=false by decide)⟩
 |fn _ _=>exact h.elim
def NB (hf:f Y M=some (.dat (.bl a),M)) (hg:a=true->g Y M=some (.dat (.bl b),M)):Dy f g Y M=some (.dat (.bl (a&&b)),M):=by
 unfold Dy;rw[hf];cases a with
 |true=>exact hg rfl
 |false=>rfl
def Ob (hf:f Y M=some (.dat (.bl a),M)):DP f Y M=some (.dat (.bl (!a)),M):=by unfold DP;rw[hf]
def IJ {bs:List Bool} (h:f Y M=some (.fl (bs.map D.bl),M)):fB EN (zE f zJ) Y M=some (.dat (.bl (bs.all id)),M):=by
 unfold fB zE zJ;rw[h];exact zF ((Jm Kg (IW bs)).mpr ⟨rfl,rfl⟩)
def oS (h:f Y M=some (.dat (.int i),M)):Cg f Y M=some (some i,M):=by unfold Cg;rw[h]
end Law
namespace Lae
open L2 L3 ST Law
noncomputable def Ls:FS:=(AO (IU "cells" (fOp Ds (fB Dn (zE (zC 0) zJ)) (fOp C3 (BO (zD (toD (fC (.int 0))) zL)) (fB C9 (zE (fOp kEq (fB zg (zE (zC 0) zJ)) (fC (.int 0))) zJ)))) "at" (fC (.int 0)) "number" (fC (.int 0))))
noncomputable def Hv:FF:=Ax 1 Ls
noncomputable def Lc:FS:=(zO (sIf (tst (fOp kEq (fOp BL (zC 0) (fC (.str "number"))) (fC (.int 0)))) (zO (AQ 2 (fOp kIx (fOp BL (zC 0) (fC (.str "cells"))) (fOp CD (fOp BL (zC 0) (fC (.str "at"))) (fB zg (zE (fOp BL (zC 0) (fC (.str "cells"))) zJ)))))
  (zO (CN (fOp zt (fOp BL (zC 0) (fC (.str "at"))) (fC (.int 1))) (zC 0) (fC (.str "at")))
  (zO (sIf (B3 (tst (fOp kLt (zC 2) (fOp G3 (fC (.int 10)) (fC (.int 18))))) (tst (fOp kGt (fOp BL (zC 0) (fC (.str "at"))) (fB zg (zE (fOp BL (zC 0) (fC (.str "cells"))) zJ))))) (zO (AQ 3 (fOp BL (zC 0) (fC (.str "at"))))
  (zO (AQ 4 (fOp CD (fOp zt (fOp zt (fOp DI (fOp CD (zC 2) (fC (.int 2147483629))) (fC (.int 48271))) (fOp DI (fOp DI (zC 3) (zC 3)) (fC (.int 69621)))) (fC (.int 11))) (fC (.int 2147483647))))
  (AO (fOp CD (fOp Fo (fOp CD (fOp DI (zC 4) (zC 4)) (fC (.int 1999999973))) (fC (.int 7))) (zC 1))))) An)
  (CN (zC 2) (zC 0) (fC (.str "number")))))) An)
  (zO (AQ 5 (fOp CD (fOp BL (zC 0) (fC (.str "number"))) (zC 1)))
  (zO (CN (fOp Fo (fOp BL (zC 0) (fC (.str "number"))) (zC 1)) (zC 0) (fC (.str "number")))
  (AO (zC 5)))))
noncomputable def zS:FF:=Ax 6 Lc
noncomputable abbrev gS (k:Nat) (a x:Int):MO:=.dict [(.str "cells", .ref k),(.str "at", .int a),(.str "number", .int x)]
structure Gen (M:Mem) (n k:Nat) (q:Nat):Prop where
 ex:∃ (c:Ye) (a x:Int),M[n]?=some (gS k a x)/\M[k]?=some (.lst (c.map D.int))/\0<c.length/\c.length<=63/\0<=a/\a<=q
 ne:n≠k
 wf:∀ (j:Nat) u,M[j]?=some u->MO.und M.length u=true
def Gen.mono (h:Gen M n k q) (hq:q<=q'):Gen M n k q' :=
 let ⟨c,a,x,e1,e2,e3,e4,e5,e6⟩:=h.ex;⟨⟨c,a,x,e1,e2,e3,e4,e5,by omega⟩,h.ne,h.wf⟩
structure Nw (M M':Mem) (n k q:Nat):Prop where
 gen:Gen M' n k q
 len:M.length<=M'.length
 fr:∀ j,j<M.length->j≠n->j≠k->M'[j]?=M[j]?
def Nw.mono (h:Nw M M' n k q) (hq:q<=q'):Nw M M' n k q':=⟨h.gen.mono hq,h.len,h.fr⟩
def Nw.refl (h:Gen M n k q):Nw M M n k q:=⟨h,AF _,λ_ _ _ _=>rfl⟩
def Nw.trans {M M1 M2:Mem} {n k q q':Nat} (a:Nw M M1 n k q) (b:Nw M1 M2 n k q'):Nw M M2 n k q' :=
 ⟨b.gen,Ak a.len b.len,λj h h1 h2=>(b.fr j (Az h a.len) h1 h2).trans (a.fr j h h1 h2)⟩
def Gen.lt (h:Gen M n k q):n<M.length/\k<M.length:=by
 obtain ⟨c,a,x,e1,e2,_⟩:=h.ex;exact ⟨(AK.mp e1).1,(AK.mp e2).1⟩
def MY (hk:k<N):MO.und N (gS k a x)=true:=by
 unfold MO.und;simp[D.und,hk]
def Gen.put {M:Mem} {n k q q':Nat} (h:Gen M n k q) {a x:Int} (h0:0<=a) (h1:a<=q'):Nw M (M.set n (gS k a x)) n k q':=by
 obtain ⟨hn,hk⟩:=h.lt;obtain ⟨c,_,_,e1,e2,e3,e4,_⟩:=h.ex;refine ⟨⟨⟨c,a,x,Bn hn,by rw[Av h.ne];exact e2,e3,e4,h0,h1⟩,h.ne,λj u e=>?_⟩,by simp,λj _ h1 h2=>Av (Ne.symm h1)⟩;rw[C8];rw[Dz]at e;split at e
 .cases e;exact MY hk
 .exact h.wf j u e
def Gen.app (h:Gen A n k q) (hu:∀ u∈us,MO.und (A.length+us.length) u=true):Nw A (A++us) n k q:=by
 obtain ⟨c,a,x,e1,e2,r⟩:=h.ex;obtain ⟨hn,hk⟩:=h.lt;refine ⟨⟨⟨c,a,x,by rw[Ag hn];exact e1,by rw[Ag hk];exact e2,r⟩,h.ne,λj u e=>?_⟩,by simp,λj hj _ _=>Ag hj⟩;rw[Ae];by_cases hj:j<A.length
 .rw[Ag hj]at e;exact Vz (by omega) (h.wf j u e)
 .rw[Cn (by omega)]at e;exact hu u (Ba e)
def Gen.lst (h:Gen A n k q) (xs:List D) (hx:D.unds A.length xs=true):Nw A (A++[.lst xs]) n k q:=h.app λu hu=>by
 have:u=.lst xs:=by simpa using hu
 subst this;exact F6 (by simp) hx
def Nw.setB (h:Nw M A n k q) (g:Gen M n k q0) (hj:M.length<=j) (hu:MO.und A.length u=true):Nw M (A.set j u) n k q:=by
 obtain ⟨hn,hk⟩:=g.lt;obtain ⟨c,a,x,e1,e2,r⟩:=h.gen.ex;refine ⟨⟨⟨c,a,x,by rw[Av (by omega)];exact e1,by rw[Av (by omega)];exact e2,r⟩,g.ne,λi v e=>?_⟩,by rw[C8];exact h.len,λi hi h1 h2=>by rw[Av (by omega)];exact h.fr i hi h1 h2⟩;rw[C8];rw[Dz]at e;split at e
 .split at e
  .cases e;exact hu
  .cases e
 .exact h.gen.wf i v e
def Nw.wf0 (h:Nw M M' n k q) (g:Gen M n k q0):∀ (j:Nat) u,j<M.length->M'[j]?=some u->MO.und M.length u=true:=λj u hj e=>by
 obtain ⟨hn,hk⟩:=g.lt;obtain ⟨c,a,x,e1,e2,r⟩:=h.gen.ex;by_cases q1:j=n
 .subst q1;rw[e1]at e;cases e;exact MY hk
 .by_cases q2:j=k
  .subst q2;rw[e2]at e;cases e;exact CT _ _
  .rw[h.fr j hj q1 q2]at e;exact g.wf j u e
def Nw.trim (h:Nw M M' n k q) (g:Gen M n k q0):Nw M (M'.take M.length) n k q:=by
 obtain ⟨hn,hk⟩:=g.lt;have tk:∀ j,j<M.length->(M'.take M.length)[j]?=M'[j]?:=λj hj=>Gj hj;have tl:(M'.take M.length).length=M.length:=by have:=h.len;rw[BN];omega
 obtain ⟨c,a,x,e1,e2,r⟩:=h.gen.ex;refine ⟨⟨⟨c,a,x,(tk n hn).trans e1,(tk k hk).trans e2,r⟩,g.ne,λj u e=>?_⟩,by omega,λj hj h1 h2=>(tk j hj).trans (h.fr j hj h1 h2)⟩;have hj:j<M.length:=by have:=(AK.mp e).1;omega
 rw[tk j hj]at e;rw[tl];exact h.wf0 g j u hj e
def Nw.get (h:Nw M M' n k q) (e:M[j]?=some u) (h1:j≠n) (h2:j≠k):M'[j]?=some u :=
 (h.fr j (AK.mp e).1 h1 h2).trans e
def D1 (hf:f Y M=some (.dat (.ref n),M)) (hM:M[n]?=some (gS k a x)):fOp BL f (fC (.str "cells")) Y M=some (.dat (.ref k),M)/\fOp BL f (fC (.str "at")) Y M=some (.dat (.int a),M)/\fOp BL f (fC (.str "number")) Y M=some (.dat (.int x),M):=by
 refine ⟨?_,?_,?_⟩ <;>
 .refine zG hf rfl ?_;unfold BL ER;dsimp only;rw[hM];rfl
def Vv (hM:M[n]?=some (gS k a x)):DT M n (.str "at") (.int a')=some (M.set n (gS k a' x)):=by
 unfold DT;rw[hM];dsimp only[Bl];rw[AD (show [(D.str (Str.ofString "cells"),D.ref k),(D.str (Str.ofString "at"),D.int a),(D.str (Str.ofString "number"),D.int x)].length<sizeLine from za (n:=4) (by omega))];rfl
def QC (hM:M[n]?=some (gS k a x)):DT M n (.str "number") (.int x')=some (M.set n (gS k a x')):=by
 unfold DT;rw[hM];dsimp only[Bl];rw[AD (show [(D.str (Str.ofString "cells"),D.ref k),(D.str (Str.ofString "at"),D.int a),(D.str (Str.ofString "number"),D.int x)].length<sizeLine from za (n:=4) (by omega))];rfl
def FY (h1:fv Y M=some (.dat v,M)) (h2:fo Y M=some (.dat (.ref n),M)) (h3:fi Y M=some (.dat k,M)) (h4:DT M n k v=some M4) (q:P .nx Y M4):OkS (CN fv fo fi Y M) P:=by
 refine ⟨.nx,Y,M4,?_,q⟩;unfold CN toD;rw[h1];dsimp only;rw[h2];dsimp only;rw[h3];dsimp only;rw[h4]
def EM (h:0<b):CD (.dat (.int a)) (.dat (.int b)) M=some (.dat (.int (a % b)),M):=zF (XH.mpr ⟨h,rfl,rfl⟩)
def NK (h:0<b/\b<1073741824):Fo (.dat (.int a)) (.dat (.int b)) M=some (.dat (.int (a / b)),M):=zF (TM.mpr ⟨h,rfl,rfl⟩)
def Vk (h:HH a b=true):DI (.dat (.int a)) (.dat (.int b)) M=some (.dat (.int (a*b)),M):=zF (Z9.mpr ⟨h,rfl,rfl⟩)
def J5 {M:Mem} {c:Ye} (hf:f Y M=some (.dat (.ref j),M)) (h:M[j]?=some (.lst (c.map D.int))):fB zg (zE f zJ) Y M=some (.dat (.int c.length),M):=by
 have:=CJ hf (zv h);rw[AG]at this;exact this
def Hh (h : -(2 ^ 64)<b/\b<2 ^ 64):DI (.dat (.int a)) (.dat (.int b)) M=some (.dat (.int (a*b)),M):=Vk (by unfold HH;simp only[Bool.or_eq_true,Ap,EA];exact .inr h)
def MD (h:Gen M n k q) (e1:M[n]?=some (gS k a x)) (ha:0<=a) (hb:a<=q) (h0:0<m) (h1:m<1073741824) (hP:∀ Y i x',0<=i->i<m->P (.ret (.int i)) Y (M.set n (gS k a x'))) :
  OkS (zO (AQ 5 (fOp CD (fOp BL (zC 0) (fC (.str "number"))) (zC 1))) (zO (CN (fOp Fo (fOp BL (zC 0) (fC (.str "number"))) (zC 1)) (zC 0) (fC (.str "number"))) (AO (zC 5))) [some (.ref n),some (.int m),y2,y3,y4,none] M) P:=by
 refine Fz (zG (D1 rfl e1).2.2 rfl (EM h0)) ?_;rw[zM];refine FY (zG (D1 rfl e1).2.2 rfl (NK ⟨h0,h1⟩)) rfl rfl (QC e1) ?_;rw[zR];exact zk rfl (hP _ _ _ (Int.emod_nonneg _ (by omega)) (Int.emod_lt_of_pos _ h0))
def Hd (h:Gen M n k q) (hq:q<1000000000) (h0:0<m) (h1:m<1073741824) :
  Ok (zS [.ref n,.int m] M) λd M'=>(∃ i,d=.int i/\0<=i/\i<m)/\Nw M M' n k (q+1)/\M'.length=M.length:=by
 unfold zS;rw[Bj];unfold Lc;obtain ⟨c,a,x,e1,e2,e3,e4,e5,e6⟩:=h.ex;obtain ⟨hn,hk⟩:=h.lt;rw[zM,CM];refine zI (BU (zG (D1 rfl e1).2.2 rfl (zF (Ez.mpr ⟨rfl,rfl⟩)))) ?_;by_cases hx:x=0
 .rw[AD (by simpa using hx)];have hl:(0:Int)<(c.length:Int):=by omega
  have hi0:0<=a % (c.length:Int):=Int.emod_nonneg _ (by omega);have hi1:a % (c.length:Int)<c.length:=Int.emod_lt_of_pos _ hl;obtain ⟨y,hy⟩:∃ y:Int,atI (c.map D.int) (a % (c.length:Int))=some (.int y):=by
   obtain ⟨i,hi⟩:=Int.eq_ofNat_of_zero_le hi0;rw[hi]at hi1 ⊢;refine ⟨c[i]'(by omega),?_⟩;exact DL (by rw[AR,AJ (by omega)];rfl)
  refine Fz (zG (D1 rfl e1).1 (zG (D1 rfl e1).2.1 (J5 (D1 rfl e1).1 e2) (EM hl)) (BM (zv e2) hy)) ?_;rw[zM];refine FY (v:=.int (a+1)) (zG (D1 rfl e1).2.1 rfl rfl) rfl rfl (Vv e1) ?_;rw[zR];have P:=h.put (a:=a+1) (x:=x) (q':=q+1) (by omega) (by omega);have f1:(M.set n (gS k (a+1) x))[n]?=some (gS k (a+1) x):=Bn hn;have f2:(M.set n (gS k (a+1) x))[k]?=some (.lst (c.map D.int)):=by rw[Av h.ne];exact e2
  have fl:(M.set n (gS k (a+1) x)).length=M.length:=by simp
  generalize M.set n (gS k (a+1) x)=M1 at P f1 f2 fl;rw[zM,CM];have hor:∃ b,B3 (tst (fOp kLt (zC 2) (fOp G3 (fC (.int 10)) (fC (.int 18))))) (tst (fOp kGt (fOp BL (zC 0) (fC (.str "at"))) (fB zg (zE (fOp BL (zC 0) (fC (.str "cells"))) zJ)))) [some (.ref n),some (.int m),some (.int y),none,none,none] M1=some (b,M1):=by
   have t1:tst (fOp kLt (zC 2) (fOp G3 (fC (.int 10)) (fC (.int 18)))) [some (.ref n),some (.int m),some (.int y),none,none,none] M1=some (decide (y<10 ^ (18:Int).toNat),M1) :=
    BU (zG rfl (zG rfl rfl (zF (Xb.mpr ⟨by decide,rfl,rfl⟩))) (zF (II.mpr ⟨rfl,rfl⟩)))
   have t2:∃ b,tst (fOp kGt (fOp BL (zC 0) (fC (.str "at"))) (fB zg (zE (fOp BL (zC 0) (fC (.str "cells"))) zJ))) [some (.ref n),some (.int m),some (.int y),none,none,none] M1=some (b,M1) :=
    ⟨_,BU (zG (D1 rfl f1).2.1 (J5 (D1 rfl f1).1 f2) (zF (KY.mpr ⟨rfl,rfl⟩)))⟩
   obtain ⟨b2,t2⟩:=t2;unfold B3;rw[t1];cases decide (y<10 ^ (18:Int).toNat) with
   |true=>exact ⟨true,rfl⟩
   |false=>exact ⟨b2,t2⟩
  obtain ⟨b,hor⟩:=hor;refine zI hor ?_;cases b with
  |true=>
   rw[AD rfl];refine Fz (D1 rfl f1).2.1 ?_;have hs0:0<=(y % 2147483629*48271+(a+1)*(a+1)*69621+11) % 2147483647:=Int.emod_nonneg _ (by decide);have hs1:(y % 2147483629*48271+(a+1)*(a+1)*69621+11) % 2147483647<2147483647:=Int.emod_lt_of_pos _ (by decide);refine Fz (zG (zG (zG (zG (zG rfl rfl (EM (by decide))) rfl (Hh (by decide))) (zG (zG rfl rfl (Hh ⟨by omega,by omega⟩)) rfl (Hh (by decide))) rfl) rfl rfl) rfl (EM (by decide))) ?_;generalize (y % 2147483629*48271+(a+1)*(a+1)*69621+11) % 2147483647=s at hs0 hs1;refine zk (zG (zG (zG (zG (y:=.dat (.int s)) rfl rfl (Hh ⟨by omega,by omega⟩)) rfl (EM (by decide))) rfl (NK ⟨by decide,by decide⟩)) rfl (EM h0)) ?_;rw[IX];exact ⟨⟨_,rfl,Int.emod_nonneg _ (by omega),Int.emod_lt_of_pos _ h0⟩,P,fl⟩
  |false=>
   rw[AE AY,D4,zR];refine FY rfl rfl rfl (QC f1) ?_;rw[zR];have P2:=P.gen.put (a:=a+1) (x:=y) (q':=q+1) (by omega) (by omega);have g1:(M1.set n (gS k (a+1) y))[n]?=some (gS k (a+1) y):=Bn (by omega);have gl:(M1.set n (gS k (a+1) y)).length=M.length:=by rw[C8,fl]
   have PP:=P.trans P2;generalize M1.set n (gS k (a+1) y)=M2 at PP g1 gl;refine MD PP.gen g1 (by omega) (by omega) h0 h1 λY i x' i0 i1=>⟨⟨i,rfl,i0,i1⟩,PP.trans (PP.gen.put (by omega) (by omega)),by rw[C8,gl]⟩
 .rw[AE (by simpa using hx),D4,zR];exact MD h e1 e5 e6 h0 h1 λY i x' i0 i1=>⟨⟨i,rfl,i0,i1⟩,h.put e5 (by omega),by simp⟩
def Cu (h:Gen M n k q) (hq:q<1000000000) (ha:fa Y M=some (.dat (.ref n),M)) (hb:fb Y M=some (.dat (.int m),M)) (h0:0<m) (h1:m<1073741824)
  (p:∀ i M',0<=i->i<m->Nw M M' n k (q+1)->M'.length=M.length->P (.dat (.int i)) M'):Ok (zW zS (zD (toD fa) (zD (toD fb) zL)) Y M) P:=by
 rw[FC,Ho,C4];refine ⟨_,_,ha,?_⟩;rw[zQ,Ho,C4];refine ⟨_,_,hb,?_⟩;rw[zQ,FV];refine Ok.mono (Hd h hq h0 h1) ?_;rintro d M' ⟨⟨i,rfl,i0,i1⟩,nx,hl⟩;exact p i M' i0 i1 nx hl
noncomputable def La:FS:=(zO (Ao (zl (zD (toD (fB zg (zE (fOp kIx (zC 0) (fC (.int 0))) zJ))) zL)) (gN 2) (zO (AQ 3 (BO zL))
  (zO (Ao (zl (zD (toD (fB zg (zE (zC 0) zJ))) zL)) (gN 4) (Cd (fM F7 (zC 3) (zD (toD (fOp CD (fOp kIx (fOp kIx (zC 0) (zC 4)) (zC 2)) (fOp zt (zC 4) (fC (.int 1))))) (zD (toD (zC 4)) zL)))))
  (Ao (zl (zD (toD (fB zg (zE (zC 0) zJ))) zL)) (gN 4) (D8 (fOp kIx (zC 3) (zC 4)) (fOp kIx (zC 0) (zC 4)) (zC 2))))))
  (sIf (tst (zC 1)) (zO (AQ 5 (fOp Cb (fB zg (zE (fOp kIx (zC 0) (fC (.int 0))) zJ)) (fC (.int 1))))
  (D8 (fOp kIx (fOp kIx (zC 0) (fOp Cb (fB zg (zE (zC 0) zJ)) (fC (.int 1)))) (zC 5)) (fOp kIx (zC 0) (fC (.int 0))) (zC 5))) An))
noncomputable def Hg:FF:=Ax 6 La
def D2 (h:P (.ref M.length) (M++[.lst xs])):DS P (.fl xs) M:=h
def FN (A:Mem) (u:MO):(A++[u])[A.length]?=some u:=by simp
def Qj (h:M[n]?=some (.lst xs)) (h0:0<=i) (h1:i.toNat<=xs.length) (hz:xs.length<90000):F7 (.dat (.ref n)) [.int i,d] M=some (.non,M.set n (.lst (xs.take i.toNat++[d]++xs.drop i.toNat))):=by
 unfold F7;dsimp only;rw[h];dsimp only;rw[AD ⟨h0,h1,Az hz (za (by omega))⟩]
def Ww {M M1:Mem} (h:f Y M=some (.fl xs,M1)):toD f Y M=some (.ref M1.length,M1++[.lst xs]):=by unfold toD;rw[h]
def fB1 (hf:f Y M=some (x,M)):fB k (zE f zJ) Y M=k [x] M:=by unfold fB zE zJ;rw[hf]
def RX {ns:Ye} (h:ns.length<=63):Ok (Hv [.ref 0] [.fro (ns.map D.int)]) λd M'=>d=.ref 1/\Gen M' 1 2 0/\M'[0]?=some (.fro (ns.map D.int)):=by
 unfold Hv;rw[Bj];unfold Ls;have e0:([.fro (ns.map D.int),.dict []]:Mem)[0]?=some (.fro (ns.map D.int)):=rfl;have l1:fB Dn (zE (zC 0) zJ) [some (.ref 0)] [.fro (ns.map D.int),.dict []]=some (.fl (ns.map D.int),[.fro (ns.map D.int),.dict []]):=by
  rw[fB1 rfl];unfold Dn;dsimp only;rw[Mh e0]
 have l2:fB zg (zE (zC 0) zJ) [some (.ref 0)] [.fro (ns.map D.int),.dict []]=some (.dat (.int (ns.map D.int).length),[.fro (ns.map D.int),.dict []]):=CJ rfl (Mh e0);obtain ⟨zs,ez,hz⟩:∃ zs:List Int,fOp C3 (BO (zD (toD (fC (.int 0))) zL)) (fB C9 (zE (fOp kEq (fB zg (zE (zC 0) zJ)) (fC (.int 0))) zJ)) [some (.ref 0)] [.fro (ns.map D.int),.dict []]=some (.fl (zs.map D.int),[.fro (ns.map D.int),.dict []])/\0<(ns++zs).length/\(ns++zs).length<=63:=by
  have l3:fB C9 (zE (fOp kEq (fB zg (zE (zC 0) zJ)) (fC (.int 0))) zJ) [some (.ref 0)] [.fro (ns.map D.int),.dict []]=some (.dat (.int (if decide (((ns.map D.int).length:Int)=0) then 1 else 0)),[.fro (ns.map D.int),.dict []]):=by
   have l4:fOp kEq (fB zg (zE (zC 0) zJ)) (fC (.int 0)) [some (.ref 0)] [.fro (ns.map D.int),.dict []]=some (.dat (.bl (decide (((ns.map D.int).length:Int)=0))),[.fro (ns.map D.int),.dict []]):=zG l2 rfl (zF (Ez.mpr ⟨rfl,rfl⟩));rw[fB1 l4];rfl
  have l5:BO (zD (toD (fC (.int 0))) zL) [some (.ref 0)] [.fro (ns.map D.int),.dict []]=some (.fl [.int 0],[.fro (ns.map D.int),.dict []]):=by
   unfold BO;rw[zp rfl];dsimp only;rw[AD (za (by simp))]
  cases ns with
  |nil=>exact ⟨[0],zG l5 l3 (by unfold C3;dsimp only[B7,Cw];rw[AD ⟨by decide,by decide,za (by decide)⟩];rfl),by simp,by simp⟩
  |cons x r=>
   refine ⟨[],zG l5 l3 ?_,by simp,by simpa using h⟩;have:decide (((List.map D.int (x::r)).length:Int)=0)=false:=by simp;omega
   rw[this];unfold C3;dsimp only[B7,Cw];rw[AD ⟨by decide,by decide,za (by decide)⟩];rfl
 show OkS (AO _ [some (.ref 0)] [.fro (ns.map D.int)]) _;rw[NF];have ec:toD (fOp Ds (fB Dn (zE (zC 0) zJ)) (fOp C3 (BO (zD (toD (fC (.int 0))) zL)) (fB C9 (zE (fOp kEq (fB zg (zE (zC 0) zJ)) (fC (.int 0))) zJ)))) [some (.ref 0)] ([.fro (ns.map D.int)]++[.dict []])=some (.ref 2,[.fro (ns.map D.int),.dict [],.lst ((ns++zs).map D.int)]):=by
  have:fOp Ds (fB Dn (zE (zC 0) zJ)) (fOp C3 (BO (zD (toD (fC (.int 0))) zL)) (fB C9 (zE (fOp kEq (fB zg (zE (zC 0) zJ)) (fC (.int 0))) zJ))) [some (.ref 0)] [.fro (ns.map D.int),.dict []]=some (.fl ((ns++zs).map D.int),[.fro (ns.map D.int),.dict []]):=by
   refine zG l1 ez ?_;unfold Ds;dsimp only[Cw];rw[AD (za (by have:=hz.2;simp at this ⊢;omega)),Br]
  exact Ww this
 refine zI (M:=[.fro (ns.map D.int),gS 2 0 0,.lst ((ns++zs).map D.int)]) (a:=.dat (.ref 1)) ?_ ?_
 .unfold IU;rw[ec];rfl
 .rw[zQ];refine ⟨rfl,⟨⟨ns++zs,0,0,rfl,rfl,hz.1,hz.2,by decide,by decide⟩,by decide,?_⟩,rfl⟩;intro j u e;match j,e with
  |0,e=>cases e;exact CT _ _
  |1,e=>cases e;rfl
  |2,e=>cases e;exact CT _ _
  |j+3,e=>simp at e
structure Rw (M:Mem) (j:Nat) (rs:Yj) (zA:Ya) (n l:Nat):Prop where
 at_:M[j]?=some (.lst (rs.map D.ref))
 len:rs.length=zA.length
 row:∀ (i r:Nat),rs[i]?=some r -> ∃ w,zA[i]?=some w/\M[r]?=some (.lst (w.map D.int))
 nd:rs.Nodup
 hj:j∉rs
 ok:∀ w∈zA,w.length=l /\ ∀ x∈w,0<=x/\x<(n:Int)
section
variable {M M':Mem} {j n l:Nat} {rs:Yj} {zA:Ya}
def Rw.keep (h:Rw M j rs zA n l) (k:∀ i,i<M.length->M'[i]?=M[i]?):Rw M' j rs zA n l:=by
 have kp:∀ {i:Nat} {u:MO},M[i]?=some u->M'[i]?=some u:=λ{i u} e=>(k i (AK.mp e).1).trans e;exact ⟨kp h.at_,h.len,λi r e=>let ⟨w,e1,e2⟩:=h.row i r e;⟨w,e1,kp e2⟩,h.nd,h.hj,h.ok⟩
def Rw.ix (h:Rw M j rs zA n l) {Y:Sd} {f1 f2 f3:FE} {i g:Int} (h1:f1 Y M=some (.dat (.ref j),M)) (h2:f2 Y M=some (.dat (.int i),M)) (h3:f3 Y M=some (.dat (.int g),M)) (i0:0<=i) (i1:i<zA.length) (g0:0<=g) (g1:g<l) :
  fOp kIx (fOp kIx f1 f2) f3 Y M=some (.dat (.int (A0 zA i g)),M)/\0<=A0 zA i g/\A0 zA i g<n:=by
 have hi:i.toNat<rs.length:=by rw[h.len];omega
 obtain ⟨w,e1,e2⟩:=h.row i.toNat rs[i.toNat] (AJ hi);obtain ⟨hl,hx⟩:=h.ok w (Ba e1);have es:A0 zA i g=w[g.toNat]'(by omega):=by
  unfold A0;rw[Bi (l:=zA),e1,Option.getD_some,Bi,AJ (by omega)];rfl
 refine ⟨zG (zG h1 h2 (BM (zv h.at_) (EJ i0 (by rw[AR,AJ hi];rfl)))) h3 (BM (zv e2) (EJ g0 (by rw[AR,AJ (by omega),es];rfl))),?_⟩;rw[es];exact hx _ (Aq _)
def Rw.len0 (h:Rw M j rs zA n l) (h1:f1 Y M=some (.dat (.ref j),M)):fB zg (zE f1 zJ) Y M=some (.dat (.int zA.length),M):=by
 rw[CJ h1 (zv h.at_),AG,h.len]
def Rw.row0 (h:Rw M j rs zA n l) (hr:0<zA.length) (h1:f1 Y M=some (.dat (.ref j),M)):fB zg (zE (fOp kIx f1 (fC (.int 0))) zJ) Y M=some (.dat (.int l),M):=by
 have hi:0<rs.length:=by rw[h.len];omega
 obtain ⟨w,e1,e2⟩:=h.row 0 rs[0] (AJ hi);obtain ⟨hl,hx⟩:=h.ok w (Ba e1);have e3:=CJ (zG (g:=fC (.int 0)) h1 rfl (BM (zv h.at_) (EJ (by decide) (by rw[AR];show Option.map _ rs[0]?=_;rw[AJ hi];rfl)))) (zv e2);rw[e3,AG,hl]
def Rw.put (h:Rw M j rs zA n l) {i g r:Nat} {x:Int} (hr:rs[i]?=some r) (x0:0<=x) (x1:x<n):∃ w,zA[i]?=some w/\M[r]?=some (.lst (w.map D.int))/\Rw (M.set r (.lst ((w.set g x).map D.int))) j rs (zA.set i (w.set g x)) n l:=by
 obtain ⟨w,e1,e2⟩:=h.row i r hr;have hrl:=(AK.mp e2).1;have hil:=(AK.mp e1).1;have hrj:j≠r:=λz=>h.hj (by rw[z];exact Ba hr);refine ⟨w,e1,e2,by rw[Av (Ne.symm hrj)];exact h.at_,by rw[C8];exact h.len,λi' r' e=>?_,h.nd,h.hj,λw' hw'=>?_⟩
 .by_cases hi:i'=i
  .subst hi;rw[hr]at e;cases e;exact ⟨w.set g x,Bn hil,Bn hrl⟩
  .obtain ⟨w2,e3,e4⟩:=h.row i' r' e;have:r'≠r:=λz=>hi (by subst z;exact (List.getElem?_inj (AK.mp e).1 h.nd).mp (e.trans hr.symm));exact ⟨w2,by rw[Av (Ne.symm hi)];exact e3,by rw[Av (Ne.symm this)];exact e4⟩
 .obtain ⟨hl,hx⟩:=h.ok w (Ba e1);rcases List.mem_or_eq_of_mem_set hw' with q|q
  .exact h.ok w' q
  .subst q;refine ⟨by rw[C8];exact hl,λy hy=>?_⟩;rcases List.mem_or_eq_of_mem_set hy with q|q
   .exact hx y q
   .subst q;exact ⟨x0,x1⟩
def Rw.other (h:Rw M j rs zA n l) (h1:p≠j) (h2:p∉rs):Rw (M.set p u) j rs zA n l:=by
 refine ⟨by rw[Av h1];exact h.at_,h.len,λi r e=>?_,h.nd,h.hj,h.ok⟩;obtain ⟨w,e1,e2⟩:=h.row i r e;exact ⟨w,e1,by rw[Av (λz=>h2 (by rw[z];exact Ba e))];exact e2⟩
def Rw.out (h:Rw M j rs zA n l) (hp:M.length<=p):p≠j/\p∉rs:=by
 refine ⟨λz=>?_,λz=>?_⟩
 .have:=(AK.mp h.at_).1;omega
 .obtain ⟨i,hi⟩:=List.getElem?_of_mem z;obtain ⟨w,_,e2⟩:=h.row i p hi;have:=(AK.mp e2).1;omega
def Rw.push (h:Rw M j rs zA n l) (us:Mem):Rw (M++us) j rs zA n l:=h.keep λi hi=>Ag hi
def Rw.refs (h:Rw M j rs zA n l):∀ r∈rs,r<M.length:=λr hr=>by
 obtain ⟨i,hi⟩:=List.getElem?_of_mem hr;obtain ⟨w,_,e2⟩:=h.row i r hi;exact (AK.mp e2).1
end
def Vs {M:Mem} {n k q:Nat} (h:Gen M n k q) {own:Yj} {i:Nat} {f te:FE} {Y:Sd} {cnt:Nat} {lo hi:Int} (c1:cnt<=90000) (hf:f Y M=some (.dat (.int cnt),M))
  (ht:∀ (r:Nat) (M':Mem),r<cnt->Nw M M' n k (q+r)->M'.length=M.length->Ok (te ((Bp own Y).set i (some (.int r))) M') λx M''=>∃ v:Int,x=.dat (.int v)/\lo<=v/\v<hi/\Nw M' M'' n k (q+r+1)/\M''.length=M'.length) :
  Ok (zj own (zl (zD (toD f) zL)) (gN i) zu te Y M) λx M'=>(∃ c:List Int,x=.fl (c.map D.int)/\c.length=cnt /\ ∀ y∈c,lo<=y/\y<hi)/\Nw M M' n k (q+cnt)/\M'.length=M.length:=by
 refine GP.mpr ⟨_,_,_,CQ hf (by omega) (by omega),by rw[HD];exact za (by omega),?_⟩;rw[BG];refine Ok.mono (Ku (n:=cnt) (I:=λj acc M2=>(∃ c:List Int,acc=c.map D.int/\c.length=j /\ ∀ y∈c,lo<=y/\y<hi)/\Nw M M2 n k (q+j)/\M2.length=M.length) ?_ ⟨⟨[],rfl,rfl,λ_ h=>by cases h⟩,Nw.refl h,rfl⟩) ?_
 .rintro j acc M2 hj ⟨⟨c,rfl,hcl,hc⟩,nx,hl⟩;refine ⟨_,rfl,?_⟩;refine Ok.mono (ht j M2 hj nx hl) ?_;rintro x M3 ⟨v,rfl,v0,v1,nx3,hl3⟩;rw[zQ];refine ⟨⟨c++[v],by simp,by simp[hcl],λz hz=>?_⟩,nx.trans nx3,hl3.trans hl⟩;rcases AV.mp hz with q|q
  .exact hc z q
  .have:z=v:=by simpa using q
   subst this;exact ⟨v0,v1⟩
 .rintro ys M2 ⟨⟨c,rfl,hcl,hc⟩,nx,hl⟩;exact ⟨⟨c,rfl,hcl,hc⟩,nx,hl⟩
def Rw.add (h:Rw M j rs zA n l) (hw:w.length=l /\ ∀ x∈w,0<=x/\x<(n:Int)) :
  Rw ((M++[MO.lst (w.map D.int)]).set j (.lst ((rs++[M.length]).map D.ref))) j (rs++[M.length]) (zA++[w]) n l:=by
 have hj:=(AK.mp h.at_).1;have hr:=h.refs;refine ⟨by rw[Bn (by rw[Ae];omega)],by simp[h.len],λi r e=>?_,?_,λz=>?_,λv hv=>?_⟩
 .have hne:j≠r:=λz=>by
   subst z;rcases AV.mp (Ba e)with z|z
   .exact h.hj z
   .have:j=M.length:=by simpa using z
    omega
  rw[Av hne];by_cases hi:i<rs.length
  .rw[Ag hi]at e;obtain ⟨v,e1,e2⟩:=h.row i r e;exact ⟨v,by rw[Ag (by rw[<-h.len];exact hi)];exact e1,by rw[Ag (hr r (Ba e))];exact e2⟩
  .have hi2:i=rs.length:=by
    have:=(AK.mp e).1;rw[Ae]at this;simp at this;omega
   subst hi2;simp at e;subst e;exact ⟨w,by rw[h.len];simp,by simp⟩
 .rw[Dm];refine ⟨h.nd,by simp,λa ha b hb z=>?_⟩;have:b=M.length:=by simpa using hb
  have:=hr a ha;omega
 .rcases AV.mp z with z|z
  .exact h.hj z
  .have:j=M.length:=by simpa using z
   omega
 .rcases AV.mp hv with z|z
  .exact h.ok v z
  .have:v=w:=by simpa using z
   subst this;exact hw
noncomputable def JN:FS:=(zO (AQ 1 (fOp zt (fC (.int 2)) (zW zS (zD (toD (zC 0)) (zD (toD (fC (.int 8))) zL)))))
  (zO (AQ 2 (fOp zt (fC (.int 1)) (zW zS (zD (toD (zC 0)) (zD (toD (fC (.int 4))) zL)))))
  (zO (AQ 3 (BO zL))
  (zO (Ao (zl (zD (toD (zC 1)) zL)) (gN 4) (Cd (fM Dp (zC 3) (zD (toD (zj [5] (zl (zD (toD (zC 2)) zL)) (gN 5) zu (zW zS (zD (toD (zC 0)) (zD (toD (zC 1)) zL))))) zL))))
  (zO (Cd (zW Hg (zD (toD (zC 3)) (zD (toD (fC (.bl false))) zL))))
  (AO (fB ze (zE (zj [6] (Ah (zC 3)) (gN 6) zu (fB ze (zE (zC 6) zJ))) zJ))))))))
noncomputable def Hb:FF:=EW (Ax 7 JN)
noncomputable def vl (zA:Ya) (s g:Nat):Int:=(zA.getD s []).getD g 0
def Ij (zA:Ya) (N g:Nat):Prop:=∀ s s',s<N->s'<N->vl zA s g=vl zA s' g->s=s'
def NG (ht:zA[t]?=some w) (hi:i<w.length) (s g:Nat):vl (zA.set t (w.set i x)) s g=if s=t/\g=i then x else vl zA s g:=by
 have htl:=(AK.mp ht).1;unfold vl;rw[Bi (l:=zA.set t (w.set i x)),Dz];by_cases hs:t=s
 .subst hs;rw[AD rfl,AD htl];show (w.set i x).getD g 0=_;rw[Bi,Dz];by_cases hg:i=g
  .subst hg;rw[AD rfl,AD hi,AD ⟨rfl,rfl⟩];rfl
  .rw[AE hg,AE λz=>hg z.2.symm,Bi (l:=zA),ht,<-Bi];rfl
 .rw[AE hs,AE λz=>hs z.1.symm,<-Bi]
def YF (g:Gen M0 n k q0) (nw:Nw M0 M n k q) (rw_:Rw M j rs zA N l) (hN:zA.length=N) (h0:0<N) (h1:N<=1000) (hl0:0<l) (hl:l<=1000) (lo:M0.length<=j) (lr:∀ r∈rs,M0.length<=r) :
  Ok (Hg [.ref j,.bl false] M) λd M'=>d=.non/\Nw M0 M' n k q /\ ∃ rows',Rw M' j rs rows' N l/\rows'.length=N /\ ∀ g,g<l->Ij rows' N g:=by
 unfold Hg;rw[Bj];unfold La;show OkS (zO _ _ [some (.ref j),some (.bl false),none,none,none,none] M) _;rw[zM,Bq];refine ⟨_,_,_,CQ (rw_.row0 (by omega) rfl) (by omega) (by omega),?_⟩;rw[BG];refine Di (n:=l) (I:=λi Y M'=>(∃ y2 y3 y4,Y=[some (.ref j),some (.bl false),y2,y3,y4,none])/\Nw M0 M' n k q /\ ∃ rows',Rw M' j rs rows' N l/\rows'.length=N /\ ∀ g,g<i->Ij rows' N g) ?_ ?_ _ _ ⟨⟨_,_,_,rfl⟩,nw,zA,rw_,hN,λg h=>by omega⟩
 .rintro i Y M1 hi ⟨⟨y2,y3,y4,rfl⟩,nw1,rows1,rw1,hr1,hij⟩;refine ⟨_,rfl,?_⟩;show OkS (zO _ _ [some (.ref j),some (.bl false),some (.int (i:Nat)),y3,y4,none] M1) _;rw[zM,zf];refine G5.mpr (FV.mpr ⟨za (by simp),D2 ?_⟩);rw[zR];have nw2:=nw1.trans (nw1.gen.lst [] rfl);have rw2:=rw1.push [MO.lst ([]:List D)];obtain ⟨p1,p2⟩:=rw1.out (AF M1.length);have hp0:M0.length<=M1.length:=nw1.len;have e2:(M1++[MO.lst ([]:List D)])[M1.length]?=some (.lst []):=FN _ _;generalize M1++[MO.lst ([]:List D)]=M2 at nw2 rw2 e2;generalize M1.length=p at p1 p2 hp0 e2;show OkS (zO _ _ [some (.ref j),some (.bl false),some (.int (i:Nat)),some (.ref p),y4,none] M2) _;rw[zM,Bq];refine ⟨_,_,_,CQ (rw2.len0 rfl) (by omega) (by omega),?_⟩;rw[BG,hr1];refine Di (n:=N) (I:=λt Y M'=>(∃ y4,Y=[some (.ref j),some (.bl false),some (.int (i:Nat)),some (.ref p),y4,none])/\Nw M0 M' n k q/\Rw M' j rs rows1 N l /\ ∃ c:List Int,M'[p]?=some (.lst (c.map D.int))/\c.length=t/\c.Nodup /\ ∀ x∈c,0<=x/\x<(t:Int)) ?_ ?_ _ _ ⟨⟨_,rfl⟩,nw2,rw2,[],e2,rfl,List.nodup_nil,λ_ h=>by cases h⟩
  .rintro t Y M3 ht ⟨⟨y4,rfl⟩,nw3,rw3,c,e3,hc,hnd,hx⟩;refine ⟨_,rfl,?_⟩;show OkS (Cd _ [some (.ref j),some (.bl false),some (.int (i:Nat)),some (.ref p),some (.int (t:Nat)),none] M3) _;rw[Gz];obtain ⟨ev,v0,v1⟩:=rw3.ix (Y:=[some (.ref j),some (.bl false),some (.int (i:Nat)),some (.ref p),some (.int (t:Nat)),none]) (f1:=zC 0) (f2:=zC 4) (f3:=zC 2) (i:=t) (g:=i) rfl rfl rfl (by omega) (by omega) (by omega) (by omega);generalize A0 rows1 t i=v at ev v0 v1;have m0:0<=v % ((t:Int)+1):=Int.emod_nonneg _ (by omega);have m1:v % ((t:Int)+1)<(t:Int)+1:=Int.emod_lt_of_pos _ (by omega);refine Hl.mpr (ES.mpr ⟨_,rfl,⟨_,Fm e3⟩,?_⟩);refine zI (zZ (d:=.int (v % ((t:Int)+1))) (zG ev (zG (x:=.dat (.int (t:Nat))) rfl rfl rfl) (EM (by omega))) (zp (d:=.int (t:Nat)) rfl)) ?_;refine zI (Qj e3 m0 (by rw[AG];omega) (by rw[AG];omega)) ?_;have hpl:p<M3.length:=(AK.mp e3).1;generalize (v % ((t:Int)+1)).toNat=z at m0 m1;have hperm:(c.take z++[(t:Int)]++c.drop z).Perm ((t:Int)::c):=by
    rw[Bu,List.singleton_append];have h1:=@List.perm_middle _ (t:Int) (c.take z) (c.drop z);rw[DM]at h1;exact h1
   refine ⟨⟨_,rfl⟩,nw3.setB g hp0 ?_,rw3.other p1 p2,c.take z++[(t:Int)]++c.drop z,?_,by rw[hperm.length_eq,B5,hc],?_,λx hx'=>?_⟩
   .show D.unds _ _=true;rw[<-List.map_take,<-List.map_drop,HI,HI,CT,CT];rfl
   .rw[Bn hpl];simp
   .rw[hperm.nodup_iff,ET];exact ⟨λhm=>by have:=hx _ hm;omega,hnd⟩
   .rcases AL.mp (hperm.mem_iff.mp hx')with y|y
    .omega
    .have:=hx x y;omega
  .rintro Y M3 ⟨⟨y4,rfl⟩,nw3,rw3,c,e3,hc,hnd,hx⟩;rw[zR,Bq];refine ⟨_,_,_,CQ (rw3.len0 rfl) (by omega) (by omega),?_⟩;rw[BG,hr1];refine Di (n:=N) (I:=λt Y M'=>(∃ y4,Y=[some (.ref j),some (.bl false),some (.int (i:Nat)),some (.ref p),y4,none])/\Nw M0 M' n k q/\(∃ rows',Rw M' j rs rows' N l/\rows'.length=N/\(∀ s,s<t->vl rows' s i=c.getD s 0) /\ ∀ s g,g≠i->vl rows' s g=vl rows1 s g)/\M'[p]?=some (.lst (c.map D.int))) ?_ ?_ _ _ ⟨⟨_,rfl⟩,nw3,⟨rows1,rw3,hr1,λs h=>by omega,λ_ _ _=>rfl⟩,e3⟩
   .rintro t Y M4 ht ⟨⟨y4,rfl⟩,nw4,⟨rows4,rw4,hr4,hv1,hv2⟩,e4⟩;refine ⟨_,rfl,?_⟩;show OkS (D8 _ _ _ [some (.ref j),some (.bl false),some (.int (i:Nat)),some (.ref p),some (.int (t:Nat)),none] M4) _;rw[Qe];have hct:t<c.length:=by omega
    refine zI (a:=.dat (.int c[t])) (zG (x:=.dat (.ref p)) (y:=.dat (.int (t:Nat))) rfl rfl (BM (zv e4) (NQ (by rw[AR,AJ hct];rfl)))) ?_;rw[zQ];have hrs:t<rs.length:=by rw[rw4.len];omega
    refine zI (a:=.dat (.ref rs[t])) (zG (x:=.dat (.ref j)) (y:=.dat (.int (t:Nat))) rfl rfl (BM (zv rw4.at_) (NQ (by rw[AR,AJ hrs];rfl)))) ?_;refine ES.mpr ⟨.int (i:Nat),rfl,?_⟩;rw[zQ];obtain ⟨x0,x1⟩:=hx c[t] (Aq hct);obtain ⟨w,f1,f2,rw5⟩:=rw4.put (g:=i) (AJ hrs) x0 x1;have hwl:=(rw4.ok w (Ba f1)).1;refine ⟨_,Oa f2 (by rw[AG];omega),?_⟩;rw[<-List.map_set];have hrt:rs[t]∈rs:=Aq hrs;refine ⟨⟨_,rfl⟩,nw4.setB g (lr _ hrt) (CT _ _),⟨_,rw5,by rw[C8];exact hr4,λs hs=>?_,λs g' hg'=>?_⟩,?_⟩
    .rw[NG f1 (by omega)];by_cases z:s=t
     .rw[AD ⟨z,rfl⟩,z,Bi,AJ hct];rfl
     .rw[AE λy=>z y.1];exact hv1 s (by omega)
    .rw[NG f1 (by omega),AE λy=>hg' y.2];exact hv2 s g' hg'
    .rw[Av (λz=>p2 (by rw[<-z];exact hrt))];exact e4
   .rintro Y M4 ⟨⟨y4,rfl⟩,nw4,⟨rows4,rw4,hr4,hv1,hv2⟩,e4⟩;refine ⟨⟨_,_,_,rfl⟩,nw4,rows4,rw4,hr4,λg' hg'=>?_⟩;by_cases z:g'=i
    .subst z;intro s s' hs hs' e;rw[hv1 s hs,hv1 s' hs',Bi,Bi,AJ (by omega),AJ (by omega)]at e;exact (List.getElem?_inj (i:=s) (j:=s') (by omega) hnd).mp (by rw[AJ (by omega),AJ (by omega)];exact BV some e)
    .intro s s' hs hs' e;rw[hv2 s g' z,hv2 s' g' z]at e;exact hij g' (by omega) s s' hs hs' e
 .rintro Y M1 ⟨⟨y2,y3,y4,rfl⟩,nw1,rows1,rw1,hr1,hij⟩;rw[zR,CM];refine zI (a:=false) (BU rfl) ?_;rw[AE AY,D4];exact ⟨rfl,nw1,rows1,rw1,hr1,hij⟩
end Lae
namespace Law
open L2 L3 ST
noncomputable abbrev gL (k:Nat) (s:Int):MO:=.lst [.ref k,.int s]
end Law
namespace Lac
open L2 L3 ST Law
noncomputable def Ed (g:Ye):List Key:=g.map Sum.inl
theorem QK:∀ {a b:Ye},Ed a=Ed b->a=b
 |[],[],_=>rfl
 |[],_::_,h=>by cases h
 |_::_,[],h=>by cases h
 |x::a,y::b,h=>by
  have h1:=(Ci h).1;have h2:=QK (Ci h).2;cases h1;rw[h2]
theorem O2:∀ g:List Int,C0 (g.map D.int)=some (Ed g)
 |[]=>rfl
 |x::r=>by
  rw[Ad];unfold C0;rw[O2 r];rfl
def LC (g:Ye):tkD (tI g)=some (Ed g):=O2 g
noncomputable abbrev BZ (T:List (List Int × D)):List (D × D):=T.map λq=>(tI q.1,q.2)
noncomputable abbrev dT (T:List (List Int × D)):MO:=.dicT (BZ T)
noncomputable def zd:List (List Int × D)->List Int->Option D
 |[],_=>none
 |q::r,g=>if q.1=g then some q.2 else zd r g
noncomputable def BF (T:List (List Int × D)) (g:Ye) (v:D):List (List Int × D):=match zd T g with
 |some _=>T.map λq=>if q.1=g then (q.1,v) else q
 |none=>T++[(g,v)]
def Jp (a g:Ye):decide (tkD (tI a)=some (Ed g))=decide (a=g):=by
 rw[LC];by_cases h:a=g
 .subst h;simp
 .rw[AS h,AS];intro e;exact h (QK (Bc e))
theorem Pq (g:Ye):∀ T:List (List Int × D),DA tkD (BZ T) (Ed g)=zd T g
 |[]=>rfl
 |q::r=>by
  have ih:=Pq g r;unfold DA at ih ⊢;unfold BZ at ih ⊢;rw[Ad,Ef];rw[Jp];unfold zd;by_cases h:q.1=g
  .rw[Af h,AD h];rfl
  .rw[AS h,AE h];exact ih
theorem MZ (g:Ye):∀ T:List (List Int × D),((BZ T).any λp=>decide (tkD p.1=some (Ed g)))=(zd T g).isSome
 |[]=>rfl
 |q::r=>by
  have ih:=MZ g r;unfold BZ at ih ⊢;rw[Ad,List.any_cons,Jp];unfold zd;by_cases h:q.1=g
  .rw[Af h,AD h];rfl
  .rw[AS h,AE h,Bool.false_or];exact ih
def bO (T:List (List Int × D)) (g:Ye) (v:D):E9 tkD (BZ T) (Ed g) (tI g) v=BZ (BF T g v):=by
 unfold E9 BF;rw[MZ];cases h:zd T g with
 |none=>
  rw[AE (by simp)];unfold BZ;rw[Br];rfl
 |some d=>
  rw[AD (by simp)];unfold BZ;rw[BQ,BQ];apply List.map_congr_left;intro q _;show (if tkD (tI q.1)=some (Ed g) then (tI q.1,v) else (tI q.1,q.2))=(tI (if q.1=g then (q.1,v) else q).1,(if q.1=g then (q.1,v) else q).2);have hd:=Jp q.1 g;by_cases hq:q.1=g
  .rw[Af hq]at hd;rw[AD (Bv hd),AD hq]
  .rw[AS hq]at hd;rw[AE (of_decide_eq_false hd),AE hq]
def bG (T:List (List Int × D)) (g h:Ye) (v:D):zd (BF T g v) h=if g=h then some v else zd T h:=by
 have app:∀ (T:List (List Int × D)),zd T g=none->zd (T++[(g,v)]) h=if g=h then some v else zd T h:=by
  intro T;induction T with
  |nil=>intro _;rfl
  |cons q r ih=>
   intro e;unfold zd at e;by_cases hq:q.1=g
   .rw[AD hq]at e;cases e
   .rw[AE hq]at e;show (if q.1=h then some q.2 else zd (r++[(g,v)]) h)=if g=h then some v else if q.1=h then some q.2 else zd r h
    rw[ih e];by_cases h1:q.1=h
    .rw[AD h1,AD h1,AE (λz=>hq (h1.trans z.symm))]
    .rw[AE h1,AE h1]
 have mp:∀ (T:List (List Int × D)),(zd T g).isSome=true->zd (T.map λq=>if q.1=g then (q.1,v) else q) h=if g=h then some v else zd T h:=by
  intro T;by_cases hgh:g=h
  .subst hgh;induction T with
   |nil=>intro e;cases e
   |cons q r ih=>
    intro e;rw[Ad];unfold zd;by_cases hq:q.1=g
    .rw[AD hq];simp[hq]
    .rw[AE hq,AE hq];unfold zd at e;rw[AE hq]at e;rw[ih e,AD rfl,AD rfl]
  .intro hx;clear hx;rw[AE hgh];induction T with
   |nil=>rfl
   |cons q r ih=>
    rw[Ad];unfold zd;by_cases hq:q.1=g
    .have:¬ q.1=h:=λz=>hgh (hq.symm.trans z);rw[AD hq];rw[AE this,AE this];exact ih
    .rw[AE hq];by_cases h1:q.1=h
     .rw[AD h1,AD h1]
     .rw[AE h1,AE h1];exact ih
 unfold BF;cases e:zd T g with
 |none=>exact app T e
 |some d=>exact mp T (by rw[e];rfl)
def dgT (h:M[n]?=some (dT T)):ER M (.dat (.ref n)) (tI g)=some (zd T g):=by
 unfold ER;dsimp only;rw[h];dsimp only;rw[LC];dsimp only;rw[Pq]
def DQ (h:M[n]?=some (dT T)):Fn neg (.dat (tI g)) (.dat (.ref n)) M=some (.dat (.bl (if neg then !(zd T g).isSome else (zd T g).isSome)),M):=by
 unfold Fn;dsimp only;rw[dgT h]
def CO (h:M[n]?=some (dT T)) (hz:T.length<90000):DT M n (tI g) v=some (M.set n (dT (BF T g v))):=by
 unfold DT;rw[h];dsimp only;rw[LC];dsimp only;rw[AD (by rw[AG];exact Az hz (za (by omega))),bO]
def E7 (wf:∀ (j:Nat) u,M[j]?=some u->MO.und M.length u=true) (hd:D.und 0 d=true) (h:Ok (m ds M) λd' M'=>d'=d /\ ∃ us,M'=M++us):EW m ds M=some (d,M):=by
 refine zF (Ih (Ok.mono h ?_));rintro d' M' ⟨rfl,us,rfl⟩;refine ⟨⟨G9 (Bz _) hd,by simp,λj u hj e=>?_⟩,rfl,by simp⟩;rw[Ag hj]at e;exact wf j u e
end Lac
namespace Lae
open L2 L3 ST Law
noncomputable abbrev Lvl:=List (List Int × List Int)
noncomputable def BA (zA:Ya) (S w:Ye) (p:List (List Int) × Lvl) (g:Int):List (List Int) × Lvl :=
 if setR zA S g∈p.1 then p else (p.1++[setR zA S g],p.2++[(setR zA S g,w++[g])])
noncomputable def CF (l:Nat):List Int:=(List.range l).map λ(g:Nat)=>(g:Int)
noncomputable def Co (zA:Ya) (l:Nat) (p:List (List Int) × Lvl) (s:List Int × List Int):List (List Int) × Lvl:=(CF l).foldl (BA zA s.1 s.2) p
noncomputable def Cr (zA:Ya) (l:Nat) (seen:Ya) (level:Lvl):List (List Int) × Lvl:=level.foldl (Co zA l) (seen,[])
noncomputable def run (zA:Ya) (l:Nat) (due:List Int->Bool):Nat->List (List Int)->Lvl->List (List (List Int))->Option (Option (List Int) × List (List (List Int)))
 |0,_,_,_=>none
 |n+1,seen,level,acc=>if level.isEmpty then some (none,acc) else match level.find? λp=>due p.1 with
  |some p=>some (some p.2,acc)
  |none=>run zA l due n (Cr zA l seen level).1 (Cr zA l seen level).2 (acc++[level.map (·.1)])
structure Met (zA:Ya) (seen:Ya) (level:Lvl):Prop where
 nd:seen.Nodup
 st:∀ S∈seen,IsS zA S
 lv:∀ p∈level,IsS zA p.1
structure Gr (zA:Ya) (seen:Ya) (p:List (List Int) × Lvl):Prop where
 nd:p.1.Nodup
 st:∀ S∈p.1,IsS zA S
 eq:p.1=seen++p.2.map (·.1)
def Gr.lv {zA:Ya} {seen:Ya} {p:List (List Int) × Lvl} (h:Gr zA seen p):∀ s∈p.2,IsS zA s.1:=λs hs=>h.st _ (by rw[h.eq];exact Bg _ (Aj.mpr ⟨s,hs,rfl⟩))
def OD {zA:Ya} {l:Nat} (m:IsM zA l) {seen:Ya} {p:List (List Int) × Lvl} (h:Gr zA seen p) {S w:Ye} (s:IsS zA S) {g:Int} (g0:0<=g) (g1:g<l):Gr zA seen (BA zA S w p g):=by
 unfold BA;split
 .exact h
 .rename_i hn;refine ⟨?_,λT hT=>?_,by rw[h.eq];simp⟩
  .rw[Dm];exact ⟨h.nd,by simp,λa ha b hb z=>hn (by rw[<-(show b=setR zA S g by simpa using hb),<-z];exact ha)⟩
  .rcases AV.mp hT with z|z
   .exact h.st T z
   .have:T=setR zA S g:=by simpa using z
    rw[this];exact m.setR s g0 g1
def N7 (h:g∈CF l):0<=g/\g<l:=by
 obtain ⟨i,hi,rfl⟩:=Aj.mp h;have:=DD.mp hi;omega
theorem Qg {zA:Ya} {l:Nat} (m:IsM zA l) {seen:Ya} {S w:Ye} (s:IsS zA S):∀ (gs:Ye) {p:List (List Int) × Lvl},(∀ g∈gs,0<=g/\g<(l:Int))->Gr zA seen p->Gr zA seen (gs.foldl (BA zA S w) p)
 |[],_,_,h=>h
 |g::r,p,hg,h=>Qg m s r (λx hx=>hg x (Am _ hx)) (OD m h s (hg g AW).1 (hg g AW).2)
def dJ {zA:Ya} {l:Nat} (m:IsM zA l) {seen:Ya} {p:List (List Int) × Lvl} (h:Gr zA seen p) {s:List Int × List Int} (hs:IsS zA s.1):Gr zA seen (Co zA l p s):=Qg m hs _ (λg hg=>N7 hg) h
theorem Kj {zA:Ya} {l:Nat} (m:IsM zA l) {seen:Ya}:∀ {level:Lvl} {p:List (List Int) × Lvl},(∀ s∈level,IsS zA s.1)->Gr zA seen p->Gr zA seen (level.foldl (Co zA l) p)
 |[],_,_,h=>h
 |s::r,p,hs,h=>Kj m (level:=r) (λx hx=>hs x (Am _ hx)) (dJ m h (hs s AW))
def Met.next {zA:Ya} {l:Nat} (m:IsM zA l) {seen:Ya} {level:Lvl} (h:Met zA seen level):Gr zA seen (Cr zA l seen level):=Kj m h.lv ⟨h.nd,h.st,by simp⟩
def Gr.met {zA:Ya} {seen:Ya} {p:List (List Int) × Lvl} (h:Gr zA seen p):Met zA p.1 p.2:=⟨h.nd,h.st,h.lv⟩
noncomputable def Es:Nat->List (List Int)
 |0=>[[]]
 |n+1=>Es n++(Es n).map (· ++ [(n:Int)])
theorem Pj:∀ n,(Es n).length=2 ^ n
 |0=>rfl
 |n+1=>by unfold Es;rw[Ae,AG,Pj n,Nat.pow_succ];omega
theorem Lz:∀ (n:Nat) (S:Ye),S.Pairwise (· < ·)->(∀ x∈S,0<=x/\x<(n:Int))->S∈Es n
 |0,S,_,h=>by
  cases S with
  |nil=>unfold Es;simp
  |cons x r=>have:=h x AW;omega
 |n+1,S,hp,h=>by
  unfold Es;rw[AV];by_cases hn:(n:Int)∈S
  .right;obtain ⟨a,b,rfl⟩:=List.append_of_mem hn;rw[List.pairwise_append,Cj]at hp;have hb:b=[]:=by
    cases b with
    |nil=>rfl
    |cons y b=>
     have h1:=hp.2.1.1 y AW;have h2:=h y (by simp);omega
   subst hb;refine Aj.mpr ⟨a,Lz n a hp.1 λx hx=>?_,rfl⟩;have h1:=hp.2.2 x hx (n:Int) AW;have h2:=h x (E4 _ hx);omega
  .left;refine Lz n S hp λx hx=>?_;have h2:=h x hx;have:x≠n:=λz=>hn (z▸hx);omega
theorem NO {α:Type} [DecidableEq α]:∀ {xs ys:List α},xs.Nodup->(∀ x∈xs,x∈ys)->xs.length<=ys.length
 |[],_,_,_=>Bz _
 |x::r,ys,hn,h=>by
  have hn':=ET.mp hn;have h1:=h x AW;have ih:=NO (xs:=r) (ys:=ys.erase x) hn'.2 λy hy=>by
   have:y≠x:=λz=>hn'.1 (z▸hy);exact (List.mem_erase_of_ne this).mpr (h y (Am _ hy))
  rw[List.length_erase_of_mem h1]at ih;have:=List.length_pos_of_mem h1;rw[B5];omega
def HF {zA:Ya} {seen:Ya} (nd:seen.Nodup) (st:∀ S∈seen,IsS zA S) (h9:zA.length<=9):seen.length<=512:=by
 have h1:seen.length<=(Es zA.length).length:=NO nd λS hS=>Lz _ S (st S hS).pw (st S hS).mem;rw[Pj]at h1;have:2 ^ zA.length<=2 ^ 9:=Nat.pow_le_pow_right (by decide) h9;omega
theorem Nn {zA:Ya} {l:Nat} (m:IsM zA l) (h9:zA.length<=9) {due:List Int->Bool}:∀ (n:Nat) {seen:Ya} {level:Lvl} {acc:List (List (List Int))},Met zA seen level->514<=n+seen.length -> ∃ r,run zA l due n seen level acc=some r
 |0,seen,level,acc,h,hn=>by have:=HF h.nd h.st h9;omega
 |n+1,seen,level,acc,h,hn=>by
  unfold run;split
  .exact ⟨_,rfl⟩
  .split
   .exact ⟨_,rfl⟩
   .have g:=h.next m;by_cases he:(Cr zA l seen level).2=[]
    .cases n with
     |zero=>have:=HF h.nd h.st h9;omega
     |succ n=>
      unfold run;rw[he];exact ⟨_,rfl⟩
    .refine Nn m h9 n g.met ?_;rw[g.eq,Ae,AG];have:=List.length_pos_iff.mpr he;omega
theorem OT (hd:∀ S,due S=false):∀ (n:Nat) {seen:Ya} {level:Lvl} {acc:List (List (List Int))} {r},run zA l due n seen level acc=some r->r.1=none
 |0,_,_,_,_,h=>by cases h
 |n+1,seen,level,acc,r,h=>by
  unfold run at h;split at h
  .cases h;rfl
  .split at h
   .rename_i p hp;have:=List.find?_some hp;rw[hd]at this;cases this
   .exact OT hd n h
theorem Pe:∀ (n:Nat) {seen:Ya} {level:Lvl} {acc:List (List (List Int))} {r:Option (List Int) × List (List (List Int))},run zA l due n seen level acc=some r->r.2.length<=acc.length+n
 |0,_,_,_,_,h=>by cases h
 |n+1,seen,level,acc,r,h=>by
  unfold run at h;split at h
  .cases h;show acc.length<=_;omega
  .split at h
   .cases h;show acc.length<=_;omega
   .have:=Pe n h;rw[Ae,List.length_singleton]at this;omega
open Lac (dT BZ zd BF DQ CO)
noncomputable def Kb:FS:=(zO (AQ 3 IC)
  (zO (Ao (EO (zC 1)) (Dq 4 5) (Ao (zl (zD (toD (fB zg (zE (fOp kIx (zC 0) (fC (.int 0))) zJ))) zL)) (gN 6) (zO (AQ 7 (zW GY (zD (toD (zC 0)) (zD (toD (zC 4)) (zD (toD (zC 6)) zL)))))
  (sIf (tst (fOp (Fn true) (zC 7) (zC 2))) (zO (CN (fC (.bl true)) (zC 2) (zC 7))
  (CN (fOp zt (zC 5) (Bd (zD (toD (zC 6)) zL))) (zC 3) (zC 7))) An))))
  (AO (zC 3))))
noncomputable def Gy:FF:=Ax 8 Kb
noncomputable def sE (ss:Ya):List (List Int × D):=ss.map λs=>(s,.bl true)
noncomputable def wE (lv:Lvl):List (List Int × D):=lv.map λp=>(p.1,tI p.2)
theorem Im (x:D):∀ (T:List (List Int × D)) (g:Ye),(zd T g).isSome=decide (g∈T.map (·.1))
 |[],g=>by simp[zd]
 |q::r,g=>by
  unfold zd;by_cases h:q.1=g
  .rw[AD h];simp[h]
  .rw[AE h,Im x r g];have:g≠q.1:=λz=>h z.symm;simp[this]
def OM (ss:Ya):(sE ss).map (·.1)=ss:=by unfold sE;rw[BQ];exact List.map_id' ss
def ZV (lv:Lvl):(wE lv).map (·.1)=lv.map (·.1):=by unfold wE;rw[BQ];rfl
def Nh (h:g∉T.map (·.1)):BF T g v=T++[(g,v)]:=by
 unfold BF;have:=Im .non T g;rw[AS h]at this;cases e:zd T g with
 |none=>rfl
 |some d=>rw[e]at this;cases this
def Zt (h:g∉ss):BF (sE ss) g (.bl true)=sE (ss++[g]):=by
 rw[Nh (by rw[OM];exact h)];unfold sE;simp
def dC (h:g∉lv.map (·.1)):BF (wE lv) g (tI w)=wE (lv++[(g,w)]):=by
 rw[Nh (by rw[ZV];exact h)];unfold wE;simp
structure Nl (M0 M:Mem) (a b c:Nat) (lev:MO) (seen:Ya) (beh:Lvl):Prop where
 len:M.length=M0.length+1
 ea:M[a]?=some lev
 eb:M[b]?=some (dT (sE seen))
 ec:M[c]?=some (dT (wE beh))
 fr:∀ j,j<M0.length->j≠a->j≠b->M[j]?=M0[j]?
def XD (hz:w.length<=5000):zt (.dat (tI w)) (.dat (.tup [.int g])) M=some (.dat (tI (w++[g])),M):=by
 have e:Kh (.dat (tI w)) (.dat (.tup [.int g])) M=none:=rfl;show kOr Kh GH _ _ M=_;unfold kOr;rw[e];show GH (.dat (.tup (w.map D.int))) (.dat (.tup [.int g])) M=_;unfold GH;dsimp only[B7];rw[AD (za (by simp;omega))];unfold tI;rw[Br];rfl
def aG {zA:Ya} {l:Nat} (m:IsM zA l) (h9:zA.length<=9) {M0 M:Mem} {a b c:Nat} (hac:a≠c) (hbc:b≠c) (hab:a≠b) (hc:c=M0.length) (hb:b<M0.length) {lev:MO} {seen0:Ya} {p:List (List Int) × Lvl} (gr:Gr zA seen0 p) (nl:Nl M0 M a b c lev p.1 p.2) {S w:Ye} (s:IsS zA S) (hw:w.length<=5000) {g:Int} (g0:0<=g) (g1:g<l) {y7:Option D} :
  OkS (zO (AQ 7 (zW GY (zD (toD (zC 0)) (zD (toD (zC 4)) (zD (toD (zC 6)) zL)))))
  (sIf (tst (fOp (Fn true) (zC 7) (zC 2))) (zO (CN (fC (.bl true)) (zC 2) (zC 7))
  (CN (fOp zt (zC 5) (Bd (zD (toD (zC 6)) zL))) (zC 3) (zC 7))) An) [some (mD zA),some (.ref a),some (.ref b),some (.ref c),some (tI S),some (tI w),some (.int g),y7] M)
   λo Y M'=>o=.nx/\(∃ y7,Y=[some (mD zA),some (.ref a),some (.ref b),some (.ref c),some (tI S),some (tI w),some (.int g),y7])/\Nl M0 M' a b c lev (BA zA S w p g).1 (BA zA S w p g).2:=by
 refine Fz (Bm (zZ rfl (zZ rfl (zp rfl))) (aE m (by omega) s g0 g1)) ?_;rw[CM];refine zI (BU (zG rfl rfl (DQ nl.eb))) ?_;rw[Im .non,OM];unfold BA;by_cases hm:setR zA S g∈p.1
 .rw[AD hm,AE (by simp[hm]),D4];exact ⟨rfl,⟨_,rfl⟩,nl⟩
 .rw[AE hm,AD (by simp[hm]),zM];have hl:=HF gr.nd gr.st h9;have hk:p.2.length<=p.1.length:=by rw[gr.eq,Ae,AG];omega
  have hm2:setR zA S g∉p.2.map (·.1):=λz=>hm (by rw[gr.eq];exact Bg _ z);refine FY rfl rfl rfl (CO nl.eb (by unfold sE;rw[AG];omega)) ?_;rw[zR,Zt hm];have hbl:b<M.length:=by rw[nl.len];omega
  have hcl:c<M.length:=by rw[nl.len];omega
  have ec':(M.set b (dT (sE (p.1++[setR zA S g]))))[c]?=some (dT (wE p.2)):=by rw[Av hbc];exact nl.ec
  have tp:∀ {Y:Sd} {M:Mem},Y[6]?=some (some (.int g))->Bd (zD (toD (zC 6)) zL) Y M=some (.dat (.tup [.int g]),M):=λ{Y M} e=>by
   have e1:zC 6 Y M=some (.dat (.int g),M):=by unfold zC;rw[e]
   unfold Bd;rw[zp e1];dsimp only;rw[AD (za (by simp))]
  refine FY (zG rfl (tp rfl) (XD hw)) rfl rfl (CO ec' (by unfold wE;rw[AG];omega)) ?_;rw[dC hm2];refine ⟨rfl,⟨_,rfl⟩,by simp[nl.len],?_,?_,?_,λj hj h1 h2=>?_⟩
  .rw[Av (Ne.symm hac),Av (Ne.symm hab)];exact nl.ea
  .rw[Av (Ne.symm hbc),Bn hbl]
  .rw[Bn (by simpa using hcl)]
  .rw[Av (by omega),Av (Ne.symm h2)];exact nl.fr j hj h1 h2
def Vm (h:∀ s∈p.2,s.2.length<=n) (hw:w.length+1<=n):∀ s∈(BA zA S w p g).2,s.2.length<=n:=by
 unfold BA;split
 .exact h
 .intro s hs;rcases AV.mp hs with z|z
  .exact h s z
  .have:s=(setR zA S g,w++[g]):=by simpa using z
   rw[this];simpa using hw
theorem My (hw:w.length+1<=n):∀ (gs:Ye) {p:List (List Int) × Lvl},(∀ s∈p.2,s.2.length<=n) -> ∀ s∈(gs.foldl (BA zA S w) p).2,s.2.length<=n
 |[],_,h=>h
 |g::r,p,h=>My hw r (Vm h hw)
theorem MG:∀ {level:Lvl} {p:List (List Int) × Lvl},(∀ s∈level,s.2.length+1<=n)->(∀ s∈p.2,s.2.length<=n) -> ∀ s∈(level.foldl (Co zA l) p).2,s.2.length<=n
 |[],_,_,h=>h
 |s::r,p,hs,h=>MG (level:=r) (λx hx=>hs x (Am _ hx)) (My (hs s AW) _ h)
noncomputable abbrev lE (lv:Lvl):List (D × D):=BZ (wE lv)
def X3 {zA:Ya} {l:Nat} (m:IsM zA l) (h9:zA.length<=9) (hl9:l<=1000) {M0:Mem} {a b:Nat} (hab:a≠b) {level:Lvl} {seen:Ya} (mt:Met zA seen level) (ea:M0[a]?=some (.dicT (lE level))\/M0[a]?=some (.froT (lE level))) (eb:M0[b]?=some (dT (sE seen))) (hw:∀ s∈level,s.2.length<=5000) :
  Ok (Gy [mD zA,.ref a,.ref b] M0) λd M'=>d=.ref M0.length/\Nl M0 M' a b M0.length (.froT (lE level)) (Cr zA l seen level).1 (Cr zA l seen level).2:=by
 have ha:a<M0.length:=by rcases ea with e|e <;> exact (AK.mp e).1
 have hb:b<M0.length:=(AK.mp eb).1;unfold Gy;rw[Bj];unfold Kb;rw[zM,zf];refine zI (M:=M0++[.dicT []]) rfl ?_;rw[zQ,zR];obtain ⟨M1,ei,nl1⟩:∃ M1,EO (zC 1) [some (mD zA),some (.ref a),some (.ref b),some (.ref M0.length),none,none,none,none] (M0++[.dicT []])=some ((lE level).map λp=>D.tup [p.1,p.2],none,M1)/\Nl M0 M1 a b M0.length (.froT (lE level)) seen []:=by
  have ga:(M0++[.dicT []])[a]?=M0[a]?:=Ag ha;have gb:(M0++[.dicT []])[b]?=some (dT (sE seen)):=by rw[Ag hb];exact eb
  have gc:(M0++[.dicT []])[M0.length]?=some (dT (wE [])):=by simp;rfl
  unfold EO zC;dsimp only[List.getElem?_cons_succ,List.getElem?_cons_zero];rw[ga];rcases ea with e|e
  .rw[e];refine ⟨_,rfl,by simp,Bn (by simp;omega),?_,?_,λj hj h1 h2=>?_⟩
   .rw[Av hab];exact gb
   .rw[Av (by omega)];exact gc
   .rw[Av (Ne.symm h1),Ag hj]
  .rw[e];exact ⟨_,rfl,by simp,ga.trans e,gb,gc,λj hj h1 h2=>Ag hj⟩
 rw[zM,Bq];refine ⟨_,_,_,ei,?_⟩;refine D7 (I:=λr Y M'=>(∃ y4 y5 y6 y7,Y=[some (mD zA),some (.ref a),some (.ref b),some (.ref M0.length),y4,y5,y6,y7]) /\ ∃ (done rest:Lvl),r=(lE rest).map (λp=>D.tup [p.1,p.2])/\done++rest=level/\Nl M0 M' a b M0.length (.froT (lE level)) (done.foldl (Co zA l) (seen,[])).1 (done.foldl (Co zA l) (seen,[])).2) ?_ ?_ _ _ _ ⟨⟨_,_,_,_,rfl⟩,[],level,rfl,rfl,nl1⟩
 .rintro x r Y M' ⟨⟨y4,y5,y6,y7,rfl⟩,done,rest,er,hd,nl⟩;cases rest with
  |nil=>cases er
  |cons sw rest=>
   obtain ⟨rfl,rfl⟩:=Ci er;have hs:sw∈level:=by rw[<-hd];simp
   have sS:=mt.lv sw hs;have gr0:Gr zA seen (done.foldl (Co zA l) (seen,[])):=Kj m (λs z=>mt.lv s (by rw[<-hd];simp[z])) ⟨mt.nd,mt.st,by simp⟩;generalize hp:done.foldl (Co zA l) (seen,[])=p0 at nl gr0;refine ⟨zh,_,rfl,?_⟩;rw[Bq];have el:fB zg (zE (fOp kIx (zC 0) (fC (.int 0))) zJ) [some (mD zA),some (.ref a),some (.ref b),some (.ref M0.length),some (tI sw.1),some (tI sw.2),y6,y7] M'=some (.dat (.int l),M'):=by
    have hr:=m.get (h:=0) (by decide) (by have:=m.r0;omega);have:=CJ (f:=fOp kIx (zC 0) (fC (.int 0))) (Y:=[some (mD zA),some (.ref a),some (.ref b),some (.ref M0.length),some (tI sw.1),some (tI sw.2),y6,y7]) (M:=M') (zG (x:=.dat (mD zA)) rfl rfl (BM zV (LG (by decide) (by have:=m.r0;omega)))) zV;rw[this,AG,hr.1]
   refine ⟨_,_,_,CQ el (by omega) (by omega),?_⟩;rw[BG];refine Di (n:=l) (I:=λi Y M2=>(∃ y6 y7,Y=[some (mD zA),some (.ref a),some (.ref b),some (.ref M0.length),some (tI sw.1),some (tI sw.2),y6,y7])/\Gr zA seen ((CF i).foldl (BA zA sw.1 sw.2) p0)/\Nl M0 M2 a b M0.length (.froT (lE level)) ((CF i).foldl (BA zA sw.1 sw.2) p0).1 ((CF i).foldl (BA zA sw.1 sw.2) p0).2) ?_ ?_ _ _ ⟨⟨_,_,rfl⟩,gr0,nl⟩
   .rintro i Y M2 hi ⟨⟨y6,y7,rfl⟩,gr,nl2⟩;refine ⟨_,rfl,?_⟩;refine OkS.mono (aG m h9 (by omega) (by omega) hab rfl hb gr nl2 sS (hw sw hs) (g:=(i:Nat)) (by omega) (by omega)) ?_;rintro o Y M3 ⟨rfl,⟨y7,rfl⟩,nl3⟩;have e:(CF (i+1)).foldl (BA zA sw.1 sw.2) p0=BA zA sw.1 sw.2 ((CF i).foldl (BA zA sw.1 sw.2) p0) (i:Nat):=by
     unfold CF;rw[List.range_succ,Br,List.foldl_append];rfl
    rw[e];exact ⟨⟨_,_,rfl⟩,OD m gr sS (by omega) (by omega),nl3⟩
   .rintro Y M2 ⟨⟨y6,y7,rfl⟩,gr,nl2⟩;refine ⟨⟨_,_,_,_,rfl⟩,done++[sw],rest,rfl,by rw[<-hd];simp,?_⟩;rw[List.foldl_append,hp];exact nl2
 .rintro Y M' ⟨⟨y4,y5,y6,y7,rfl⟩,done,rest,er,hd,nl⟩;have:rest=[]:=by cases rest with|nil=>rfl|cons _ _=>cases er
  subst this;rw[CG]at hd;subst hd;refine ⟨zh,?_⟩;rw[zR];exact zk rfl ⟨rfl,nl⟩
open Lac (dT BZ zd BF DQ CO)
noncomputable def Ii (gL:List D->FF) (lL:Lm):FS:=(zO (AQ 3 (GO (zC 1) (fC (.bl true))))
  (zO (AQ 4 (GO (zC 1) (Bd zL)))
  (zO (AQ 5 (BO zL))
  (zO (Cs (HW (zC 4)) (zO (Ao (EO (zC 4)) (Dq 6 7) (sIf (tst (Gb 2 lL gL (zD (toD (zC 6)) zL))) (AO (Bd (zD (toD (fC (.str "word"))) (zD (toD (zC 7)) (zD (toD (fB ze (zE (zC 5) zJ))) zL))))) An))
  (zO (Cd (fM Dp (zC 5) (zD (toD (fB ze (zE (fB EY (zE (zC 4) zJ)) zJ))) zL)))
  (AQ 4 (zW Gy (zD (toD (zC 0)) (zD (toD (zC 4)) (zD (toD (zC 3)) zL))))))) 1000)
  (AO (Bd (zD (toD (fC (.str "none"))) (zD (toD (fB ze (zE (zC 5) zJ))) zL))))))))
noncomputable def E6 (gL:List D->FF) (lL:Lm):FF:=Dh (Ax 8 (Ii gL lL))
theorem N5:∀ ts:List (List Int),Gh (ts.map tI)=some ts
 |[]=>rfl
 |t::r=>by
  rw[Ad];unfold Gh;rw[N5 r];show (match BC (t.map D.int),some r with|some x,some xs=>some (x::xs)|_,_=>none)=_;rw[DU]
noncomputable def lvD (L:Ya):D:=.tup ((Aw L).map tI)
noncomputable def shD (acc:List (List (List Int))):D:=.tup (acc.map lvD)
def VJ (lv:Lvl):(lE lv).map (·.1)=(lv.map (·.1)).map tI:=by
 unfold lE BZ wE;rw[BQ,BQ,BQ];rfl
def bT {lv:Lvl} (h:∀ p∈lv,IsS zA p.1):Hs (lv.map (·.1))=true:=by
 unfold Hs;rw[Ab];intro t ht;obtain ⟨p,hp,rfl⟩:=Aj.mp ht;have:=(h p hp).n0;cases e:p.1 with
 |nil=>rw[e]at this;cases this
 |cons x r=>rfl
def TY {lv:Lvl} (h:∀ p∈lv,IsS zA p.1) (hf:f Y M=some (x,M)) (hx:FU M x=some (lE lv)):fB ze (zE (fB EY (zE f zJ)) zJ) Y M=some (.dat (lvD (lv.map (·.1))),M):=by
 refine CU (x:=.fl ((Aw (lv.map (·.1))).map λt=>D.tup (t.map D.int))) ?_ Cy;have e1:fB EY (zE f zJ) Y M=EY [x] M:=by unfold fB zE zJ;rw[hf]
 rw[e1];unfold EY;dsimp only;rw[hx];dsimp only;rw[VJ,N5];dsimp only;rw[AD (bT h)]
def cL (hs:Y[i]?=some (some (.fn l cs))) (hf:f Y M=some (.dat a,M)) (hg:g cs [a] M=some (d,M)):Gb i l g (zD (toD f) zL) Y M=some (.dat d,M):=by
 unfold Gb;rw[hs];dsimp only;rw[AD rfl,zp hf];dsimp only;rw[hg]
def Wh (zA:Ya) (R:Ye) (lL:Lm) (cs:List D) (s h:Nat) (r:Option (List Int) × List (List (List Int))) (o:Out) (Y:Sd) (M':Mem):Prop:=match r.1 with
 |some w=>o=.ret (.tup [.str "word", tI w,shD r.2])
 |none=>o=.nx/\(∃ v y6 y7,Y=[some (mD zA),some (tI R),some (.fn lL cs),some (.ref s),some (.ref v),some (.ref h),y6,y7])/\M'[h]?=some (.lst (r.2.map lvD))
noncomputable abbrev srC:FT:=HW (zC 4)
noncomputable abbrev srB (gL:List D->FF) (lL:Lm):FS:=(zO (Ao (EO (zC 4)) (Dq 6 7) (sIf (tst (Gb 2 lL gL (zD (toD (zC 6)) zL))) (AO (Bd (zD (toD (fC (.str "word"))) (zD (toD (zC 7)) (zD (toD (fB ze (zE (zC 5) zJ))) zL))))) An))
  (zO (Cd (fM Dp (zC 5) (zD (toD (fB ze (zE (fB EY (zE (zC 4) zJ)) zJ))) zL)))
  (AQ 4 (zW Gy (zD (toD (zC 0)) (zD (toD (zC 4)) (zD (toD (zC 3)) zL)))))))
section
variable {zA:Ya} {l:Nat} {R:Ye} {gL:List D->FF} {lL:Lm} {cs:List D} {due:List Int->Bool}
def SK (m:IsM zA l) (h9:zA.length<=9) (hl9:l<=1000) (hG:∀ S M',IsS zA S->gL cs [tI S] M'=some (.bl (due S),M')) {seen:Ya} {level:Lvl} {acc:List (List (List Int))} (mt:Met zA seen level) (hw:∀ s∈level,s.2.length<=4000) (hacc:acc.length<=4000)
  {M:Mem} {s v h:Nat} (hsv:s≠v) (hhv:h≠v) (hsh:s≠h) (es:M[s]?=some (dT (sE seen))) (ev:M[v]?=some (.dicT (lE level))) (eh:M[h]?=some (.lst (acc.map lvD))) {y6 y7:Option D} :
  OkS (srB gL lL [some (mD zA),some (tI R),some (.fn lL cs),some (.ref s),some (.ref v),some (.ref h),y6,y7] M) λo Y M'=>match level.find? (λp=>due p.1) with
   |some p=>o=.ret (.tup [.str "word", tI p.2,shD acc])
   |none=>o=.nx/\(∃ v' y6 y7,Y=[some (mD zA),some (tI R),some (.fn lL cs),some (.ref s),some (.ref v'),some (.ref h),y6,y7]/\s≠v'/\h≠v'/\M'[v']?=some (.dicT (lE (Cr zA l seen level).2)))/\M'[s]?=some (dT (sE (Cr zA l seen level).1))/\M'[h]?=some (.lst ((acc++[level.map (·.1)]).map lvD)):=by
 have hvl:v<M.length:=(AK.mp ev).1;have hhl:h<M.length:=(AK.mp eh).1;rw[zM,Bq];have ei:EO (zC 4) [some (mD zA),some (tI R),some (.fn lL cs),some (.ref s),some (.ref v),some (.ref h),y6,y7] M=some ((lE level).map (λp=>D.tup [p.1,p.2]),none,M.set v (.froT (lE level))):=by
  unfold EO zC;dsimp only[List.getElem?_cons_succ,List.getElem?_cons_zero];rw[ev]
 refine ⟨_,_,_,ei,?_⟩;have es1:(M.set v (.froT (lE level)))[s]?=some (dT (sE seen)):=by rw[Av (Ne.symm hsv)];exact es
 have ev1:(M.set v (.froT (lE level)))[v]?=some (.froT (lE level)):=Bn hvl;have eh1:(M.set v (.froT (lE level)))[h]?=some (.lst (acc.map lvD)):=by rw[Av (Ne.symm hhv)];exact eh
 have ln1:(M.set v (.froT (lE level))).length=M.length:=by simp
 generalize M.set v (.froT (lE level))=M1 at es1 ev1 eh1 ln1;refine D7 (I:=λr Y M'=>M'=M1/\(∃ y6 y7,Y=[some (mD zA),some (tI R),some (.fn lL cs),some (.ref s),some (.ref v),some (.ref h),y6,y7]) /\ ∃ (done rest:Lvl),r=(lE rest).map (λp=>D.tup [p.1,p.2])/\done++rest=level /\ ∀ p∈done,due p.1=false) ?_ ?_ _ _ _ ⟨rfl,⟨_,_,rfl⟩,[],level,rfl,rfl,λ_ h=>by cases h⟩
 .rintro x r Y M' ⟨rfl,⟨y6,y7,rfl⟩,done,rest,er,hd,nd⟩;cases rest with
  |nil=>cases er
  |cons sw rest=>
   obtain ⟨rfl,rfl⟩:=Ci er;have hs:sw∈level:=by rw[<-hd];simp
   refine ⟨zh,_,rfl,?_⟩;rw[CM];refine zI (BU (cL rfl rfl (hG _ _ (mt.lv sw hs)))) ?_;cases hdue:due sw.1 with
   |true=>
    rw[AD rfl];have e5:fB ze (zE (zC 5) zJ) [some (mD zA),some (tI R),some (.fn lL cs),some (.ref s),some (.ref v),some (.ref h),some (tI sw.1),some (tI sw.2)] M'=some (.dat (shD acc),M'):=CU rfl (zv eh1);have e6:Bd (zD (toD (fC (.str "word"))) (zD (toD (zC 7)) (zD (toD (fB ze (zE (zC 5) zJ))) zL))) [some (mD zA),some (tI R),some (.fn lL cs),some (.ref s),some (.ref v),some (.ref h),some (tI sw.1),some (tI sw.2)] M'=some (.dat (.tup [.str "word", tI sw.2,shD acc]),M'):=by
     unfold Bd;rw[zZ rfl (zZ rfl (zp e5))];dsimp only;rw[AD (za (by simp))]
    refine zk e6 ?_;show nxP _ _ (.ret _) _ _;rw[IX];have hf:level.find? (λp=>due p.1)=some sw:=by
     rw[<-hd,List.find?_append,List.find?_eq_none.mpr (λp hp=>by rw[nd p hp];simp)];simp[hdue]
    rw[hf]
   |false=>
    rw[AE AY,D4];refine ⟨rfl,⟨_,_,rfl⟩,done++[sw],rest,rfl,by rw[<-hd];simp,λp hp=>?_⟩;rcases AV.mp hp with z|z
    .exact nd p z
    .have:p=sw:=by simpa using z
     rw[this];exact hdue
 .rintro Y M' ⟨rfl,⟨y6,y7,rfl⟩,done,rest,er,hd,nd⟩;have:rest=[]:=by cases rest with|nil=>rfl|cons _ _=>cases er
  subst this;rw[CG]at hd;subst hd;refine ⟨zh,?_⟩;have hf:done.find? (λp=>due p.1)=none:=List.find?_eq_none.mpr λp hp=>by rw[nd p hp];simp
  rw[hf,zR,zM,Gz];refine Hl.mpr (ES.mpr ⟨_,rfl,⟨_,Fm eh1⟩,?_⟩);refine zI (zp (TY mt.lv rfl (by unfold FU;dsimp only;rw[ev1]))) ?_;rw[Lj eh1 (by rw[AG];exact Az (m:=4001) (by omega) (za (by omega))),zR];have es2:(M'.set h (.lst (acc.map lvD++[lvD (done.map (·.1))])))[s]?=some (dT (sE seen)):=by rw[Av (Ne.symm hsh)];exact es1
  have ev2:(M'.set h (.lst (acc.map lvD++[lvD (done.map (·.1))])))[v]?=some (.froT (lE done)):=by rw[Av hhv];exact ev1
  have eh2:(M'.set h (.lst (acc.map lvD++[lvD (done.map (·.1))])))[h]?=some (.lst ((acc++[done.map (·.1)]).map lvD)):=by rw[Bn (by omega),Br];rfl
  generalize M'.set h (.lst (acc.map lvD++[lvD (done.map (·.1))]))=M2 at es2 ev2 eh2;have hh2:h<M2.length:=(AK.mp eh2).1;have hs2:s<M2.length:=(AK.mp es2).1;rw[zf];refine FC.mpr (zI (zZ rfl (zZ rfl (zp rfl))) ?_);refine Ok.mono (X3 m h9 hl9 (Ne.symm hsv) mt (.inr ev2) es2 λp hp=>Ak (hw p hp) (by omega)) ?_;rintro d M3 ⟨rfl,nl⟩;rw[zQ];exact ⟨rfl,⟨M2.length,_,_,rfl,by omega,by omega,nl.ec⟩,nl.eb,by rw[nl.fr h hh2 hhv (Ne.symm hsh)];exact eh2⟩
theorem PX (m:IsM zA l) (h9:zA.length<=9) (hl9:l<=1000) (hG:∀ S M',IsS zA S->gL cs [tI S] M'=some (.bl (due S),M')):∀ (n:Nat) {seen:Ya} {level:Lvl} {acc:List (List (List Int))} {r:Option (List Int) × List (List (List Int))} {k:Nat},Met zA seen level->(∀ p∈level,p.2.length<=k)->acc.length<=k->k+n<=4000->run zA l due n seen level acc=some r ->
  ∀ (M:Mem) (s v h:Nat) (y6 y7:Option D),s≠v->h≠v->s≠h->M[s]?=some (dT (sE seen))->M[v]?=some (.dicT (lE level))->M[h]?=some (.lst (acc.map lvD)) ->
  OkS (Cs srC (srB gL lL) n [some (mD zA),some (tI R),some (.fn lL cs),some (.ref s),some (.ref v),some (.ref h),y6,y7] M) (Wh zA R lL cs s h r)
 |0,_,_,_,_,_,_,_,_,_,hr=>by cases hr
 |n+1,seen,level,acc,r,k,mt,hw,hacc,hk,hr=>by
  intro M s v h y6 y7 hsv hhv hsh es ev eh;have ec:srC [some (mD zA),some (tI R),some (.fn lL cs),some (.ref s),some (.ref v),some (.ref h),y6,y7] M=some (!(lE level).isEmpty,M):=by
   unfold srC HW zC FU;dsimp only[List.getElem?_cons_succ,List.getElem?_cons_zero];rw[ev]
  have hem:(lE level).isEmpty=level.isEmpty:=by cases level <;> rfl
  unfold run at hr;unfold Cs;rw[ec,hem];cases hl:level.isEmpty with
  |true=>
   rw[hl,AD rfl]at hr;cases hr;exact ⟨_,_,_,rfl,rfl,⟨_,_,_,rfl⟩,eh⟩
  |false=>
   rw[hl,AE AY]at hr;obtain ⟨o,σ1,M1,eb,hb⟩:=SK m h9 hl9 hG mt (λp hp=>Ak (hw p hp) (by omega)) (Ak hacc (by omega)) hsv hhv hsh es ev eh
   show OkS (match srB gL lL [some (mD zA),some (tI R),some (.fn lL cs),some (.ref s),some (.ref v),some (.ref h),y6,y7] M with
    |some (.nx,σ2,M2)=>Cs srC (srB gL lL) n σ2 M2
    |some (.cnt,σ2,M2)=>Cs srC (srB gL lL) n σ2 M2
    |some (.brk,σ2,M2)=>some (.nx,σ2,M2)
    |some (.ret d,σ2,M2)=>some (.ret d,σ2,M2)
    |none=>none) _
   rw[eb];cases hf:level.find? (λp=>due p.1) with
   |some p=>
    rw[hf]at hr hb;cases hr;have hb':o=.ret (.tup [.str "word", tI p.2,shD acc]):=hb;subst hb';exact ⟨_,_,_,rfl,rfl⟩
   |none=>
    rw[hf]at hr hb;obtain ⟨rfl,⟨v',y6',y7',rfl,n1,n2,ev'⟩,es',eh'⟩:=hb;have g:=mt.next m;exact PX m h9 hl9 hG n g.met (MG (λp hp=>Nat.succ_le_succ (hw p hp)) λ_ h=>by cases h) (by rw[Ae,List.length_singleton];omega) (by omega) hr _ _ _ _ _ _ n1 n2 hsh es' ev' eh'
noncomputable def DV (r:Option (List Int) × List (List (List Int))):D:=match r.1 with
 |some w=> .tup [.str "word", tI w,shD r.2]
 |none=> .tup [.str "none", shD r.2]
def OW (hf:f Y (M++[.dicT []])=some (.dat (tI S),M++[.dicT []])) (hg:g Y (M++[.dicT []])=some (.dat v,M++[.dicT []])):GO f g Y M=some (.dat (.ref M.length),M++[dT [(S,v)]]):=by
 have t1:toD f Y (M++[.dicT []])=some (tI S,M++[.dicT []]):=by unfold toD;rw[hf]
 have t2:toD g Y (M++[.dicT []])=some (v,M++[.dicT []]):=by unfold toD;rw[hg]
 unfold GO;rw[t1];dsimp only;rw[t2];dsimp only;have e:(M++[MO.dicT []])[M.length]?=some (dT []):=by simp
 rw[CO e (by simp)];refine BV (λz=>some (EV.dat (D.ref M.length),z)) ?_;show (M++[MO.dicT []]).set M.length (dT [(S,v)])=M++[dT [(S,v)]];rw[List.set_append_right _ _ (AF _)];simp
def eU (m:IsM zA l) (h9:zA.length<=9) (hl9:l<=1000) (hG:∀ S M',IsS zA S->gL cs [tI S] M'=some (.bl (due S),M')) (sR:IsS zA R) (hr:run zA l due 1000 [R] [(R,[])] []=some r) (M:Mem) :
  Ok (Ax 8 (Ii gL lL) [mD zA,tI R,.fn lL cs] M) λd _=>d=DV r:=by
 rw[Bj];unfold Ii;rw[zM,zf];refine zI (OW rfl rfl) ?_;rw[zQ,zR];have e1:(M++[dT [(R,.bl true)]])[M.length]?=some (dT (sE [R])):=by simp;rfl
 have l1:(M++[dT [(R,.bl true)]]).length=M.length+1:=by simp
 generalize M++[dT [(R,.bl true)]]=M1 at e1 l1;have et:∀ (Y:Sd) (M:Mem),Bd zL Y M=some (.dat (tI []),M):=λY M=>by unfold Bd zL;dsimp only;rw[AD (za (by simp))];rfl
 rw[zM,zf];refine zI (OW rfl (et _ _)) ?_;rw[zQ,zR];have e2:(M1++[dT [(R,tI [])]])[M1.length]?=some (.dicT (lE [(R,[])])):=by simp;rfl
 have e1':(M1++[dT [(R,tI [])]])[M.length]?=some (dT (sE [R])):=by rw[Ag (by omega)];exact e1
 have l2:(M1++[dT [(R,tI [])]]).length=M.length+2:=by simp[l1]
 rw[l1]at e2;rw[l1];generalize M1++[dT [(R,tI [])]]=M2 at e2 e1' l2;rw[zM,zf];refine G5.mpr (FV.mpr ⟨za (by simp),D2 ?_⟩);rw[zR,l2];have e3:(M2++[MO.lst ([]:List D)])[M.length+2]?=some (.lst (([]:List (List (List Int))).map lvD)):=by rw[<-l2];simp
 have e2':(M2++[MO.lst ([]:List D)])[M.length+1]?=some (.dicT (lE [(R,[])])):=by rw[Ag (by omega)];exact e2
 have e1'':(M2++[MO.lst ([]:List D)])[M.length]?=some (dT (sE [R])):=by rw[Ag (by omega)];exact e1'
 generalize M2++[MO.lst ([]:List D)]=M3 at e3 e2' e1'';rw[zM];have mt:Met zA [R] [(R,[])]:=⟨by simp,λS hS=>by rw[AU.mp hS];exact sR,λp hp=>by rw[AU.mp hp];exact sR⟩;refine OkS.mono (PX m h9 hl9 hG 1000 mt (λp hp=>by rw[AU.mp hp];exact AF 0) (AF 0) (by omega) hr _ _ _ _ _ _ (by omega) (by omega) (by omega) e1'' e2' e3) ?_;intro o Y M4 hW;unfold Wh at hW;unfold DV;split at hW
 .rename_i w hw;subst hW;rw[IX]
 .rename_i hw;obtain ⟨rfl,⟨v,y6,y7,rfl⟩,eh⟩:=hW;rw[zR];have e5:fB ze (zE (zC 5) zJ) [some (mD zA),some (tI R),some (.fn lL cs),some (.ref M.length),some (.ref v),some (.ref (M.length+2)),y6,y7] M4=some (.dat (shD r.2),M4):=CU rfl (zv eh);have e6:Bd (zD (toD (fC (.str "none"))) (zD (toD (fB ze (zE (zC 5) zJ))) zL)) [some (mD zA),some (tI R),some (.fn lL cs),some (.ref M.length),some (.ref v),some (.ref (M.length+2)),y6,y7] M4=some (.dat (.tup [.str "none", shD r.2]),M4):=by
   unfold Bd;rw[zZ rfl (zp e5)];dsimp only;rw[AD (za (by simp))]
  exact zk e6 rfl
def Bo (xs:Ye):D.und n (tI xs)=true:=HC xs
def QJ (acc:List (List (List Int))):D.und n (shD acc)=true:=by
 unfold shD D.und;refine FR λx hx=>?_;obtain ⟨L,_,rfl⟩:=Aj.mp hx;unfold lvD D.und;refine FR λx hx=>?_;obtain ⟨t,_,rfl⟩:=Aj.mp hx;exact Bo t
def Lg (r:Option (List Int) × List (List (List Int))):D.und n (DV r)=true:=by
 unfold DV;split
 .unfold D.und D.unds D.unds D.unds D.unds;rw[Bo,QJ];rfl
 .unfold D.und D.unds D.unds D.unds;rw[QJ];rfl
def MK (m:IsM zA l) (h9:zA.length<=9) (hl9:l<=1000) (hG:∀ S M',IsS zA S->gL cs [tI S] M'=some (.bl (due S),M')) (hcs:D.unds 0 cs=true) (sR:IsS zA R) (hr:run zA l due 1000 [R] [(R,[])] []=some r) :
  E6 gL lL [mD zA,tI R,.fn lL cs] M=some (DV r,M):=by
 refine zF ?_;unfold E6;refine Eo ?_ (Ok.mono (eU m h9 hl9 hG sR hr []) ?_)
 .unfold D.unds D.unds D.unds D.unds;rw[Fx,Bo];unfold D.und;rw[hcs];rfl
 .rintro d M1 rfl;exact ⟨Lg r,rfl,rfl⟩
def N4 {idx:Yj} {mm:Lm->FF} {g1 g2:FA} {Y:Sd} {M M1 M2:Mem} {ds1 ds2:List D} {d:D} (h1:g1 Y M=some (ds1,M1)) (h2:g2 Y M1=some (ds2,M2)) (hc:HX Y idx=some cs) (h:∀ l,mm l (ds1 ++ .fn l cs::ds2) M2=some (d,M2)):GV idx mm g1 g2 Y M=some (.dat d,M2):=by
 have hx:∃ r:D × Mem,∀ l,mm l (ds1 ++ .fn l cs::ds2) M2=some r:=⟨(d,M2),h⟩;have hs:=hx.choose_spec ⟨0,.none,[]⟩;rw[h]at hs;unfold GV;rw[h1];dsimp only;rw[h2];dsimp only;rw[hc];dsimp only;rw[dif_pos hx];rw[<-Bc hs]
end
open Lac (dT BZ zd BF DQ CO)
noncomputable def Lv:FS:=(zO (AQ 3 (BO zL))
  (zO (Ao (Ah (zC 1)) (gN 4) (sIf (tst (fOp (kIn true) (fOp kIx (fOp kIx (zC 0) (zC 4)) (zC 2)) (zC 3))) (Cd (fM Dp (zC 3) (zD (toD (fOp kIx (fOp kIx (zC 0) (zC 4)) (zC 2))) zL))) An))
  (AO (fB ze (zE (fB CS (zE (zC 3) zJ)) zJ)))))
noncomputable def F4:FF:=Dh (Ax 5 Lv)
def XG {M:Mem} {c:Ye} (h:M[n]?=some (.lst (c.map D.int))):kIn true (.dat (.int x)) (.dat (.ref n)) M=some (.dat (.bl (!decide (x∈c))),M):=by
 unfold kIn;dsimp only;rw[zv h];dsimp only;rw[DU];have:(c.any λy=>decide (y=x))=decide (x∈c):=by
  by_cases hm:x∈c
  .rw[Af hm];exact El.mpr ⟨x,hm,by simp⟩
  .rw[AS hm];exact List.any_eq_false.mpr λy hy=>by simp;intro e;exact hm (e▸hy)
 show some (EV.dat (.bl (!(c.any λy=>decide (y=x)))),M)=_;rw[this]
def eE (hf:f Y M=some (.dat (.ref n),M)) (h:M[n]?=some (.lst (c.map D.int))) (hz:c.length<64):fB CS (zE f zJ) Y M=some (.fl ((Ay c).map D.int),M):=by
 rw[fB1 hf];unfold CS;dsimp only;rw[zv h];dsimp only;rw[DU];dsimp only;rw[AD hz]
def Zf {zA:Ya} {l:Nat} (m:IsM zA l) (h9:zA.length<=9) {S:Ye} (s:IsS zA S) {g:Int} (g0:0<=g) (g1:g<l) {M:Mem}:F4 [mD zA,tI S,.int g] M=some (tI (setR zA S g),M):=by
 refine zF ?_;unfold F4;refine Eo (by unfold D.unds D.unds D.unds D.unds;rw[Fx,Bo];rfl) ?_;rw[Bj];unfold Lv;rw[zM,zf];refine G5.mpr (FV.mpr ⟨za (by simp),D2 ?_⟩);rw[zR,zM,Bq];refine ⟨_,_,_,Fq rfl zV,?_⟩;have hl:=s.len;refine D7 (I:=λr Y M'=>∃ (y:Option D) (done rest c:Ye),Y=[some (mD zA),some (tI S),some (.int g),some (.ref 0),y]/\r=rest.map D.int/\done++rest=S/\M'=[.lst (c.map D.int)]/\c.Nodup/\(∀ x,x∈c ↔ x∈done.map λh=>A0 zA h g)/\c.length<=done.length) ?_ ?_ _ _ _ ⟨none,[],S,[],rfl,rfl,rfl,rfl,List.nodup_nil,λx=>by simp,AF _⟩
 .rintro x r Y M' ⟨y,done,rest,c,rfl,hr,hd,rfl,nd,hc,hcl⟩;obtain ⟨z,rest',rfl,rfl,rfl⟩:=eJ hr;refine ⟨zh,_,rfl,?_⟩;obtain ⟨z0,z1⟩:=s.mem z (by rw[<-hd];simp);have ix:∀ {Y:Sd} {M:Mem},Y[0]?=some (some (mD zA))->Y[4]?=some (some (.int z))->Y[2]?=some (some (.int g))->fOp kIx (fOp kIx (zC 0) (zC 4)) (zC 2) Y M=some (.dat (.int (A0 zA z g)),M):=λ{Y M} q0 q1 q2=>
   m.ix z0 z1 g0 g1 (by unfold zC;rw[q0]) (by unfold zC;rw[q1]) (by unfold zC;rw[q2])
  have e0:([MO.lst (c.map D.int)]:Mem)[0]?=some (.lst (c.map D.int)):=rfl;rw[CM];refine zI (BU (zG (ix rfl rfl rfl) rfl (XG e0))) ?_;by_cases hm:A0 zA z g∈c
  .rw[AE (by simp[hm]),D4];refine ⟨_,done++[z],rest',c,rfl,rfl,by rw[<-hd];simp,rfl,nd,λx=>?_,by simp;omega⟩;rw[hc x];simp only[Br,AV,Ad,List.map_nil,AU];exact ⟨.inl,λh=>h.elim id λe=>by rw[e];exact (hc _).mp hm⟩
  .rw[AD (by simp[hm]),Gz];refine Hl.mpr (ES.mpr ⟨_,rfl,⟨_,Fm e0⟩,?_⟩);refine zI (zp (ix rfl rfl rfl)) ?_;rw[Lj e0 (by rw[AG];exact Az (m:=100) (by have:=BV List.length hd;simp at this;omega) (za (by omega)))];refine ⟨_,done++[z],rest',c++[A0 zA z g],rfl,rfl,by rw[<-hd];simp,by simp,?_,λx=>?_,by simp;omega⟩
   .rw[Dm];exact ⟨nd,by simp,λa ha b hb q=>hm (by rw[<-(show b=A0 zA z g by simpa using hb),<-q];exact ha)⟩
   .simp only[Br,AV,Ad,List.map_nil,AU,hc x]
 .rintro Y M' ⟨y,done,rest,c,rfl,hr,hd,rfl,nd,hc,hcl⟩;have:rest=[]:=by cases rest with|nil=>rfl|cons _ _=>cases hr
  subst this;rw[CG]at hd;subst hd;refine ⟨zh,?_⟩;rw[zR];have e0:([MO.lst (c.map D.int)]:Mem)[0]?=some (.lst (c.map D.int)):=rfl;refine zk (CU (eE rfl e0 (by omega)) Cy) ?_;have:Ay c=setR zA done g:=by
   unfold setR;refine M9 ?_ (GF _) λx=>?_
   .have h1:=JV c;have h2:(Ay c).Nodup:=(Eh _).nodup_iff.mpr nd;exact (h1.and h2).imp λ{a b} h=>by have:=h.1;have:=h.2;omega
   .rw[(Eh _).mem_iff,hc x,DH]
  rw[this];exact ⟨Bo _,rfl,rfl⟩
section
variable {zA:Ya} {l:Nat} {R:Ye}
def KI {g:FA} {Y:Sd} {M M1:Mem} {ds:List D} (h:g Y M=some (ds,M1)) (hz:ds.length<=100000):BO g Y M=some (.fl ds,M1):=by
 unfold BO;rw[h];dsimp only;rw[AD (za hz)]
end
open Lac (dT BZ zd BF DQ CO)
noncomputable def dc (p:Prop):Bool:=@decide p (Classical.propDecidable p)
def Fh (h:p):dc p=true:=@Af p (Classical.propDecidable p) h
def Gg (h:¬ p):dc p=false:=@AS p (Classical.propDecidable p) h
def Vp (h:dc p=true):p:=@Bv p (Classical.propDecidable p) h
noncomputable def setB (zA:Ya) (d:D):Bool:=dc (∃ S,d=tI S/\IsS zA S)
noncomputable abbrev lvT (L:Ya):D:=.tup (L.map tI)
noncomputable abbrev shT (LL:List (List (List Int))):D:=.tup (LL.map lvT)
theorem OL:∀ {ds:List D},(ds.map (setB zA)).all id=true -> ∃ L:List (List Int),ds=L.map tI /\ ∀ S∈L,IsS zA S
 |[],_=>⟨[],rfl,λ_ h=>by cases h⟩
 |d::ds,h=>by
  rw[Ad,List.all_cons,Ap]at h;obtain ⟨L,rfl,hL⟩:=OL h.2;have h1:setB zA d=true:=h.1;unfold setB at h1;obtain ⟨S,rfl,s⟩:=Vp h1;exact ⟨S::L,rfl,λT hT=>by
   rcases AL.mp hT with z|z
   .rw[z];exact s
   .exact hL T z⟩
def eV {L:Ya} (h:∀ S∈L,IsS zA S):((L.map tI).map (setB zA)).all id=true:=by
 rw[Ab];intro b hb;rw[BQ]at hb;obtain ⟨S,hS,rfl⟩:=Aj.mp hb;exact Fh ⟨S,rfl,h S hS⟩
noncomputable def plc (LL:List (List (List Int))) (S:Ye):Option Nat:=LL.findIdx? λL=>decide (S∈L)
def GK (done:List (List (List Int))) (part:Ya) (S:Ye):plc (done++[part]) S=match plc done S with|some k=>some k|none=>if S∈part then some done.length else none:=by
 unfold plc;rw[List.findIdx?_append];cases done.findIdx? (λL=>decide (S∈L)) with
 |some k=>rfl
 |none=>
  by_cases h:S∈part
  .simp[h]
  .simp[h]
structure Pl (zA:Ya) (P:List (List Int × D)) (LL:List (List (List Int))):Prop where
 lk:∀ S,zd P S=(plc LL S).map λk=>D.int (k:Nat)
 nd:(P.map (·.1)).Nodup
 st:∀ S∈P.map (·.1),IsS zA S
def Pl.open_ (h:Pl zA P LL):Pl zA P (LL++[[]]) :=
 ⟨λS=>by rw[h.lk,GK];cases plc LL S <;> rfl,h.nd,h.st⟩
def Pl.add {zA:Ya} {P:List (List Int × D)} {done:List (List (List Int))} {part:Ya} (h:Pl zA P (done++[part])) {S:Ye} (s:IsS zA S) :
  ((zd P S).isSome=true->Pl zA P (done++[part++[S]]))/\((zd P S).isSome=false->Pl zA (P++[(S,.int (done.length:Nat))]) (done++[part++[S]])):=by
 have hl:=h.lk S;rw[GK]at hl;refine ⟨λhs=>⟨λT=>?_,h.nd,h.st⟩,λhs=>⟨λT=>?_,?_,λT hT=>?_⟩⟩
 .rw[h.lk,GK,GK];cases hp:plc done T with
  |some k=>rfl
  |none=>
   by_cases ht:T∈part
   .simp[ht]
   .by_cases hT:T=S
    .subst hT;rw[hp]at hl;rw[hl]at hs;simp[ht]at hs
    .simp[ht,hT]
 .have hn:zd P S=none:=by cases e:zd P S with|none=>rfl|some d=>rw[e]at hs;cases hs
  have hput:BF P S (.int (done.length:Nat))=P++[(S,.int (done.length:Nat))]:=by unfold BF;rw[hn]
  rw[<-hput,Lac.bG,h.lk,GK,GK];rw[hn]at hl;by_cases hT:S=T
  .subst hT;rw[AD rfl];cases hp:plc done S with
   |some k=>rw[hp]at hl;cases hl
   |none=>simp
  .rw[AE hT];cases plc done T with
   |some k=>rfl
   |none=>
    have hT':¬ T=S:=λz=>hT z.symm;simp[hT']
 .rw[Br,Dm];refine ⟨h.nd,by simp,λa ha b hb z=>?_⟩;have e1:=Im .non P S;rw[hs]at e1;have e2:=of_decide_eq_false e1.symm;refine e2 ?_;have hb':b=S:=by simpa using hb
  rw[<-hb',<-z];exact ha
 .rw[Br]at hT;rcases AV.mp hT with z|z
  .exact h.st T z
  .rw[AU.mp z];exact s
section
variable {zA:Ya} {l:Nat}
def Xe:((List.range (x::xs).length).zip (x::xs)).map (λq=>D.tup [.int ((n+q.1:Nat):Int),q.2])=D.tup [.int (n:Nat),x]::((List.range xs.length).zip xs).map λq=>D.tup [.int (((n+1)+q.1:Nat):Int),q.2]:=by
 rw[B5,List.range_succ_eq_map,List.zip_cons_cons,Ad,List.zip_map_left,BQ];congr 1;apply List.map_congr_left;intro q _;show D.tup [.int ((n+(q.1+1):Nat):Int),q.2]=D.tup [.int (((n+1)+q.1:Nat):Int),q.2];rw[show n+(q.1+1)=(n+1)+q.1 by omega]
noncomputable abbrev Gf (n:Nat) (xs:List D):List D:=((List.range xs.length).zip xs).map λq=>D.tup [.int ((n+q.1:Nat):Int),q.2]
def Zy (xs:List D):EK xs=Gf 0 xs:=by
 unfold EK Gf;apply List.map_congr_left;intro q _;rw[Nat.zero_add]
noncomputable def Ec (zA:Ya) (l:Nat) (LL:List (List (List Int))) (S:Ye) (last:Int):Bool:=(CF l).all λg=>match plc LL (setR zA S g) with|some k=>decide ((k:Int)<=last)|none=>false
end
open Lac (dT BZ zd BF DQ CO E7)
def ZW (a:Ye):(a.map D.int).all (BJ 0)=true:=by
 rw[Ab];intro x hx;obtain ⟨i,_,rfl⟩:=Aj.mp hx;rfl
def Hc (p:Ye):BJ 1 (tI p)=true:=ZW p
def JF (h:tI p=tI q):p=q:=(List.map_inj_right (λ_ _ h=>D.int.inj h)).mp (D.tup.inj h)
def Xt {ps:Ya} (h:Ai M y=some (ps.map tI)):Fi neg (.dat (tI p)) y M=some (.dat (.bl (nb neg (decide (p∈ps)))),M):=by
 have ht:(ps.map tI).all (BJ 1)=true:=by
  rw[Ab];intro x hx;obtain ⟨q,_,rfl⟩:=Aj.mp hx;exact Hc q
 have he:((ps.map tI).any λe=>BK 1 e (tI p))=decide (p∈ps):=by
  rw[Dt,El,decide_eq_true_iff];constructor
  .rintro ⟨x,hx,e⟩;obtain ⟨q,hq,rfl⟩:=Aj.mp hx;have:=TN 1 _ _ (Hc q) (Hc p) e;rw[<-JF this];exact hq
  .intro hp;exact ⟨tI p,Aj.mpr ⟨p,hp,rfl⟩,LS 1 _ (Hc p)⟩
 unfold Fi;rw[h];dsimp only;rw[Hc,ht,he];rfl
noncomputable def Ee (zA:Ya) (l:Nat) (LL:List (List (List Int))):Nat->List (List (List Int))->Bool
 |_,[]=>true
 |n,L::r=>(L.all λS=>Ec zA l LL S ((n:Int)+1))&&Ee zA l LL (n+1) r
noncomputable def shB (zA:Ya) (l:Nat) (R:Ye) (LL:List (List (List Int))) (closed:Bool):Bool:=match LL with
 |[]=> !closed
 |L0::_=>decide (R∈L0)&&Ee zA l LL 0 (if closed then LL else LL.take (LL.length-1))
def OU (zA:Ya) (LL:List (List (List Int))):Prop:=(∀ L∈LL,∀ S∈L,IsS zA S)/\LL.length<=2000 /\ ∀ L∈LL,L.length<=8000
open Lac (dT BZ zd BF DQ CO E7)
section
variable {zA:Ya} {l:Nat} {R:Ye}
def YE (nd:(P.map (·.1)).Nodup) (h:q∈P):zd P q.1=some q.2:=by
 induction P with
 |nil=>cases h
 |cons a r ih=>
  rw[Ad,ET]at nd;unfold zd;rcases AL.mp h with e|e
  .rw[e,AD rfl]
  .rw[AE λz=>nd.1 (by rw[z];exact List.mem_map_of_mem e)];exact ih nd.2 e
end
open Lac (dT BZ zd BF DQ CO E7)
section
variable {zA:Ya} {l:Nat} {R:Ye}
def JL (zA:Ya):D->Prop:=λd=>∃ LL:List (List (List Int)),d=shT LL /\ ∀ L∈LL,∀ S∈L,IsS zA S
noncomputable def HK (zA:Ya) (l:Nat) (R:Ye) (d:D) (closed:Bool):Bool:=dc (∃ LL,d=shT LL/\(∀ L∈LL,∀ S∈L,IsS zA S)/\shB zA l R LL closed=true)
def Xf (h:lvT p=lvT q):p=q:=(List.map_inj_right (λ_ _ h=>JF h)).mp (D.tup.inj h)
def ZF (h:shT p=shT q):p=q:=(List.map_inj_right (λ_ _ h=>Xf h)).mp (D.tup.inj h)
def PV (h:∀ L∈LL,∀ S∈L,IsS zA S):HK zA l R (shT LL) closed=shB zA l R LL closed:=by
 unfold HK;cases hb:shB zA l R LL closed with
 |true=>exact Fh ⟨LL,rfl,h,hb⟩
 |false=>
  refine Gg ?_;rintro ⟨K,e,_,z⟩;rw[<-ZF e,hb]at z;cases z
def U2 (h:¬ JL zA d):HK zA l R d closed=false:=by
 unfold HK;refine Gg ?_;rintro ⟨K,e,s,_⟩;exact h ⟨K,e,s⟩
end
noncomputable def JU:FS:=(zO (sIf (tst (fOp kEq (zW zS (zD (toD (zC 0)) (zD (toD (fC (.int 3))) zL))) (fC (.int 0)))) (AO (Iq (zC 1))) An)
  (zO (AQ 2 (zj [3] (zl (zD (toD (zC 1)) zL)) (gN 3) (tst (fOp kEq (zW zS (zD (toD (zC 0)) (zD (toD (fC (.int 2))) zL))) (fC (.int 1)))) (zC 3)))
  (zO (sIf (tst (fOp kEq (fB zg (zE (zC 2) zJ)) (fC (.int 0)))) (AQ 2 (BO (zD (toD (zW zS (zD (toD (zC 0)) (zD (toD (zC 1)) zL)))) zL))) An)
  (AO (fB ze (zE (zC 2) zJ))))))
noncomputable def GJ:FF:=EW (Ax 4 JU)
def SN (R:Nat):upD R=((List.range R).map λ(k:Nat)=>(k:Int)).map D.int:=by
 unfold upD;rw[BQ];rfl
def Nf {M:Mem} {n k q:Nat} {R:Nat} (h:Gen M n k q) (hq:q<900000000) (r0:0<R) (r1:R<=1000) :
  Ok (GJ [.ref n,.int R] M) λd M'=>(∃ S,d=tI S/\S.Pairwise (· < ·)/\0<S.length /\ ∀ x∈S,0<=x/\x<(R:Int))/\Nw M M' n k (q+1002)/\M'.length=M.length:=by
 obtain ⟨hn,hk⟩:=h.lt;unfold GJ;suffices hh:Ok (Ax 4 JU [.ref n,.int R] M) λd M'=>(∃ S,d=tI S/\S.Pairwise (· < ·)/\0<S.length /\ ∀ x∈S,0<=x/\x<(R:Int))/\Nw M M' n k (q+1002) by
  refine Ih (Ok.mono hh ?_);rintro d M1 ⟨⟨S,rfl,r⟩,nw⟩;exact ⟨⟨HC S,nw.len,nw.wf0 h⟩,⟨S,rfl,r⟩,nw.trim h,by rw[BN];have:=nw.len;omega⟩
 rw[Bj];unfold JU;show OkS (zO _ _ [some (.ref n),some (.int R),none,none] M) _;rw[zM,CM];refine N2.mpr (Du.mpr (Cu h (by omega) rfl rfl (by decide) (by decide) λi M1 i0 i1 nw1 hl1=>Er.mpr (Ez.mpr (GS.mpr ?_))));by_cases hi:i=0
 .rw[AD (by simpa using hi)];refine zk (d:=tI ((List.range R).map λ(k:Nat)=>(k:Int))) ?_ ?_
  .unfold Iq zC;dsimp only[List.getElem?_cons_succ,List.getElem?_cons_zero];rw[AD ⟨by omega,by omega⟩,BG,SN];rfl
  .rw[IX];refine ⟨⟨_,rfl,?_,by simp;omega,λx hx=>?_⟩,nw1.mono (by omega)⟩
   .rw[List.pairwise_map];exact List.pairwise_lt_range.imp λ{a b} h=>by omega
   .obtain ⟨y,hy,rfl⟩:=Aj.mp hx;have:=DD.mp hy;omega
 .rw[AE (by simpa using hi),D4,zR,zM,zf];refine GP.mpr ⟨_,_,_,CQ rfl (by omega) (by omega),by rw[HD];exact za (by omega),?_⟩;rw[BG];refine Ok.mono (Gp (I:=λr acc M2=>∃ t,t<=R/\r=DK t (R-t)/\(∃ c:List Int,acc=c.map D.int/\c.Pairwise (· < ·) /\ ∀ x∈c,0<=x/\x<(t:Int))/\Nw M M2 n k (q+1+t)/\M2.length=M.length) (Q:=λacc M2=>(∃ c:List Int,acc=c.map D.int/\c.Pairwise (· < ·) /\ ∀ x∈c,0<=x/\x<(R:Int))/\Nw M M2 n k (q+1+R)/\M2.length=M.length) ?_ ?_ _ [] _ ⟨0,Bz _,by simp,⟨[],rfl,List.Pairwise.nil,λ_ h=>by cases h⟩,nw1,hl1⟩) ?_
  .rintro x r acc M2 ⟨t,ht,e,⟨c,rfl,hp,hx⟩,nw2,hl2⟩;have hlt:t<R:=by
    rcases Dk t R with z|z
    .exact z
    .rw[show R-t=0 by omega]at e;cases e
   rw[show R-t=(R-(t+1))+1 by omega]at e;obtain ⟨rfl,rfl⟩:=Ci e;refine ⟨zh,_,rfl,?_⟩;refine N2.mpr (Du.mpr (Cu nw2.gen (by omega) rfl rfl (by decide) (by decide) λi M3 i0 i1 nw3 hl3=>Er.mpr (Ez.mpr (GS.mpr ?_))));have nwt:=nw2.trans nw3;by_cases h1:i=1
   .rw[AD (by simpa using h1)];refine ES.mpr ⟨.int (t:Nat),rfl,?_⟩;rw[zQ];refine ⟨t+1,hlt,rfl,⟨c++[(t:Int)],by simp,?_,λx hx'=>?_⟩,nwt.mono (by omega),hl3.trans hl2⟩
    .rw[List.pairwise_append];refine ⟨hp,by simp,λa ha b hb=>?_⟩;have h1:=hx a ha;have h2:b=(t:Int):=by simpa using hb
     omega
    .rcases AV.mp hx' with z|z
     .have:=hx x z;omega
     .have:x=(t:Int):=by simpa using z
      omega
   .rw[AE (by simpa using h1)];exact ⟨t+1,hlt,rfl,⟨c,rfl,hp,λx hx'=>by have:=hx x hx';omega⟩,nwt.mono (by omega),hl3.trans hl2⟩
  .rintro acc M2 ⟨t,ht,e,⟨c,rfl,hp,hx⟩,nw2,hl2⟩;have:t=R:=by
    rcases Dk t R with z|z
    .rw[show R-t=(R-(t+1))+1 by omega]at e;cases e
    .omega
   subst this;exact ⟨zh,⟨c,rfl,hp,hx⟩,nw2,hl2⟩
  .rintro ys M2 ⟨⟨c,hc,hp,hx⟩,nw2,hl2⟩;rw[EX]at hc;subst hc;refine D2 ?_;rw[zR];have nw3:=nw2.trans (nw2.gen.lst (c.map D.int) (CT _ _));have e3:(M2++[MO.lst (c.map D.int)])[M2.length]?=some (.lst (c.map D.int)):=FN _ _;have hj:M.length<=M2.length:=nw2.len;generalize M2++[MO.lst (c.map D.int)]=M3 at nw3 e3;generalize M2.length=j at e3 hj;rw[zM,CM];refine zI (BU (zG (J5 rfl e3) rfl (zF (Ez.mpr ⟨rfl,rfl⟩)))) ?_;by_cases hz:c=[]
   .subst hz;rw[AD (by simp),zf];refine G5.mpr (Ho.mpr (C4.mpr (Cu nw3.gen (by omega) rfl rfl (by omega) (by omega) λi M4 i0 i1 nw4 hl4=>?_)));rw[zQ];refine FV.mpr ⟨za (by simp),D2 ?_⟩;rw[zR];have e4:(M4++[MO.lst [D.int i]])[M4.length]?=some (.lst ([i].map D.int)):=FN _ _;refine zk (CU rfl (zv e4)) ⟨⟨[i],rfl,by simp,by simp,λx hx=>?_⟩,((nw3.trans nw4).trans (nw4.gen.lst _ rfl)).mono (by omega)⟩;have:x=i:=by simpa using hx
    omega
   .have hl:0<c.length:=List.length_pos_iff.mpr hz;rw[AE (by simp;exact hz),D4,zR];exact zk (CU rfl (zv e3)) ⟨⟨c,rfl,hp,hl,hx⟩,nw3.mono (by omega)⟩
open Lac (dT BZ zd BF DQ CO dgT E7)
noncomputable def Jb:FS:=(zO (sIf (B3 (BX (tst (Bk "tuple" (zC 0)))) (tst (fOp kEq (fB zg (zE (zC 0) zJ)) (fC (.int 0))))) (AO (fC (.bl false))) An)
  (zO (sIf (BX (tst (fB EN (zE (zj [2] (Ah (zC 0)) (gN 2) zu (Dy (Bk "int" (zC 2)) (Dy (DP (Bk "bool" (zC 2))) (FH kLe kLt (fC (.int 0)) (zC 2) (zC 1))))) zJ)))) (AO (fC (.bl false))) An)
  (AO (fB EN (zE (zj [3] (zl (zD (toD (fOp Cb (fB zg (zE (zC 0) zJ)) (fC (.int 1)))) zL)) (gN 3) zu (fOp kLt (fOp kIx (zC 0) (zC 3)) (fOp kIx (zC 0) (fOp zt (zC 3) (fC (.int 1)))))) zJ)))))
noncomputable def GX:FF:=Ax 4 Jb
noncomputable def Jk:FS:=(zO (sIf (B3 (BX (tst (Bk "tuple" (zC 1)))) (BX (tst (fB EN (zE (zj [2] (Ah (zC 1)) (gN 2) zu (Bk "tuple" (zC 2))) zJ))))) (AO (fC (.bl false))) An)
  (zO (Ao (Ah (zC 1)) (gN 2) (sIf (BX (tst (fB EN (zE (zj [3] (Ah (zC 2)) (gN 3) zu (zW GX (zD (toD (zC 3)) (zD (toD (fB zg (zE (zC 0) zJ))) zL)))) zJ)))) (AO (fC (.bl false))) An))
  (AO (fC (.bl true)))))
noncomputable def HU:FF:=Ax 4 Jk
noncomputable def Kt:FS:=(zO (sIf (BX (tst (zW HU (zD (toD (zC 0)) (zD (toD (zC 2)) zL))))) (AO (fC (.bl false))) An)
  (zO (sIf (tst (fOp kEq (fB zg (zE (zC 2) zJ)) (fC (.int 0)))) (AO (DP (zC 3))) An)
  (zO (sIf (tst (fOp (Fi true) (zC 1) (fOp kIx (zC 2) (fC (.int 0))))) (AO (fC (.bl false))) An)
  (zO (AQ 4 IC)
  (zO (Ao (zl (zD (toD (fB zg (zE (zC 2) zJ))) zL)) (gN 5) (Ao (Ah (fOp kIx (zC 2) (zC 5))) (gN 6) (CN (fB Gs (zE (zC 5) (zE (EU (zC 4) (zC 6) (zC 5)) zJ))) (zC 4) (zC 6))))
  (zO (Ao (zl (zD (toD (fOp zt (fOp Cb (fB zg (zE (zC 2) zJ)) (fC (.int 1))) (fB C9 (zE (zC 3) zJ)))) zL)) (gN 5) (Ao (Ah (fOp kIx (zC 2) (zC 5))) (gN 6) (Ao (zl (zD (toD (fB zg (zE (fOp kIx (zC 0) (fC (.int 0))) zJ))) zL)) (gN 7) (sIf (tst (fOp kGt (EU (zC 4) (zW F4 (zD (toD (zC 0)) (zD (toD (zC 6)) (zD (toD (zC 7)) zL)))) (fOp zt (zC 5) (fC (.int 2)))) (fOp zt (zC 5) (fC (.int 1))))) (AO (fC (.bl false))) An))))
  (AO (fC (.bl true)))))))))
noncomputable def Hf:FF:=EW (Ax 8 Kt)
theorem M8:∀ (S:Ye),((List.range (S.length-1)).map λk=>decide (S.getD k 0<S.getD (k+1) 0)).all id=decide (S.Pairwise (· < ·))
 |[]=>by simp
 |[a]=>by simp
 |a::b::r=>by
  have ih:=M8 (b::r);rw[show (b::r).length-1=r.length by simp]at ih;rw[show (a::b::r).length-1=r.length+1 by simp,List.range_succ_eq_map,Ad,List.all_cons,BQ];have:(List.map ((λk=>decide ((a::b::r).getD k 0<(a::b::r).getD (k+1) 0))∘Nat.succ) (List.range r.length))=(List.range r.length).map λk=>decide ((b::r).getD k 0<(b::r).getD (k+1) 0):=by
   apply List.map_congr_left;intro k _;rfl
  rw[this,ih,Dt,Ap,decide_eq_true_iff,decide_eq_true_iff];constructor
  .rintro ⟨h1,h2⟩;have h1:a<b:=Bv h1;rw[Cj];refine ⟨λx hx=>?_,h2⟩;rcases AL.mp hx with z|z
   .rw[z];exact h1
   .have:=(Cj.mp h2).1 x z;omega
  .intro h;rw[Cj]at h;exact ⟨Af (h.1 b AW),h.2⟩
def Q3 (h:Vd M d):Dy (Bk "int" (zC 2)) (Dy (DP (Bk "bool" (zC 2))) (FH kLe kLt (fC (.int 0)) (zC 2) (zC 1))) [y0,some (.int n),some d,y3] M=some (.dat (.bl (DJ n d)),M):=by
 obtain ⟨t,e,_,q⟩:=h.ty;have e1:=Ep (T := "int") (f:=zC 2) (Y:=[y0,some (.int n),some d,y3]) rfl e;have e2:=Ob (Ep (T := "bool") (f:=zC 2) (Y:=[y0,some (.int n),some d,y3]) rfl e);have hb:DJ n d=(isT t "int" && (!isT t "bool" && DJ n d)):=by
  rw[<-Bool.and_assoc,q];cases d <;> rfl
 rw[hb];refine NB e1 λa=>NB e2 λb=>?_;have hw:O6 d=true:=by rw[<-q,a,b];rfl
 cases d with
 |int i=>
  refine zF (U1.mpr (Er.mpr (ES.mpr ⟨_,rfl,LZ.mpr (GS.mpr ?_)⟩)));by_cases h0:0<=i
  .rw[AD (by simpa using h0)];refine ES.mpr ⟨_,rfl,II.mpr ⟨?_,rfl⟩⟩;simp[DJ,h0]
  .rw[AE (by simpa using h0)];refine ⟨?_,rfl⟩;simp[DJ,h0]
 |_=>cases hw
theorem Nz:∀ {ds:List D},(ds.map (DJ n)).all id=true -> ∃ S:List Int,ds=S.map D.int /\ ∀ x∈S,0<=x/\x<n
 |[],_=>⟨[],rfl,λ_ h=>by cases h⟩
 |d::ds,h=>by
  rw[Ad,List.all_cons,Ap]at h;obtain ⟨S,rfl,hS⟩:=Nz h.2;have h1:DJ n d=true:=h.1;cases d with
  |int i=>
   unfold DJ at h1;rw[Ap]at h1;refine ⟨i::S,rfl,λx hx=>?_⟩;rcases AL.mp hx with z|z
   .rw[z];exact ⟨Bv h1.1,Bv h1.2⟩
   .exact hS x z
  |_=>cases h1
def Zg {S:Ye} (h:∀ x∈S,0<=x/\x<n):((S.map D.int).map (DJ n)).all id=true:=by
 rw[Ab];intro b hb;rw[BQ]at hb;obtain ⟨x,hx,rfl⟩:=Aj.mp hb;have:=h x hx;show (decide (0<=x)&&decide (x<n))=true;rw[Af this.1,Af this.2];rfl
def ntE (e:f Y M=some (.dat (.bl k),M)):BX (tst f) Y M=some (!k,M):=zF (Vl.mpr (zI (BU e) ⟨rfl,rfl⟩))
def Kx (h:∀ S,d=tI S -> ¬ IsS zA S):setB zA d=false:=by
 unfold setB;exact Gg λ⟨S,e,s⟩=>h S e s
def VF {zA:Ya} (hd:Vd M d):GX [d,.int zA.length] M=some (.bl (setB zA d),M):=by
 refine zF ?_;unfold GX;rw[Bj];unfold Jb;show OkS (zO _ _ [some d,some (.int zA.length),none,none] M) _;obtain ⟨t,e,q,_⟩:=hd.ty;cases d with
 |tup ds=>
  have hh:Vd M (.tup ds):=hd;unfold Vd at hh;have e0:BX (tst (Bk "tuple" (zC 0))) [some (.tup ds),some (.int zA.length),none,none] M=some (false,M):=ntE (k:=true) (by rw[Ep rfl e,q];rfl);have el:=CJ (f:=zC 0) (Y:=[some (.tup ds),some (.int zA.length),none,none]) (M:=M) (x:=.dat (.tup ds)) rfl zV;have ez:tst (fOp kEq (fB zg (zE (zC 0) zJ)) (fC (.int 0))) [some (.tup ds),some (.int zA.length),none,none] M=some (decide ((ds.length:Int)=0),M):=BU (zG el rfl (zF (Ez.mpr ⟨rfl,rfl⟩)));have eo:B3 (BX (tst (Bk "tuple" (zC 0)))) (tst (fOp kEq (fB zg (zE (zC 0) zJ)) (fC (.int 0)))) [some (.tup ds),some (.int zA.length),none,none] M=some (decide ((ds.length:Int)=0),M):=by
   unfold B3;rw[e0];exact ez
  by_cases hn:ds.length=0
  .refine Ej (eo.trans (by rw[Af (by omega)])) (zk (d:=.bl false) rfl ⟨?_,rfl⟩);rw[Kx λS e s=>?_];have:=s.n0;have:=BV List.length (D.tup.inj e);rw[AG]at this;omega
  .refine C5 (eo.trans (by rw[AS (by omega)])) ?_;have ea:=IJ (f:=zj [2] (Ah (zC 0)) (gN 2) zu (Dy (Bk "int" (zC 2)) (Dy (DP (Bk "bool" (zC 2))) (FH kLe kLt (fC (.int 0)) (zC 2) (zC 1))))) (Y:=[some (.tup ds),some (.int zA.length),none,none]) (M:=M) (bs:=ds.map (DJ zA.length)) (by
    rw[BQ];exact Jz (λx=> .bl (DJ zA.length x)) rfl hh.1 λx hx=>⟨_,rfl,Q3 (hh.2.mem x hx)⟩)
   cases hb:(ds.map (DJ zA.length)).all id with
   |false=>
    rw[hb]at ea;refine Ej (ntE ea) (zk (d:=.bl false) rfl ⟨?_,rfl⟩);rw[Kx λS e s=>?_];cases e;rw[Zg s.mem]at hb;cases hb
   |true=>
    rw[hb]at ea;refine C5 (ntE ea) ?_;obtain ⟨S,rfl,hS⟩:=Nz hb;rw[AG]at el hn;have ec:zj [3] (zl (zD (toD (fOp Cb (fB zg (zE (zC 0) zJ)) (fC (.int 1)))) zL)) (gN 3) zu (fOp kLt (fOp kIx (zC 0) (zC 3)) (fOp kIx (zC 0) (fOp zt (zC 3) (fC (.int 1))))) [some (.tup (S.map D.int)),some (.int zA.length),none,none] M=some (.fl (((List.range (S.length-1)).map λk=>decide (S.getD k 0<S.getD (k+1) 0)).map D.bl),M):=by
     rw[BQ];have hz:=hh.1;rw[AG]at hz;refine F5 (gd:=none) (List.range (S.length-1)) (λk=>D.int (k:Nat)) _ ?_ trivial (by rw[List.length_range];omega) λk hk=>⟨_,rfl,?_⟩
     .rw[CQ (j:=(S.length:Int)-1) (zG el rfl (zF (Hj.mpr ⟨rfl,rfl⟩))) (by omega) (by omega),show ((S.length:Int)-1).toNat=S.length-1 by omega,<-K7]
     .have hk:=DD.mp hk;have at_:∀ j,j<S.length->atI (S.map D.int) (j:Nat)=some (.int (S.getD j 0)):=λj hj=>DL (by rw[AR,AJ hj];simp[List.getD,AJ hj]);exact zG (zG (x:=.dat (.tup (S.map D.int))) (y:=.dat (.int (k:Nat))) rfl rfl (BM zV (at_ k (by omega)))) (zG (x:=.dat (.tup (S.map D.int))) (y:=.dat (.int ((k+1:Nat):Int))) rfl (zG rfl rfl (zF (By.mpr ⟨rfl,rfl⟩))) (BM zV (at_ (k+1) (by omega)))) (zF (II.mpr ⟨rfl,rfl⟩))
    refine zk (IJ ec) ⟨?_,rfl⟩;rw[M8];unfold setB;by_cases hp:S.Pairwise (· < ·)
    .rw[Af hp,Fh ⟨S,rfl,hp,by omega,hS⟩]
    .rw[AS hp,Gg];rintro ⟨T,e,s⟩;rw[JF e]at hp;exact hp s.pw
 |_=>
  refine Ej ?_ (zk (d:=.bl false) rfl ⟨?_,rfl⟩)
  .unfold B3;rw[ntE (k:=false) (by rw[Ep rfl e,q];rfl)];rfl
  .rw[Kx λS e s=>by cases e]
noncomputable def JS (zA:Ya) (d:D):Bool:=dc (JL zA d)
def Ie (h:¬ JL zA d):JS zA d=false:=Gg h
def Xg (hd:Vd M d):HU [mD zA,d] M=some (.bl (JS zA d),M):=by
 refine zF ?_;unfold HU;rw[Bj];unfold Jk;show OkS (zO _ _ [some (mD zA),some d,none,none] M) _;obtain ⟨t,e,q,_⟩:=hd.ty;cases d with
 |tup ds=>
  have hh:Vd M (.tup ds):=hd;unfold Vd at hh;have e0:BX (tst (Bk "tuple" (zC 1))) [some (mD zA),some (.tup ds),none,none] M=some (false,M):=ntE (k:=true) (by rw[Ep rfl e,q];rfl);have ea:=IJ (f:=zj [2] (Ah (zC 1)) (gN 2) zu (Bk "tuple" (zC 2))) (Y:=[some (mD zA),some (.tup ds),none,none]) (M:=M) (by
   rw[BQ];refine Jz (λx=> .bl (Gd x)) rfl hh.1 λx hx=>⟨_,rfl,?_⟩;obtain ⟨t,e,q,_⟩:=(hh.2.mem x hx).ty;rw[<-q];exact Ep rfl e)
  cases hb:(ds.map Gd).all id with
  |false=>
   rw[hb]at ea;refine Ej (by unfold B3;rw[e0];exact ntE ea) (zk rfl ⟨?_,rfl⟩);rw[Ie];rintro ⟨LL,e,_⟩;cases e;have:((LL.map lvT).map Gd).all id=true:=by
    rw[Ab];intro b hb;rw[BQ]at hb;obtain ⟨L,_,rfl⟩:=Aj.mp hb;rfl
   rw[this]at hb;cases hb
  |true=>
   rw[hb]at ea;refine C5 (by unfold B3;rw[e0];exact ntE ea) ?_;rw[zM,Bq];refine ⟨_,_,_,Hz rfl,?_⟩;refine D7 (I:=λr Y M'=>M'=M/\(∃ y2,Y=[some (mD zA),some (.tup ds),y2,none]) /\ ∃ done:List (List (List Int)),ds=done.map lvT++r /\ ∀ L∈done,∀ S∈L,IsS zA S) ?_ ?_ _ _ _ ⟨rfl,⟨_,rfl⟩,[],rfl,λ_ h=>by cases h⟩
   .rintro x r Y M' ⟨rfl,⟨y2,rfl⟩,done,hds,hdone⟩;refine ⟨zh,_,rfl,?_⟩;show OkS (sIf _ _ _ [some (mD zA),some (.tup ds),some x,none] M') _;have hx:x∈ds:=by rw[hds];simp
    have hxt:Gd x=true:=by
     have:=Ab.mp hb (Gd x) (List.mem_map_of_mem hx);exact this
    cases x with
    |tup es=>
     have hv:Vd M' (.tup es):=hh.2.mem _ hx;unfold Vd at hv;have ec:=IJ (f:=zj [3] (Ah (zC 2)) (gN 3) zu (zW GX (zD (toD (zC 3)) (zD (toD (fB zg (zE (zC 0) zJ))) zL)))) (Y:=[some (mD zA),some (.tup ds),some (.tup es),none]) (M:=M') (bs:=es.map (setB zA)) (by
      rw[BQ];exact Jz (λx=> .bl (setB zA x)) rfl hv.1 λx hx=>⟨_,rfl,Bm (zZ rfl (zp (GR rfl))) (VF (hv.2.mem x hx))⟩)
     cases hb2:(es.map (setB zA)).all id with
     |false=>
      rw[hb2]at ec;rw[CM];refine zI (ntE ec) ?_;rw[AD (show (!false)=true from rfl)];refine zk (d:=.bl false) rfl ?_;refine ⟨?_,rfl⟩;rw[Ie];rintro ⟨LL,e,s⟩;have hm:D.tup es∈LL.map lvT:=by rw[<-D.tup.inj e];exact hx
      obtain ⟨L,hL,e2⟩:=Aj.mp hm;rw[<-D.tup.inj e2,eV (s L hL)]at hb2;cases hb2
     |true=>
      rw[hb2]at ec;obtain ⟨L,rfl,hL⟩:=OL hb2;refine JT (ntE ec) ⟨rfl,⟨_,rfl⟩,done++[L],by rw[hds];simp,λK hK=>?_⟩;rcases AV.mp hK with z|z
      .exact hdone K z
      .rw[AU.mp z];exact hL
    |_=>cases hxt
   .rintro Y M' ⟨rfl,⟨y2,rfl⟩,done,hds,hdone⟩;refine ⟨zh,?_⟩;rw[zR];refine zk (d:=.bl true) rfl ⟨?_,rfl⟩;rw[CG]at hds;unfold JS;rw[Fh ⟨done,by rw[hds],hdone⟩]
 |_=>
  refine Ej ?_ (zk (d:=.bl false) rfl ⟨?_,rfl⟩)
  .unfold B3;rw[ntE (k:=false) (by rw[Ep rfl e,q];rfl)];rfl
  .rw[Ie λ⟨LL,e,_⟩=>by cases e]
open Lac (dT BZ zd BF DQ CO dgT E7)
def UQ (nd:(P.map (·.1)).Nodup) (h:zd P S=some v):BF P S v=P:=by
 unfold BF;rw[h];conv=>rhs;rw[<-List.map_id P]
 apply List.map_congr_left;intro q hq;by_cases e:q.1=S
 .rw[AD e];have:=YE nd hq;rw[e,h]at this;rw[Bc this];rfl
 .rw[AE e];rfl
def WG (h:plc LL S=some j):j<LL.length:=(List.findIdx?_eq_some_iff_findIdx_eq.mp h).1
def MS (h1:fo Y M=some (.dat (.ref n),M)) (h:M[n]?=some (dT P)) (h2:fi Y M=some (.dat (tI S),M)) (h3:fx Y M=some (.dat v,M)):EU fo fi fx Y M=some (.dat ((zd P S).getD v),M):=by
 have hg:=dgT (g:=S) h;unfold EU toD;rw[h1];dsimp only;rw[h];dsimp only;rw[h2];dsimp only;rw[h3];dsimp only;rw[hg]
def Ot (hf:f Y M=some (.dat (.int i),M)) (hg:g Y M=some (.dat (.int j),M)):fB Gs (zE f (zE g zJ)) Y M=some (.dat (.int (if j<i then j else i)),M):=by
 unfold fB zE zJ;rw[hf];dsimp only;rw[hg];rfl
section
variable {zA:Ya} {l:Nat} {R:Ye}
theorem Mx (LL:List (List (List Int))):∀ {as:List (List (List Int))} {n:Nat},Ee zA l LL n as=true -> ∀ (k:Nat) L,as[k]?=some L -> ∀ S∈L,Ec zA l LL S (((n+k:Nat):Int)+1)=true
 |[],n,_,k,L,e,_,_=>by simp at e
 |L0::r,n,h,0,L,e,S,hS=>by
  unfold Ee at h;rw[Ap]at h;cases e;exact Ab.mp h.1 S hS
 |L0::r,n,h,k+1,L,e,S,hS=>by
  unfold Ee at h;rw[Ap]at h;rw[show n+(k+1)=(n+1)+k by omega];exact Mx LL h.2 k L e S hS
theorem LX (LL:List (List (List Int))):∀ {as:List (List (List Int))} {n:Nat},(∀ (k:Nat) L,as[k]?=some L -> ∀ S∈L,Ec zA l LL S (((n+k:Nat):Int)+1)=true)->Ee zA l LL n as=true
 |[],n,_=>rfl
 |L0::r,n,h=>by
  unfold Ee;rw[Ap];refine ⟨Ab.mpr λS hS=>h 0 L0 rfl S hS,LX LL λk L e S hS=>?_⟩;rw[show (n+1)+k=n+(k+1) by omega];exact h (k+1) L e S hS
noncomputable def lgB (zA:Ya) (LL:List (List (List Int))) (S:Ye) (last:Int) (g:Int):Bool:=match plc LL (setR zA S g) with|some k=>decide ((k:Int)<=last)|none=>false
def SE (h9:zA.length<=9) (hs:∀ L∈LL,∀ S∈L,IsS zA S) (hz:LL.length<=2000)
  (hQ:∀ y5 y6 P,Pl zA P LL->Q .nx [some (mD zA),some (tI R),some (shT LL),some (.bl closed),some (.ref M.length),y5,y6,none] (M++[dT P])) :
  OkS (Ao (zl (zD (toD (fB zg (zE (zC 2) zJ))) zL)) (gN 5) (Ao (Ah (fOp kIx (zC 2) (zC 5))) (gN 6) (CN (fB Gs (zE (zC 5) (zE (EU (zC 4) (zC 6) (zC 5)) zJ))) (zC 4) (zC 6))) [some (mD zA),some (tI R),some (shT LL),some (.bl closed),some (.ref M.length),none,none,none] (M++[.dicT []])) Q:=by
 have el:=CJ (f:=zC 2) (Y:=[some (mD zA),some (tI R),some (shT LL),some (.bl closed),some (.ref M.length),none,none,none]) (M:=M++[.dicT []]) (x:=.dat (shT LL)) rfl zV;rw[AG]at el;rw[Bq];refine ⟨_,_,_,CQ el (by omega) (by omega),?_⟩;rw[BG];refine Di (n:=LL.length) (I:=λi Y M'=>(∃ y5 y6,Y=[some (mD zA),some (tI R),some (shT LL),some (.bl closed),some (.ref M.length),y5,y6,none]) /\ ∃ P,M'=M++[dT P]/\Pl zA P (LL.take i)) ?_ ?_ _ _ ⟨⟨_,_,rfl⟩,[],rfl,⟨λS=>rfl,by simp,λ_ h=>by cases h⟩⟩
 .rintro i Y M' hi ⟨⟨y5,y6,rfl⟩,P,rfl,pl⟩;refine ⟨_,rfl,?_⟩;show OkS (Ao _ _ _ [some (mD zA),some (tI R),some (shT LL),some (.bl closed),some (.ref M.length),some (.int (i:Nat)),y6,none] (M++[dT P])) _;rw[Bq];have hti:(LL.take i).length=i:=by rw[BN];omega
  have eL:fOp kIx (zC 2) (zC 5) [some (mD zA),some (tI R),some (shT LL),some (.bl closed),some (.ref M.length),some (.int (i:Nat)),y6,none] (M++[dT P])=some (.dat (lvT LL[i]),M++[dT P]):=zG rfl rfl (BM zV (DL (by rw[AR,AJ hi];rfl)));have hLi:LL[i]∈LL:=Aq hi;have htk:LL.take (i+1)=LL.take i++[LL[i]]:=by rw[List.take_add_one,AJ hi];rfl
  rw[htk];generalize LL[i]=L at eL hLi;refine ⟨_,_,_,Fq eL zV,?_⟩;refine D7 (I:=λr Y M'=>(∃ y6,Y=[some (mD zA),some (tI R),some (shT LL),some (.bl closed),some (.ref M.length),some (.int (i:Nat)),y6,none]) /\ ∃ (part rest:Ya) (P:List (List Int × D)),r=rest.map tI/\part++rest=L/\M'=M++[dT P]/\Pl zA P (LL.take i++[part])) ?_ ?_ _ _ _ ⟨⟨_,rfl⟩,[],L,P,rfl,rfl,rfl,pl.open_⟩
  .rintro x r Y M' ⟨⟨y6,rfl⟩,part,rs,P,er,hp,rfl,pl⟩;cases rs with
   |nil=>cases er
   |cons S rs=>
    obtain ⟨rfl,rfl⟩:=Ci er;have s:=hs L hLi S (by rw[<-hp];simp);refine ⟨zh,_,rfl,?_⟩;show OkS (CN _ _ _ [some (mD zA),some (tI R),some (shT LL),some (.bl closed),some (.ref M.length),some (.int (i:Nat)),some (tI S),none] (M++[dT P])) _;have eP:(M++[dT P])[M.length]?=some (dT P):=by simp
    have hl:=HF pl.nd pl.st h9;rw[AG]at hl;obtain ⟨p1,p2⟩:=pl.add s;have hlk:=pl.lk S;have eg:=MS (fo:=zC 4) (fi:=zC 6) (fx:=zC 5) (Y:=[some (mD zA),some (tI R),some (shT LL),some (.bl closed),some (.ref M.length),some (.int (i:Nat)),some (tI S),none]) rfl eP rfl rfl;cases hp0:plc (LL.take i++[part]) S with
    |none=>
     rw[hp0]at hlk;have hn:zd P S=none:=hlk;rw[hn]at eg;refine FY (Ot rfl eg) rfl rfl (CO eP (by omega)) ?_;have hput:BF P S (.int (if ((i:Nat):Int)<(i:Nat) then ((i:Nat):Int) else (i:Nat)))=P++[(S,.int ((LL.take i).length:Nat))]:=by unfold BF;rw[hn,hti,AE (by omega)]
     refine ⟨⟨_,rfl⟩,part++[S],rs,_,rfl,by rw[<-hp];simp,?_,p2 (by rw[hn];rfl)⟩;rw[hput,List.set_append_right _ _ (AF _)];simp
    |some j=>
     rw[hp0]at hlk;have hj:=WG hp0;rw[Ae,hti]at hj;have hj:j<i+1:=hj;have hn:zd P S=some (.int (j:Nat)):=hlk;rw[hn]at eg;refine FY (Ot rfl eg) rfl rfl (CO eP (by omega)) ?_;have hij:(if ((j:Nat):Int)<(i:Nat) then ((j:Nat):Int) else (i:Nat))=(j:Nat):=by
      by_cases z:((j:Nat):Int)<(i:Nat)
      .rw[AD z]
      .rw[AE z];omega
     rw[hij,UQ pl.nd hn];refine ⟨⟨_,rfl⟩,part++[S],rs,P,rfl,by rw[<-hp];simp,?_,p1 (by rw[hn];rfl)⟩;rw[List.set_append_right _ _ (AF _)];simp
  .rintro Y M' ⟨⟨y6,rfl⟩,part,rs,P,er,hp,rfl,pl⟩;have:rs=[]:=by cases rs with|nil=>rfl|cons _ _=>cases er
   subst this;rw[CG]at hp;subst hp;exact ⟨zh,⟨_,_,rfl⟩,P,rfl,pl⟩
 .rintro Y M' ⟨⟨y5,y6,rfl⟩,P,rfl,pl⟩;rw[List.take_length]at pl;exact hQ _ _ P pl
def X5 (m:IsM zA l) (h9:zA.length<=9) (hl9:l<=1000) (hs:∀ L∈LL,∀ S∈L,IsS zA S) (hz:LL.length<=2000) (h1:0<LL.length) (eP:M[j]?=some (dT P)) (pl:Pl zA P LL) :
  OkS (zO (Ao (zl (zD (toD (fOp zt (fOp Cb (fB zg (zE (zC 2) zJ)) (fC (.int 1))) (fB C9 (zE (zC 3) zJ)))) zL)) (gN 5) (Ao (Ah (fOp kIx (zC 2) (zC 5))) (gN 6) (Ao (zl (zD (toD (fB zg (zE (fOp kIx (zC 0) (fC (.int 0))) zJ))) zL)) (gN 7) (sIf (tst (fOp kGt (EU (zC 4) (zW F4 (zD (toD (zC 0)) (zD (toD (zC 6)) (zD (toD (zC 7)) zL)))) (fOp zt (zC 5) (fC (.int 2)))) (fOp zt (zC 5) (fC (.int 1))))) (AO (fC (.bl false))) An)))) (AO (fC (.bl true))) [some (mD zA),some (tI R),some (shT LL),some (.bl closed),some (.ref j),y5,y6,none] M)
   λo Y M'=>o=.ret (.bl (Ee zA l LL 0 (if closed then LL else LL.take (LL.length-1))))/\M'=M:=by
 have el:=CJ (f:=zC 2) (Y:=[some (mD zA),some (tI R),some (shT LL),some (.bl closed),some (.ref j),y5,y6,none]) (M:=M) (x:=.dat (shT LL)) rfl zV;rw[AG]at el;have er:fOp zt (fOp Cb (fB zg (zE (zC 2) zJ)) (fC (.int 1))) (fB C9 (zE (zC 3) zJ)) [some (mD zA),some (tI R),some (shT LL),some (.bl closed),some (.ref j),y5,y6,none] M=some (.dat (.int ((LL.length:Int)-1+(if closed then 1 else 0))),M) :=
  zG (zG el rfl (zF (Hj.mpr ⟨rfl,rfl⟩))) (by rw[fB1 (x:=.dat (.bl closed)) rfl];exact zF (XU.mpr ⟨rfl,rfl⟩)) (zF (By.mpr ⟨rfl,rfl⟩))
 generalize hA:(if closed then LL else LL.take (LL.length-1))=as;have hN:((LL.length:Int)-1+(if closed then 1 else 0)).toNat=as.length:=by
  rw[<-hA];cases closed with
  |true=>rw[AD rfl,AD rfl];omega
  |false=>rw[AE (by decide),AE (by decide),BN];omega
 have hat:∀ k,k<as.length->as[k]?=LL[k]?:=λk hk=>by
  rw[<-hA]at hk ⊢;cases closed with
  |true=>rw[AD rfl]
  |false=>
   rw[AE (by decide)]at hk ⊢;rw[BN]at hk;exact Gj (by omega)
 have hal:as.length<=LL.length:=by
  rw[<-hA];cases closed with
  |true=>rw[AD rfl];omega
  |false=>rw[AE (by decide),BN];omega
 rw[zM,Bq];refine ⟨_,_,_,CQ er (by cases closed <;> simp <;> omega) (by cases closed <;> simp <;> omega),?_⟩;rw[hN];refine Di (n:=as.length) (I:=λk Y M'=>M'=M/\(∃ y5 y6 y7,Y=[some (mD zA),some (tI R),some (shT LL),some (.bl closed),some (.ref j),y5,y6,y7]) /\ ∀ k':Nat,k'<k -> ∀ L,as[k']?=some L -> ∀ S∈L,Ec zA l LL S ((k':Nat)+1)=true) ?_ ?_ _ _ ⟨rfl,⟨_,_,_,rfl⟩,λk h=>by omega⟩
 .rintro k Y M' hk ⟨rfl,⟨y5,y6,y7,rfl⟩,hall⟩;refine ⟨_,rfl,?_⟩;show OkS (Ao _ _ _ [some (mD zA),some (tI R),some (shT LL),some (.bl closed),some (.ref j),some (.int (k:Nat)),y6,y7] M') _;rw[Bq];have hkL:k<LL.length:=by omega
  have eL:fOp kIx (zC 2) (zC 5) [some (mD zA),some (tI R),some (shT LL),some (.bl closed),some (.ref j),some (.int (k:Nat)),y6,y7] M'=some (.dat (lvT LL[k]),M'):=zG (x:=.dat (shT LL)) (y:=.dat (.int (k:Nat))) rfl rfl (BM (xs:=LL.map lvT) zV (DL (by rw[AR,AJ hkL];rfl)));have hLi:LL[k]∈LL:=Aq hkL;have hak:as[k]?=some LL[k]:=by rw[hat k hk,AJ hkL]
  generalize LL[k]=L at eL hLi hak;refine ⟨_,_,_,Fq eL zV,?_⟩;refine D7 (I:=λr Y M1=>M1=M'/\(∃ y6 y7,Y=[some (mD zA),some (tI R),some (shT LL),some (.bl closed),some (.ref j),some (.int (k:Nat)),y6,y7]) /\ ∃ (part rest:Ya),r=rest.map tI/\part++rest=L /\ ∀ S∈part,Ec zA l LL S ((k:Nat)+1)=true) ?_ ?_ _ _ _ ⟨rfl,⟨_,_,rfl⟩,[],L,rfl,rfl,λ_ h=>by cases h⟩
  .rintro x r Y M1 ⟨rfl,⟨y6,y7,rfl⟩,part,rs,er,hp,hpt⟩;cases rs with
   |nil=>cases er
   |cons S rs=>
    obtain ⟨rfl,rfl⟩:=Ci er;have hSL:S∈L:=by rw[<-hp];simp
    have s:=hs L hLi S hSL;refine ⟨zh,_,rfl,?_⟩;show OkS (Ao _ _ _ [some (mD zA),some (tI R),some (shT LL),some (.bl closed),some (.ref j),some (.int (k:Nat)),some (tI S),y7] M1) _;rw[Bq];refine ⟨_,_,_,CQ (Wc m rfl) (by omega) (by omega),?_⟩;rw[BG];refine Di (n:=l) (I:=λg Y M2=>M2=M1/\(∃ y7,Y=[some (mD zA),some (tI R),some (shT LL),some (.bl closed),some (.ref j),some (.int (k:Nat)),some (tI S),y7]) /\ ∀ g':Nat,g'<g->lgB zA LL S ((k:Nat)+1) (g':Nat)=true) ?_ ?_ _ _ ⟨rfl,⟨_,rfl⟩,λ_ h=>by omega⟩
    .rintro g Y M2 hg ⟨rfl,⟨y7,rfl⟩,hgs⟩;refine ⟨_,rfl,?_⟩;show OkS (sIf _ _ _ [some (mD zA),some (tI R),some (shT LL),some (.bl closed),some (.ref j),some (.int (k:Nat)),some (tI S),some (.int (g:Nat))] M2) _;have est:=Bm (Y:=[some (mD zA),some (tI R),some (shT LL),some (.bl closed),some (.ref j),some (.int (k:Nat)),some (tI S),some (.int (g:Nat))]) (a:=zD (toD (zC 0)) (zD (toD (zC 6)) (zD (toD (zC 7)) zL))) (zZ rfl (zZ rfl (zp rfl))) (Zf (M:=M2) m h9 s (g:=(g:Nat)) (by omega) (by omega));have eg:=MS (fo:=zC 4) (fx:=fOp zt (zC 5) (fC (.int 2))) (v:=.int ((k:Nat)+2)) rfl eP est (zG rfl rfl (zF (By.mpr ⟨rfl,rfl⟩)));rw[pl.lk]at eg;have et:tst (fOp kGt (EU (zC 4) (zW F4 (zD (toD (zC 0)) (zD (toD (zC 6)) (zD (toD (zC 7)) zL)))) (fOp zt (zC 5) (fC (.int 2)))) (fOp zt (zC 5) (fC (.int 1)))) [some (mD zA),some (tI R),some (shT LL),some (.bl closed),some (.ref j),some (.int (k:Nat)),some (tI S),some (.int (g:Nat))] M2=some (!lgB zA LL S ((k:Nat)+1) (g:Nat),M2):=by
      unfold lgB;cases hpc:plc LL (setR zA S (g:Nat)) with
      |none=>
       rw[hpc]at eg;refine BU (zG eg (zG rfl rfl (zF (By.mpr ⟨rfl,rfl⟩))) (zF (KY.mpr ⟨?_,rfl⟩)));rw[Af (by omega)];rfl
      |some q=>
       rw[hpc]at eg;refine BU (zG (x:=.dat (.int (q:Nat))) eg (zG rfl rfl (zF (By.mpr ⟨rfl,rfl⟩))) (zF (KY.mpr ⟨?_,rfl⟩)));dsimp only;by_cases z:((q:Nat):Int)<=(k:Nat)+1
       .rw[Af z,AS (by omega)];rfl
       .rw[AS z,Af (by omega)];rfl
     cases hb:lgB zA LL S ((k:Nat)+1) (g:Nat) with
     |true=>
      rw[hb]at et;refine JT et ⟨rfl,⟨_,rfl⟩,λg' hg'=>?_⟩;by_cases z:g'=g
      .rw[z];exact hb
      .exact hgs g' (by omega)
     |false=>
      rw[hb]at et;rw[CM];refine zI et ?_;rw[AD (show (!false)=true from rfl)];refine zk (d:=.bl false) rfl ?_;show _/\_;refine ⟨?_,rfl⟩;cases ha:Ee zA l LL 0 as with
      |false=>rfl
      |true=>
       have h2:=Mx LL ha k L hak S hSL;rw[Nat.zero_add]at h2;unfold Ec at h2;have h3:=Ab.mp h2 ((g:Nat):Int) (by unfold CF;exact Aj.mpr ⟨g,DD.mpr hg,rfl⟩);have h4:lgB zA LL S ((k:Nat)+1) (g:Nat)=true:=h3;rw[hb]at h4;cases h4
    .rintro Y M2 ⟨rfl,⟨y7,rfl⟩,hgs⟩;refine ⟨rfl,⟨_,_,rfl⟩,part++[S],rs,rfl,by rw[<-hp];simp,λT hT=>?_⟩;rcases AV.mp hT with z|z
     .exact hpt T z
     .rw[AU.mp z];unfold Ec;rw[Ab];intro x hx;unfold CF at hx;obtain ⟨g,hg,rfl⟩:=Aj.mp hx;exact hgs g (DD.mp hg)
  .rintro Y M1 ⟨rfl,⟨y6,y7,rfl⟩,part,rs,er,hp,hpt⟩;have:rs=[]:=by cases rs with|nil=>rfl|cons _ _=>cases er
   subst this;rw[CG]at hp;subst hp;refine ⟨zh,rfl,⟨_,_,_,rfl⟩,λk' hk' L' hL' S hS=>?_⟩;by_cases z:k'=k
   .subst z;rw[hak]at hL';cases hL';exact hpt S hS
   .exact hall k' (by omega) L' hL' S hS
 .rintro Y M' ⟨rfl,⟨y5,y6,y7,rfl⟩,hall⟩;rw[zR];refine zk (d:=.bl true) rfl ⟨?_,rfl⟩;rw[LX LL λk L e S hS=>by rw[Nat.zero_add];exact hall k (AK.mp e).1 L e S hS]
def ZI (m:IsM zA l) (h9:zA.length<=9) (hl9:l<=1000) (wf:∀ (j:Nat) u,M[j]?=some u->MO.und M.length u=true) (hd:Vd M d)
  (hz:∀ LL,d=shT LL->LL.length<=2000 /\ ∀ L∈LL,L.length<=8000):Hf [mD zA,tI R,d,.bl closed] M=some (.bl (HK zA l R d closed),M):=by
 unfold Hf;refine E7 wf rfl ?_;rw[Bj];unfold Kt;show OkS (zO _ _ [some (mD zA),some (tI R),some d,some (.bl closed),none,none,none,none] M) _;have e0:=ntE (Bm (Y:=[some (mD zA),some (tI R),some d,some (.bl closed),none,none,none,none]) (a:=zD (toD (zC 0)) (zD (toD (zC 2)) zL)) (zZ rfl (zp rfl)) (Xg (zA:=zA) hd));by_cases h:JL zA d
 .obtain ⟨LL,rfl,hs⟩:=h;obtain ⟨hz1,hz2⟩:=hz LL rfl;rw[show JS zA (shT LL)=true from Fh ⟨LL,rfl,hs⟩]at e0;rw[PV hs];refine C5 e0 ?_;have el:=CJ (f:=zC 2) (Y:=[some (mD zA),some (tI R),some (shT LL),some (.bl closed),none,none,none,none]) (M:=M) (x:=.dat (shT LL)) rfl zV;rw[AG]at el;have ez:tst (fOp kEq (fB zg (zE (zC 2) zJ)) (fC (.int 0))) [some (mD zA),some (tI R),some (shT LL),some (.bl closed),none,none,none,none] M=some (decide ((LL.length:Int)=0),M):=BU (zG el rfl (zF (Ez.mpr ⟨rfl,rfl⟩)));cases LL with
  |nil=>
   refine Ej ez ?_;exact zk (d:=.bl (!closed)) (by unfold DP;rw[show zC 3 [some (mD zA),some (tI R),some (shT []),some (.bl closed),none,none,none,none] M=some (.dat (.bl closed),M)from rfl]) ⟨rfl,[],by simp⟩
  |cons L0 rest=>
   refine C5 (ez.trans (by rw[AS (by simp;omega)])) ?_;have ein:tst (fOp (Fi true) (zC 1) (fOp kIx (zC 2) (fC (.int 0)))) [some (mD zA),some (tI R),some (shT (L0::rest)),some (.bl closed),none,none,none,none] M=some (!(decide (R∈L0)),M) :=
    BU (zG rfl (zG rfl rfl (BM zV (DL rfl))) (Xt zV))
   cases hR:decide (R∈L0) with
   |false=>
    rw[hR]at ein;refine Ej ein ?_;exact zk rfl ⟨by unfold shB;dsimp only;rw[hR];rfl,[],by simp⟩
   |true=>
   rw[hR]at ein;refine C5 ein ?_;rw[zM,zf];refine zI rfl ?_;rw[zQ,zR];dsimp only[List.set];rw[zM];refine SE h9 hs hz1 λy5 y6 P pl=>?_;rw[zR];refine OkS.mono (X5 m h9 hl9 hs hz1 (by simp) (FN _ _) pl) ?_;rintro o Y M' ⟨rfl,rfl⟩;refine ⟨?_,⟨[dT P],rfl⟩⟩;unfold shB;dsimp only;rw[hR];rfl
 .rw[U2 h];rw[Ie h]at e0;exact Ej e0 (zk rfl ⟨rfl,[],by simp⟩)
end
open Lac (E7)
def Tn (i:Int):Vd M (.int i):=by unfold Vd;trivial
def LD (hz:ds.length<=100000) (h:∀ d∈ds,Vd M d):Vd M (.tup ds):=by
 unfold Vd;exact ⟨hz,Vds.of h⟩
def Sz:D->Prop
 |.tup ds=>ds.length<=2000 /\ ∀ x∈ds,P6 x<=8000
 |_=>True
def Sz.lv (h:Sz d):∀ LL,d=shT LL->LL.length<=2000 /\ ∀ L∈LL,L.length<=8000:=by
 rintro LL rfl;obtain ⟨h1,h2⟩:=h;rw[AG]at h1;refine ⟨h1,λL hL=>?_⟩;have h3:(L.map tI).length<=8000:=h2 (lvT L) (List.mem_map_of_mem hL);rw[AG]at h3;exact h3
def Th (M:Mem) (d:D):Prop:=Vd M d/\Sz d
def Io {k:K2} {f g:FE} {Y:Sd} {M M1 M2:Mem} {x y:EV} {r:Option (EV × Mem)} (hf:f Y M=some (x,M1)) (hg:g Y M1=some (y,M2)) (hk:k x y M2=r):fOp k f g Y M=r:=by
 unfold fOp;rw[hf];dsimp only;rw[hg];exact hk
def aD {f:FE} {g:FA} {Y:Sd} {M M1 M2:Mem} {d:D} {ds:List D} (h:f Y M=some (.dat d,M1)) (hg:g Y M1=some (ds,M2)):zD (toD f) g Y M=some (d::ds,M2):=by
 unfold zD toD;rw[h];dsimp only;rw[hg]
def QR {g:FA} {Y:Sd} {M M1:Mem} {ds:List D} (h:g Y M=some (ds,M1)) (hz:ds.length<=100000):Bd g Y M=some (.dat (.tup ds),M1):=by
 unfold Bd;rw[h];dsimp only;rw[AD (za hz)]
def ZD (hf:f Y M=some (x,M)) (h:Ai M x=some xs):fB Dn (zE f zJ) Y M=some (.fl xs,M):=by
 rw[fB1 hf];unfold Dn;dsimp only;rw[h]
def mlR (h:M[n]?=some (.lst xs)):Cw M (.dat (.ref n))=some xs:=by
 unfold Cw;dsimp only;rw[h]
def d4 (hx:Cw M x=some xs) (hy:Cw M y=some ys) (hz:xs.length+ys.length<=90000):Ds x y M=some (.fl (xs++ys),M):=by
 unfold Ds;rw[hx,hy];dsimp only;rw[AD (za (by omega))]
structure Lv0 (zA:Ya) (LL:List (List (List Int))):Prop where
 st:∀ L∈LL,∀ S∈L,IsS zA S
 len:LL.length<=1000
 each:∀ L∈LL,L.length<=600
section
variable {zA:Ya} {l:Nat} {R:Ye} {LL:List (List (List Int))}
def Lv0.ok (h:Lv0 zA LL):OU zA LL:=⟨h.st,by have:=h.len;omega,λL hL=>by have:=h.each L hL;omega⟩
def Wx (h:S.length<=100000):Vd M (tI S):=LD (by rw[AG];exact h) λd hd=>by
 obtain ⟨i,_,rfl⟩:=Aj.mp hd;exact Tn i
def YZ (h9:zA.length<=9) {L:Ya} (h:∀ S∈L,IsS zA S):∀ d∈L.map tI,Vd M d:=λd hd=>by
 obtain ⟨S,hS,rfl⟩:=Aj.mp hd;exact Wx (by have:=(h S hS).len;omega)
def d3 (h9:zA.length<=9) {L:Ya} (h:∀ S∈L,IsS zA S) (hz:L.length<=90000):Vd M (lvT L):=LD (by rw[AG];omega) (YZ h9 h)
def Lv0.vds (h:Lv0 zA LL) (h9:zA.length<=9):∀ d∈LL.map lvT,Vd M d:=λd hd=>by
 obtain ⟨L,hL,rfl⟩:=Aj.mp hd;exact d3 h9 (h.st L hL) (by have:=h.each L hL;omega)
def Lv0.lens (h:Lv0 zA LL):∀ d∈LL.map lvT,P6 d<=8000:=λd hd=>by
 obtain ⟨L,hL,rfl⟩:=Aj.mp hd;show (L.map tI).length<=8000;rw[AG];have:=h.each L hL;omega
def Lv0.th (h:Lv0 zA LL) (h9:zA.length<=9):Th M (shT LL):=⟨LD (by rw[AG];have:=h.len;omega) (h.vds h9),by rw[AG];have:=h.len;omega,h.lens⟩
def LK {f:FE} {xs:List D} {Y:Sd} {M M1:Mem} (hf:f Y M=some (.fl xs,M1)):fB ze (zE f zJ) Y M=some (.dat (.tup xs),M1):=by
 unfold fB zE zJ;rw[hf];rfl
end
section
variable {zA:Ya} {l:Nat} {R:Ye} {LL:List (List (List Int))}
variable {M A:Mem} {q j B c:Nat} {rs:Yj}
variable {y4 y5:Option D} {w k:Int}
def O7 {f:FE} {fl fh:FO} {Y:Sd} {n:Nat} {xs:List D} {lo hi:Ys} (hf:f Y A=some (.dat (.ref n),A)) (hx:A[n]?=some (.lst xs)) (hl:fl Y A=some (lo,A)) (hh:fh Y A=some (hi,A)):fSl f fl fh Y A=some (.fl (L3.C2 xs lo hi),A):=by
 unfold fSl;rw[hf];dsimp only;rw[hl];dsimp only;rw[hh];dsimp only;exact zF ((S9 (Fm hx) rfl).mpr ⟨rfl,rfl⟩)
def MX {c:FT} {a b:FS} {Y:Sd} {P:Out->Sd->Mem->Prop} (h:c Y A=some (true,A)) (p:OkS (a Y A) P):OkS (sIf c a b Y A) P:=by
 rw[CM];exact zI h (by rw[AD rfl];exact p)
def b8 {c:FT} {a b:FS} {Y:Sd} {P:Out->Sd->Mem->Prop} (h:c Y A=some (false,A)) (p:OkS (b Y A) P):OkS (sIf c a b Y A) P:=by
 rw[CM];exact zI h (by rw[AE (by decide)];exact p)
end
section
variable {zA:Ya} {l:Nat} {R:Ye} {LL:List (List (List Int))}
def VZ {Y:Sd} {M M1:Mem} {f:FE} {j:Int} (e:f Y M=some (.dat (.int j),M1)) (h1:0<=j) (h2:j<2 ^ 62):zl (zD (toD f) zL) Y M=some (DK 0 j.toNat,none,M1):=by
 have e':(zD (toD f) zL) Y M=some ([.int j],M1):=by unfold zD toD zL;rw[e]
 rw[Ol e' h1 h2,K7]
noncomputable def Km (A:Mem) (r:Nat):List D:=match A[r]? with
 |some (.lst xs)=>xs
 |_=>[]
theorem Pd (m:IsM zA l) (h9:zA.length<=9):∀ (n:Nat) {seen:Ya} {level:Lvl} {acc:List (List (List Int))} {r:Option (List Int) × List (List (List Int))},Met zA seen level->acc.flatten.length+level.length<=seen.length->(∀ L∈acc,∀ t∈L,IsS zA t)->run zA l due n seen level acc=some r->(∀ L∈r.2,∀ t∈L,IsS zA t)/\r.2.flatten.length<=512
 |0,_,_,_,_,_,_,_,h=>by cases h
 |n+1,seen,level,acc,r,mt,hz,ha,h=>by
  have hl:=HF mt.nd mt.st h9;unfold run at h;split at h
  .cases h;exact ⟨ha,by show acc.flatten.length<=512;omega⟩
  .split at h
   .cases h;exact ⟨ha,by show acc.flatten.length<=512;omega⟩
   .have g:=mt.next m;refine Pd m h9 n g.met ?_ (λL hL=>?_) h
    .rw[g.eq,List.flatten_append,Ae,Ae,AG,List.flatten_singleton,AG];omega
    .rcases AV.mp hL with z|z
     .exact ha L z
     .rw[AU.mp z];intro t ht;obtain ⟨p,hp,rfl⟩:=Aj.mp ht;exact mt.lv p hp
theorem ND:∀ {LL:List (List (List Int))} {L:Ya},L∈LL->L.length<=LL.flatten.length
 |K::r,L,h=>by
  rw[De,Ae];rcases AL.mp h with z|z
  .rw[z];omega
  .have:=ND z;omega
theorem Jq:∀ (LL:List (List (List Int))),(LL.map Aw).flatten.length=LL.flatten.length
 |[]=>rfl
 |L::r=>by rw[Ad,De,De,Ae,Ae,Jq r,(E5 L).length_eq]
def Rt (m:IsM zA l) (h9:zA.length<=9) (sR:IsS zA R) (hr:run zA l due 1000 [R] [(R,[])] []=some r):shD r.2=shT (r.2.map Aw)/\Lv0 zA (r.2.map Aw)/\(r.2.map Aw).flatten.length<=512:=by
 have mt:Met zA [R] [(R,[])]:=⟨by simp,λS hS=>by rw[AU.mp hS];exact sR,λp hp=>by rw[AU.mp hp];exact sR⟩;obtain ⟨hs,ht⟩:=Pd m h9 1000 mt (by simp) (λ_ h=>by cases h) hr;have hlen:r.2.length<=1000:=Ak (Pe 1000 hr) (by simp);refine ⟨?_,⟨λL hL S hS=>?_,by rw[AG];exact hlen,λL hL=>?_⟩,by rw[Jq];exact ht⟩
 .show D.tup (r.2.map lvD)=D.tup ((r.2.map Aw).map lvT);rw[BQ];rfl
 .obtain ⟨K,hK,rfl⟩:=Aj.mp hL;exact hs K hK S ((E5 K).mem_iff.mp hS)
 .have:=ND hL;rw[Jq]at this;omega
def VG {k:KB} {f:FE} {x:EV} {Y:Sd} {M M1:Mem} (hf:f Y M=some (x,M1)):fB k (zE f zJ) Y M=k [x] M1:=by unfold fB zE zJ;rw[hf]
def slT {f:FE} {fh:FO} {Y:Sd} {M M1:Mem} {xs:List D} {t:Int} (hf:f Y M=some (.dat (.tup xs),M)) (hh:fh Y M=some (some t,M1)):fSl f DO fh Y M=some (.dat (.tup (L3.C2 xs none (some t))),M1):=by
 unfold fSl;rw[hf];dsimp only;rw[show DO Y M=some (none,M)from rfl];dsimp only;rw[hh];rfl
def oT {f:FE} {Y:Sd} {M M1:Mem} {i:Int} (h:f Y M=some (.dat (.int i),M1)):Cg f Y M=some (some i,M1):=by unfold Cg;rw[h]
end
open Lac (dT BZ zd BF DQ CO)
noncomputable def Ju (zA:Ya) (l:Nat):Nat->List (List Int)->Lvl->Lvl
 |0,_,_=>[]
 |n+1,seen,level=>if level.isEmpty then [] else level++Ju zA l n (Cr zA l seen level).1 (Cr zA l seen level).2
def RO (h:∀ s∈p.2,s.2.length=n) (hw:w.length+1=n):∀ s∈(BA zA S w p g).2,s.2.length=n:=by
 unfold BA;split
 .exact h
 .intro s hs;rcases AV.mp hs with z|z
  .exact h s z
  .rw[AU.mp z];simpa using hw
theorem Mu (hw:w.length+1=n):∀ (gs:Ye) {p:List (List Int) × Lvl},(∀ s∈p.2,s.2.length=n) -> ∀ s∈(gs.foldl (BA zA S w) p).2,s.2.length=n
 |[],_,h=>h
 |g::r,p,h=>Mu hw r (RO h hw)
theorem Qx:∀ {level:Lvl} {p:List (List Int) × Lvl},(∀ s∈level,s.2.length+1=n)->(∀ s∈p.2,s.2.length=n) -> ∀ s∈(level.foldl (Co zA l) p).2,s.2.length=n
 |[],_,_,h=>h
 |s::r,p,hs,h=>Qx (level:=r) (λx hx=>hs x (Am _ hx)) (Mu (hs s AW) _ h)
theorem Mj:∀ (n:Nat) {seen:Ya} {level:Lvl} {acc:List (List (List Int))} {r:Option (List Int) × List (List (List Int))},run zA l due n seen level acc=some r -> ∃ more,r.2=acc++more
 |0,_,_,_,_,h=>by cases h
 |n+1,seen,level,acc,r,h=>by
  unfold run at h;split at h
  .cases h;exact ⟨[],by simp⟩
  .split at h
   .cases h;exact ⟨[],by simp⟩
   .obtain ⟨more,e⟩:=Mj n h;exact ⟨_,by rw[e,Bu]⟩
theorem OC:∀ (n:Nat) {seen:Ya} {level:Lvl} {acc:List (List (List Int))} {r0:Option (List Int) × List (List (List Int))},(∀ s∈level,s.2.length=acc.length)->run zA l (λ_=>false) n seen level acc=some r0 ->
  run zA l due n seen level acc=some (match (Ju zA l n seen level).find? λp=>due p.1 with|some p=>(some p.2,r0.2.take p.2.length)|none=>(none,r0.2))
 |0,_,_,_,_,_,h=>by cases h
 |n+1,seen,level,acc,r0,hw,h=>by
  have hf:level.find? (λp=>(λ_=>false:List Int->Bool) p.1)=none:=List.find?_eq_none.mpr λp hp=>by simp
  unfold run at h;unfold run Ju;rw[hf]at h;cases hl:level.isEmpty with
  |true=>
   rw[hl,AD rfl]at h;cases h;rw[AD rfl,AD rfl];rfl
  |false=>
   rw[hl,AE AY]at h;rw[AE AY,AE AY,List.find?_append];cases hd:level.find? (λp=>due p.1) with
   |some p=>
    obtain ⟨more,e⟩:=Mj n h;show some (some p.2,acc)=some (some p.2,r0.2.take p.2.length);rw[hw p (List.mem_of_find?_eq_some hd),e,Bu,List.take_left]
   |none=>
    rw[Option.none_or];exact OC n (Qx (λs hs=>by rw[hw s hs];simp) λ_ h=>by cases h) h
noncomputable def Ig:FS:=(zO (sIf (tst (fOp (kIs false) (zC 2) (fC .non))) (AO (fOp kLe (fB zg (zE (zC 0) zJ)) (zC 1))) An)
  (AO (fB EN (zE (zj [3] (Ah (zC 0)) (gN 3) zu (fOp (kIn false) (zC 3) (zC 2))) zJ))))
noncomputable def DB:FF:=Dh (Ax 4 Ig)
def WT (m:IsM zA l) (h9:zA.length<=9) (sR:IsS zA R):∃ r,run zA l (λ_=>false) 1000 [R] [(R,[])] []=some r/\r.1=none:=by
 obtain ⟨r,hr⟩:=Nn m h9 1000 (seen:=[R]) (level:=[(R,[])]) ⟨by simp,λS hS=>by rw[AU.mp hS];exact sR,λp hp=>by rw[AU.mp hp];exact sR⟩ (by simp);exact ⟨r,hr,OT (λ_=>rfl) 1000 hr⟩
section
variable {zA:Ya} {l:Nat} {R:Ye}
def MB:DB [tI S,.int many,.non] M=some (.bl (decide ((S.length:Int)<=many)),M):=by
 refine zF ?_;unfold DB;refine Eo (by unfold D.unds D.unds D.unds D.unds;rw[Bo];rfl) ?_;rw[Bj];unfold Ig;refine Ej (BU (zG rfl rfl rfl)) ?_;have e:=CJ (f:=zC 0) (Y:=[some (tI S),some (.int many),some .non,none]) (M:=[]) rfl zV;rw[AG]at e;exact zk (zG e rfl (zF (LZ.mpr ⟨rfl,rfl⟩))) ⟨rfl,rfl,rfl⟩
def Qw {xs:List D} (h:q<=xs.length):L3.C2 xs none (some (q:Int))=xs.take q:=by
 have s:HT.sIx xs.length xs.length (some (q:Int))=min q xs.length:=HT.Qb xs.length xs.length q;have z:HT.sIx xs.length 0 none=0:=rfl;unfold L3.C2;rw[s,z];simp only[List.drop_zero,Nat.sub_zero];rw[Nat.min_eq_left h]
end
open Lac (E7)
def Mr {bs:List Bool} (h:f Y M=some (.fl (bs.map D.bl),M)):fB Fc (zE f zJ) Y M=some (.dat (.bl (bs.any id)),M):=by
 unfold fB zE zJ;rw[h];exact zF ((Jm Kg (IW bs)).mpr ⟨rfl,rfl⟩)
def neS:kNe (.dat (.str a)) (.dat (.str b)) M=some (.dat (.bl (!dc (a=b))),M):=by
 have e:kNe (.dat (.str a)) (.dat (.str b)) M=some (.dat (.bl (!decide (V.str a=V.str b))),M):=rfl;rw[e];by_cases z:a=b
 .rw[Fh z,Af (by rw[z])]
 .rw[Gg z,AS (λy=>z (V.str.inj y))]
section
variable {zA:Ya} {l:Nat} {R:Ye} {due:List Int->Bool} {gL:List D->FF} {lL:Lm} {cs:List D}
noncomputable def LP (due:List Int->Bool) (LL:List (List (List Int))):Bool:=LL.any λL=>L.any due
end
section
variable {zA:Ya} {l:Nat} {R:Ye} {due:List Int->Bool}
def T1:setR zA S g∈(BA zA S w p g).1/\(∀ T∈p.1,T∈(BA zA S w p g).1) /\ ∀ q∈(BA zA S w p g).2,q∈p.2\/q=(setR zA S g,w++[g]):=by
 unfold BA;split
 .rename_i h;exact ⟨h,λT hT=>hT,λq hq=> .inl hq⟩
 .refine ⟨by simp,λT hT=>by simp[hT],λq hq=>?_⟩;rcases AV.mp hq with z|z
  .exact .inl z
  .exact .inr (AU.mp z)
theorem Qh:∀ (gs:Ye) (p:List (List Int) × Lvl),(∀ g∈gs,setR zA S g∈(gs.foldl (BA zA S w) p).1)/\(∀ T∈p.1,T∈(gs.foldl (BA zA S w) p).1) /\ ∀ q∈(gs.foldl (BA zA S w) p).2,q∈p.2 \/ ∃ g∈gs,q=(setR zA S g,w++[g])
 |[],p=>⟨(λ_ h=>by cases h),λT hT=>hT,λq hq=> .inl hq⟩
 |g::r,p=>by
  obtain ⟨a1,a2,a3⟩:=T1;obtain ⟨b1,b2,b3⟩:=Qh r (BA zA S w p g);rw[List.foldl_cons];refine ⟨λx hx=>?_,λT hT=>b2 T (a2 T hT),λq hq=>?_⟩
  .rcases AL.mp hx with z|z
   .rw[z];exact b2 _ a1
   .exact b1 x z
  .rcases b3 q hq with z|⟨x,hx,z⟩
   .rcases a3 q z with y|y
    .exact .inl y
    .exact .inr ⟨g,AW,y⟩
   .exact .inr ⟨x,Am _ hx,z⟩
theorem Px:∀ (level:Lvl) (p:List (List Int) × Lvl),(∀ s∈level,∀ g∈CF l,setR zA s.1 g∈(level.foldl (Co zA l) p).1)/\(∀ T∈p.1,T∈(level.foldl (Co zA l) p).1) /\ ∀ q∈(level.foldl (Co zA l) p).2,q∈p.2 \/ ∃ s∈level,∃ g∈CF l,q=(setR zA s.1 g,s.2++[g])
 |[],p=>⟨(λ_ h=>by cases h),λT hT=>hT,λq hq=> .inl hq⟩
 |s::r,p=>by
  obtain ⟨a1,a2,a3⟩:=Qh (CF l) p;obtain ⟨b1,b2,b3⟩:=Px r (Co zA l p s);rw[List.foldl_cons];refine ⟨λx hx g hg=>?_,λT hT=>b2 T (a2 T hT),λq hq=>?_⟩
  .rcases AL.mp hx with z|z
   .rw[z];exact b2 _ (a1 g hg)
   .exact b1 x z g hg
  .rcases b3 q hq with z|⟨x,hx,z⟩
   .rcases a3 q z with y|⟨g,hg,y⟩
    .exact .inl y
    .exact .inr ⟨s,AW,g,hg,y⟩
   .exact .inr ⟨x,Am _ hx,z⟩
def Wd (l:Nat) (w:Ye):Prop:=∀ g∈w,0<=g/\g<(l:Int)
structure Bf (zA:Ya) (l:Nat) (R:Ye) (due:List Int->Bool) (seen:Ya) (level:Lvl) (acc:List (List (List Int))):Prop where
 sn:∀ S∈seen,S∈acc.flatten\/S∈level.map (·.1)
 wd:∀ p∈level,broR zA R p.2=p.1/\Wd l p.2/\p.2.length=acc.length
 fst:(acc++[level.map (·.1)])[0]?=some [R]
 cl:∀ (k:Nat) L,acc[k]?=some L -> ∀ S∈L,∀ g∈CF l,∃ (j:Nat) (K:Ya),j<=k+1/\(acc++[level.map (·.1)])[j]?=some K/\setR zA S g∈K
 nd:∀ L∈acc,∀ S∈L,due S=false
def Bf.next {seen:Ya} {level:Lvl} {acc:List (List (List Int))} (m:IsM zA l) (mt:Met zA seen level) (h:Bf zA l R due seen level acc) (hn:level.find? (λp=>due p.1)=none) :
  Bf zA l R due (Cr zA l seen level).1 (Cr zA l seen level).2 (acc++[level.map (·.1)]):=by
 have g:=mt.next m;obtain ⟨a1,a2,a3⟩:=Px level (seen,[]);refine ⟨λS hS=>?_,λp hp=>?_,?_,λk L hL S hS x hx=>?_,λL hL S hS=>?_⟩
 .rw[g.eq]at hS;rw[List.flatten_append,List.flatten_singleton];rcases AV.mp hS with z|z
  .exact .inl (AV.mpr (h.sn S z))
  .exact .inr z
 .rcases a3 p hp with z|⟨s,hs,x,hx,rfl⟩
  .cases z
  .obtain ⟨w1,w2,w3⟩:=h.wd s hs;refine ⟨?_,λy hy=>?_,by simp[w3]⟩
   .show (s.2++[x]).foldl (setR zA) R=setR zA s.1 x;rw[List.foldl_append];show setR zA (broR zA R s.2) x=_;rw[w1]
   .rcases AV.mp hy with z|z
    .exact w2 y z
    .rw[AU.mp z];exact N7 hx
 .have:=h.fst;cases acc with
  |nil=>exact this
  |cons a r=>exact this
 .rcases Dk k acc.length with z|z
  .rw[Ag z]at hL;obtain ⟨j,K,hj,eK,hm⟩:=h.cl k L hL S hS x hx;refine ⟨j,K,hj,?_,hm⟩;rw[Ag (AK.mp eK).1];exact eK
  .have hk:k=acc.length:=by
    have:=(AK.mp hL).1;rw[Ae,List.length_singleton]at this;omega
   subst hk;rw[Cn (AF _),Nat.sub_self]at hL;cases hL;obtain ⟨s,hs,rfl⟩:=Aj.mp hS;have hm:setR zA s.1 x∈(Cr zA l seen level).1:=a1 s hs x hx;rw[g.eq]at hm;rcases AV.mp hm with y|y
   .rcases h.sn _ y with u|u
    .obtain ⟨K,hK,hSK⟩:=List.mem_flatten.mp u;obtain ⟨j,hj⟩:=List.getElem?_of_mem hK;have hlt:=(AK.mp hj).1;refine ⟨j,K,by omega,?_,hSK⟩;rw[Bu,Ag hlt];exact hj
    .refine ⟨acc.length,_,by omega,?_,u⟩;rw[Bu,Cn (AF _),Nat.sub_self];rfl
   .refine ⟨acc.length+1,_,AF _,?_,y⟩;rw[Cn (by simp)];simp
 .rcases AV.mp hL with z|z
  .exact h.nd L z S hS
  .rw[AU.mp z]at hS;obtain ⟨p,hp,rfl⟩:=Aj.mp hS;have:=List.find?_eq_none.mp hn p hp;simpa using this
def End (zA:Ya) (l:Nat) (R:Ye) (due:List Int->Bool) (r:Option (List Int) × List (List (List Int))):Prop:=∃ (seen:Ya) (level:Lvl),Bf zA l R due seen level r.2/\match r.1 with
 |none=>level=[]
 |some w=>∃ p∈level,p.2=w/\due p.1=true
theorem Mp (m:IsM zA l):∀ (n:Nat) {seen:Ya} {level:Lvl} {acc:List (List (List Int))} {r:Option (List Int) × List (List (List Int))},Met zA seen level->Bf zA l R due seen level acc->run zA l due n seen level acc=some r->End zA l R due r
 |0,_,_,_,_,_,_,h=>by cases h
 |n+1,seen,level,acc,r,mt,bf,h=>by
  unfold run at h;split at h
  .rename_i he;cases h;exact ⟨seen,level,bf,List.isEmpty_iff.mp he⟩
  .split at h
   .rename_i p hp;cases h;exact ⟨seen,level,bf,p,List.mem_of_find?_eq_some hp,rfl,by simpa using List.find?_some hp⟩
   .rename_i hn;exact Mp m n (mt.next m).met (bf.next m mt hn) h
def Q1 (m:IsM zA l) (sR:IsS zA R) (h:run zA l due 1000 [R] [(R,[])] []=some r):End zA l R due r:=by
 have mt:Met zA [R] [(R,[])]:=⟨by simp,λS hS=>by rw[AU.mp hS];exact sR,λp hp=>by rw[AU.mp hp];exact sR⟩;refine Mp m 1000 mt ⟨λS hS=> .inr (by simpa using hS),λp hp=>?_,rfl,λk L hL=>by simp at hL,λ_ h=>by cases h⟩ h;rw[AU.mp hp];exact ⟨rfl,(λg hg=>by cases hg),rfl⟩
def End.word (h:End zA l R due r) (h1:r.1=some w):Wd l w/\due (broR zA R w)=true/\w.length=r.2.length:=by
 obtain ⟨seen,level,bf,e⟩:=h;rw[h1]at e;obtain ⟨p,hp,hpw,hdp⟩:=e;obtain ⟨w1,w2,w3⟩:=bf.wd p hp;rw[hpw]at w1 w2 w3;exact ⟨w2,by rw[w1];exact hdp,w3⟩
def Z4 {LL:List (List (List Int))} {S:Ye} {j:Nat} {K:Ya} (hK:LL[j]?=some K) (hS:S∈K):∃ i,plc LL S=some i/\i<=j:=by
 cases hp:plc LL S with
 |none=>
  exfalso;have:=List.findIdx?_eq_none_iff.mp hp K (Ba hK);simp[hS]at this
 |some i=>
  refine ⟨i,rfl,?_⟩;have h1:=List.findIdx?_eq_some_iff_findIdx_eq.mp hp;rcases Dk j i with z|z
  .exfalso;have hlt:=(AK.mp hK).1;have h2:=List.not_of_lt_findIdx (by rw[h1.2];exact z);have h3:LL[j]=K:=(AK.mp hK).2;rw[h3]at h2;simp[hS]at h2
  .exact z
def fD {LL:List (List (List Int))} {S:Ye} {k:Nat} (h:∀ g∈CF l,∃ (j:Nat) (K:Ya),j<=k+1/\LL[j]?=some K/\setR zA S g∈K):Ec zA l LL S ((k:Nat)+1)=true:=by
 unfold Ec;rw[Ab];intro g hg;obtain ⟨j,K,hj,eK,hm⟩:=h g hg;obtain ⟨i,ei,hi⟩:=Z4 eK hm;rw[ei];exact Af (by omega)
def End.shown (m:IsM zA l) (h9:zA.length<=9) (sR:IsS zA R) (h:End zA l R due r):shB zA l R (r.2.map Aw) (r.1==none)=true/\LP due (r.2.map Aw)=false:=by
 obtain ⟨seen,level,bf,e⟩:=h;have hat:∀ (k:Nat) L,(r.2.map Aw)[k]?=some L -> ∃ K,r.2[k]?=some K /\ ∀ S,S∈L ↔ S∈K:=λk L hL=>by
  rw[AR]at hL;obtain ⟨K,hK,rfl⟩:=Option.map_eq_some_iff.mp hL;exact ⟨K,hK,λS=>(E5 K).mem_iff⟩
 have hta:∀ (j:Nat) K,r.2[j]?=some K->(r.2.map Aw)[j]?=some (Aw K):=λj K hK=>by rw[AR,hK];rfl
 refine ⟨?_,?_⟩
 .cases hr2:r.2 with
  |nil=>
   have hf:=bf.fst;rw[hr2]at hf;cases h1:r.1 with
   |none=>
    rw[h1]at e;have e:level=[]:=e;rw[e]at hf;cases hf
   |some w=>rfl
  |cons L0 rest=>
   have hf:=bf.fst;rw[hr2]at hf;cases hf;show (decide (R∈Aw [R])&&_)=true;rw[Ap];refine ⟨Af ((E5 [R]).mem_iff.mpr (by simp)),?_⟩;have hlen:r.2.length=rest.length+1:=by rw[hr2];rfl
   rw[show List.map Aw ([R]::rest)=r.2.map Aw by rw[hr2]];refine LX _ λk L hL S hS=>?_;rw[Nat.zero_add];have hbound:k<r.2.length/\(r.1≠none->k+1<r.2.length)/\(r.2.map Aw)[k]?=some L:=by
    cases h1:r.1 with
    |none=>
     rw[h1]at hL;have hL:(r.2.map Aw)[k]?=some L:=hL;have:=(AK.mp hL).1;rw[AG]at this;exact ⟨this,λz=>absurd rfl z,hL⟩
    |some w=>
     rw[h1]at hL;have hL:((r.2.map Aw).take ((r.2.map Aw).length-1))[k]?=some L:=hL;have hlt:=(AK.mp hL).1;rw[BN,AG]at hlt;rw[Gj (by rw[AG];omega)]at hL;exact ⟨by omega,λ_=>by omega,hL⟩
   obtain ⟨hk,hk2,hL⟩:=hbound;obtain ⟨K,hK,hKL⟩:=hat k L hL;refine fD λg hg=>?_;obtain ⟨j,K',hj,eK',hm⟩:=bf.cl k K hK S ((hKL S).mp hS) g hg;have hjl:j<r.2.length:=by
    rcases Dk j r.2.length with z|z
    .exact z
    .exfalso;have hlt:=(AK.mp eK').1;rw[Ae,List.length_singleton]at hlt;have hje:j=r.2.length:=by omega
     cases h1:r.1 with
     |none=>
      rw[h1]at e;have e:level=[]:=e;rw[hje,Cn (AF _),Nat.sub_self,e]at eK';cases eK';cases hm
     |some w=>
      have:=hk2 (by rw[h1];simp);omega
   rw[Ag hjl]at eK';exact ⟨j,Aw K',hj,hta j K' eK',(E5 K').mem_iff.mpr hm⟩
 .unfold LP;rw[List.any_eq_false];intro L hL;obtain ⟨K,hK,rfl⟩:=Aj.mp hL;simp only[Bool.not_eq_true];rw[List.any_eq_false];intro S hS;rw[bf.nd K hK S ((E5 K).mem_iff.mp hS)];simp
end
def Q2 {c:Ye} (nd:c.Nodup) (hl:c.length=N) (hx:∀ x∈c,0<=x/\x<(N:Int)) (h0:0<=x) (h1:x<(N:Int)):x∈c:=by
 rcases Classical.em (x∈c)with z|z
 .exact z
 .exfalso;have h2:=Law.JP (a:=x::c) (b:=(List.range N).map λ(k:Nat)=>(k:Int)) (ET.mpr ⟨z,nd⟩) λy hy=>by
   have hy2:0<=y/\y<(N:Int):=by
    rcases AL.mp hy with q|q
    .rw[q];exact ⟨h0,h1⟩
    .exact hx y q
   obtain ⟨n,rfl⟩:=Int.eq_ofNat_of_zero_le hy2.1;exact Aj.mpr ⟨n,DD.mpr (by omega),rfl⟩
  simp at h2;omega
def Rw.out3 (h:Rw M j rs zA n l) (hz:zA.length<=100000) (hσ:6<(Bp [6] Y).length) (h3:zC 3 Y M=some (.dat (.ref j),M)) :
  fB ze (zE (zj [6] (Ah (zC 3)) (gN 6) zu (fB ze (zE (zC 6) zJ))) zJ) Y M=some (.dat (mD zA),M):=by
 have hrl:∀ (i:Nat) (hi:i<rs.length),∃ w,zA[i]?=some w/\M[rs[i]]?=some (.lst (w.map D.int)):=λi hi=>h.row i rs[i] (AJ hi);refine CU (x:=.fl (zA.map λw=>D.tup (w.map D.int))) ?_ Cy;have:=F5 (own:=[6]) (fi:=Ah (zC 3)) (g:=gN 6) (te:=fB ze (zE (zC 6) zJ)) (Y:=Y) (M:=M) (gd:=HM (.dat (.ref j)) (rs.map D.ref)) rs D.ref (λr=> .tup (Km M r)) (Fq h3 (zv h.at_)) (by unfold DN HM;exact .inl h.at_) (by rw[h.len];exact hz) λr hr=>?_
 .rw[this];refine BV (λz=>some (EV.fl z,M)) ?_;apply List.ext_getElem?;intro i;rw[AR,AR];by_cases hi:i<rs.length
  .obtain ⟨w,e1,e2⟩:=hrl i hi;rw[AJ hi,e1];show some (D.tup _)=some (D.tup _);unfold Km;rw[e2]
  .rw[EG (by omega),EG (by rw[<-h.len];omega)];rfl
 .obtain ⟨i,hi⟩:=List.getElem?_of_mem hr;obtain ⟨w,e1,e2⟩:=h.row i r hi;refine ⟨(Bp [6] Y).set 6 (some (.ref r)),rfl,CU (x:=.dat (.ref r)) ?_ ?_⟩
  .unfold zC;rw[Bn hσ]
  .unfold Km;rw[zv e2,e2]
def Rf (h:Gen M 1 2 q) (hq:q<400000000) :
  Ok (Hb [.ref 1] M) λd M'=>(∃ zA l,d=mD zA/\IsM zA l/\2<=zA.length/\zA.length<=9/\l<=4 /\ ∀ g,g<l->Ij zA zA.length g)/\Nw M M' 1 2 (q+1000):=by
 obtain ⟨hn,hk⟩:=h.lt;unfold Hb;suffices hh:Ok (Ax 7 JN [.ref 1] M) λd M'=>(∃ zA l,d=mD zA/\IsM zA l/\2<=zA.length/\zA.length<=9/\l<=4 /\ ∀ g,g<l->Ij zA zA.length g)/\Nw M M' 1 2 (q+1000) by
  refine Ih (Ok.mono hh ?_);rintro d M1 ⟨⟨zA,l,rfl,r⟩,nw⟩;exact ⟨⟨Fx _,nw.len,nw.wf0 h⟩,⟨zA,l,rfl,r⟩,nw.trim h⟩
 rw[Bj];unfold JN;show OkS (zO _ _ [some (.ref 1),none,none,none,none,none,none] M) _;rw[zM,zf];refine Du.mpr (Er.mpr (Cu h (by omega) rfl rfl (by decide) (by decide) λi1 M1 a0 a1 nw1 hl1=>By.mpr ?_));rw[zQ,zR];obtain ⟨N,eN⟩:=Int.eq_ofNat_of_zero_le (show 0<=2+i1 by omega);rw[eN];show OkS (zO _ _ [some (.ref 1),some (.int (N:Nat)),none,none,none,none,none] M1) _;rw[zM,zf];refine Du.mpr (Er.mpr (Cu nw1.gen (by omega) rfl rfl (by decide) (by decide) λi2 M2 b0 b1 nw2 hl2=>By.mpr ?_));rw[zQ,zR];obtain ⟨l,el⟩:=Int.eq_ofNat_of_zero_le (show 0<=1+i2 by omega);rw[el];have hl0:0<l:=by omega
 show OkS (zO _ _ [some (.ref 1),some (.int (N:Nat)),some (.int (l:Nat)),none,none,none,none] M2) _;rw[zM,zf];refine G5.mpr (FV.mpr ⟨za (by simp),D2 ?_⟩);rw[zR];have nwA:=nw1.trans nw2;have nw4:=nwA.trans (nw2.gen.lst [] rfl);have lj:M.length<=M2.length:=nwA.len;have rw4:Rw (M2++[MO.lst ([]:List D)]) M2.length [] [] N l:=⟨FN _ _,rfl,λi r e=>by simp at e,List.nodup_nil,by simp,λ_ h=>by cases h⟩;generalize M2++[MO.lst ([]:List D)]=M4 at nw4 rw4;generalize M2.length=j at lj rw4;show OkS (zO _ _ [some (.ref 1),some (.int (N:Nat)),some (.int (l:Nat)),some (.ref j),none,none,none] M4) _;rw[zM,Bq];refine ⟨_,_,_,CQ (j:=(N:Nat)) rfl (by omega) (by omega),?_⟩;rw[BG];refine Di (n:=N) (I:=λi Y M'=>(∃ y4,Y=[some (.ref 1),some (.int (N:Nat)),some (.int (l:Nat)),some (.ref j),y4,none,none])/\Nw M M' 1 2 (q+3+30*i) /\ ∃ rs zA,Rw M' j rs zA N l/\zA.length=i /\ ∀ r∈rs,M.length<=r) ?_ ?_ _ _ ⟨⟨_,rfl⟩,nw4.mono (by omega),[],[],rw4,rfl,λ_ h=>by cases h⟩
 .rintro i Y M5 hi ⟨⟨y4,rfl⟩,nw5,rs,zA,rw5,hr5,lr⟩;refine ⟨_,rfl,?_⟩;show OkS (Cd _ [some (.ref 1),some (.int (N:Nat)),some (.int (l:Nat)),some (.ref j),some (.int (i:Nat)),none,none] M5) _;rw[Gz];refine Hl.mpr (ES.mpr ⟨_,rfl,⟨_,Fm rw5.at_⟩,Ho.mpr (C4.mpr ?_)⟩);refine Ok.mono (Vs nw5.gen (cnt:=l) (lo:=0) (hi:=N) (by omega) rfl λr M' hr nwr hlr=>Cu nwr.gen (by omega) rfl rfl (by omega) (by omega) λv M2 v0 v1 nx hl=>⟨v,rfl,v0,v1,nx,hl⟩) ?_;rintro x M6 ⟨⟨c,rfl,hcl,hc⟩,nw6,hl6⟩;refine D2 ?_;have rw6:Rw M6 j rs zA N l:=by
   have kp:∀ {i:Nat} {u:MO},M.length<=i->M5[i]?=some u->M6[i]?=some u:=λ{i u} hi e=>nw6.get e (by omega) (by omega);exact ⟨kp lj rw5.at_,rw5.len,λi r e=>let ⟨w,e1,e2⟩:=rw5.row i r e;⟨w,e1,kp (lr r (Ba e)) e2⟩,rw5.nd,rw5.hj,rw5.ok⟩
  have rw7:=rw6.add (w:=c) ⟨hcl,hc⟩;have e7:(M6++[MO.lst (c.map D.int)])[j]?=some (.lst (rs.map D.ref)):=by rw[Ag (AK.mp rw6.at_).1];exact rw6.at_
  refine zI (a:=[]) (M:=M6++[MO.lst (c.map D.int)]) rfl ?_;rw[Lj e7 (by rw[AG,rw6.len,hr5];exact Az (m:=100) (by omega) (za (by omega)))];have nw8:=(nw5.trans nw6).trans (nw6.gen.lst (c.map D.int) (CT _ _));have lM:M.length<=M6.length:=(nw5.trans nw6).len;rw[show rs.map D.ref++[D.ref M6.length]=(rs++[M6.length]).map D.ref by rw[Br];rfl];refine ⟨⟨_,rfl⟩,(nw8.setB h lj ?_).mono (by omega),_,_,rw7,by simp[hr5],λr hr=>?_⟩
  .show D.unds _ _=true;refine FR λx hx=>?_;obtain ⟨r,hr,rfl⟩:=Aj.mp hx;unfold D.und;rw[EA,Ae,List.length_singleton];rcases AV.mp hr with z|z
   .have:=rw6.refs r z;omega
   .have:r=M6.length:=by simpa using z
    omega
  .rcases AV.mp hr with z|z
   .exact lr r z
   .have:r=M6.length:=by simpa using z
    omega
 .rintro Y M5 ⟨⟨y4,rfl⟩,nw5,rs,zA,rw5,hr5,lr⟩;rw[zR,zM,Gz];refine FC.mpr (zI (zZ (d:=.ref j) rfl (zp (d:=.bl false) rfl)) ?_);refine Ok.mono (YF h nw5 rw5 hr5 (by omega) (by omega) hl0 (by omega) lj lr) ?_;rintro d M7 ⟨rfl,nw7,rows7,rw7,hr7,hij⟩;rw[zR];refine zk (rw7.out3 (by omega) (by show 6<7;omega) rfl) ⟨⟨rows7,l,rfl,⟨by omega,hl0,λr hr=>?_⟩,by omega,by omega,by omega,λg hg=>by rw[hr7];exact hij g hg⟩,nw7.mono (by omega)⟩;rw[hr7];exact rw7.ok r hr
noncomputable def JB:FS:=(zO (AQ 1 (fOp zt (fC (.int 1)) (zW zS (zD (toD (zC 0)) (zD (toD (fC (.int 5))) zL)))))
  (zO (AQ 2 (fOp zt (fOp zt (zC 1) (fC (.int 1))) (zW zS (zD (toD (zC 0)) (zD (toD (fC (.int 4))) zL)))))
  (zO (AQ 3 (fOp zt (fC (.int 1)) (zW zS (zD (toD (zC 0)) (zD (toD (fC (.int 4))) zL)))))
  (zO (AQ 4 (BO zL))
  (zO (Ao (zl (zD (toD (zC 2)) zL)) (gN 5) (Cd (fM F7 (zC 4) (zD (toD (zW zS (zD (toD (zC 0)) (zD (toD (fOp zt (zC 5) (fC (.int 1)))) zL)))) (zD (toD (zC 5)) zL)))))
  (zO (AQ 6 (fOp C3 (BO (zD (toD (fC .non)) zL)) (zC 2)))
  (zO (Ao (zl (zD (toD (zC 2)) zL)) (gN 7) (sIf (tst (fOp kLt (zC 7) (zC 1))) (D8 (fB ze (zE (zj [8] (zl (zD (toD (zC 3)) zL)) (gN 8) zu (fOp kIx (zC 4) (zW zS (zD (toD (zC 0)) (zD (toD (zC 1)) zL))))) zJ)) (zC 6) (fOp kIx (zC 4) (zC 7))) (D8 (fB ze (zE (zj [8] (zl (zD (toD (zC 3)) zL)) (gN 8) zu (fOp kIx (zC 4) (fOp zt (zC 1) (zW zS (zD (toD (zC 0)) (zD (toD (fOp Cb (zC 2) (zC 1))) zL)))))) zJ)) (zC 6) (fOp kIx (zC 4) (zC 7)))))
  (AO (Bd (zD (toD (fB ze (zE (zC 6) zJ))) (zD (toD (fB ze (zE (fB CS (zE (fSl (zC 4) DO (Cg (zC 1))) zJ)) zJ))) (zD (toD (fB ze (zE (fB CS (zE (fSl (zC 4) (Cg (zC 1)) DO) zJ)) zJ))) zL))))))))))))
noncomputable def HS:FF:=EW (Ax 9 JB)
def RD {ks:Ye} (h:ks.Nodup):zb ks=ks:=by
 have:∀ (l acc:Ye),(acc++l).Nodup->l.foldl ins acc=acc++l:=by
  intro l;induction l with
  |nil=>intro acc _;simp
  |cons x r ih=>
   intro acc hn;have hx:x∉acc:=λq=>by
    rw[Dm]at hn;exact hn.2.2 x q x AW rfl
   rw[List.foldl_cons];have:ins acc x=acc++[x]:=by unfold ins;rw[AE hx]
   rw[this,ih (acc++[x]) (by simpa using hn)];simp
 simpa [zb] using this ks [] (by simpa using h)
def LQ {ks:Ye} (h:ks.Nodup):Ay ks=ris ks:=by unfold ris;rw[RD h]
def J4 (hf:f Y M=some (x,M)) (hx:Ai M x=some (c.map D.int)) (hz:c.length<64):fB CS (zE f zJ) Y M=some (.fl ((Ay c).map D.int),M):=by
 rw[fB1 hf];unfold CS;dsimp only;rw[hx];dsimp only;rw[DU];dsimp only;rw[AD hz]
def Cl (zA:Ya) (l:Nat) (P:Ye):Prop:=∀ x∈P,∀ g:Nat,g<l->A0 zA x (g:Nat)∈P
def ZT (h:∀ d∈X,∃ w:List Int,d=tI w):∃ zA:List (List Int),X=zA.map tI:=by
 induction X with
 |nil=>exact ⟨[],rfl⟩
 |cons d X ih=>
  obtain ⟨w,rfl⟩:=h d AW;obtain ⟨zA,rfl⟩:=ih λd hd=>h d (Am _ hd);exact ⟨w::zA,rfl⟩
def Vq (h:Gen M 1 2 q) (hq:q<400000000) :
  Ok (HS [.ref 1] M) λd M'=>(∃ zA l P Q,d=.tup [mD zA,tI P,tI Q]/\IsM zA l/\zA.length<=9/\l<=4/\IsS zA P/\IsS zA Q/\Cl zA l P/\Cl zA l Q /\ ∀ x∈P,x∉Q)/\Nw M M' 1 2 (q+1000):=by
 obtain ⟨hn,hk⟩:=h.lt;unfold HS;suffices hh:Ok (Ax 9 JB [.ref 1] M) λd M'=>(∃ zA l P Q,d=.tup [mD zA,tI P,tI Q]/\IsM zA l/\zA.length<=9/\l<=4/\IsS zA P/\IsS zA Q/\Cl zA l P/\Cl zA l Q /\ ∀ x∈P,x∉Q)/\Nw M M' 1 2 (q+1000) by
  refine Ih (Ok.mono hh ?_);rintro d M1 ⟨⟨zA,l,P,Q,rfl,r⟩,nw⟩;refine ⟨⟨?_,nw.len,nw.wf0 h⟩,⟨zA,l,P,Q,rfl,r⟩,nw.trim h⟩;unfold D.und D.unds D.unds D.unds D.unds;rw[Fx,Bo,Bo];rfl
 rw[Bj];unfold JB;show OkS (zO _ _ [some (.ref 1),none,none,none,none,none,none,none,none] M) _;rw[zM,zf];refine Du.mpr (Er.mpr (Cu h (by omega) rfl rfl (by decide) (by decide) λi1 M1 a0 a1 nw1 hl1=>By.mpr ?_));rw[zQ,zR];obtain ⟨F,eF⟩:=Int.eq_ofNat_of_zero_le (show 0<=1+i1 by omega);rw[eF];show OkS (zO _ _ [some (.ref 1),some (.int (F:Nat)),none,none,none,none,none,none,none] M1) _;obtain ⟨_,M2,e2,⟨i2,rfl,b0,b1⟩,nw2,_⟩:=Hd nw1.gen (m:=4) (by omega) (by decide) (by decide);obtain ⟨N,eN⟩:=Int.eq_ofNat_of_zero_le (show 0<=((F:Nat):Int)+1+i2 by omega);rw[zM,zf];refine zI (a:=.dat (.int (N:Nat))) (M:=M2) (by rw[<-eN];exact Io (zG (x:=.dat (.int (F:Nat))) (y:=.dat (.int 1)) rfl rfl (zF (By.mpr ⟨rfl,rfl⟩))) (Bm (zZ (d:=.ref 1) rfl (zp (d:=.int 4) rfl)) e2) (zF (By.mpr ⟨rfl,rfl⟩))) ?_;rw[zQ,zR];show OkS (zO _ _ [some (.ref 1),some (.int (F:Nat)),some (.int (N:Nat)),none,none,none,none,none,none] M2) _;rw[zM,zf];refine Du.mpr (Er.mpr (Cu nw2.gen (by omega) rfl rfl (by decide) (by decide) λi3 M3 c0 c1 nw3 hl3=>By.mpr ?_));rw[zQ,zR];obtain ⟨l,el⟩:=Int.eq_ofNat_of_zero_le (show 0<=1+i3 by omega);rw[el];show OkS (zO _ _ [some (.ref 1),some (.int (F:Nat)),some (.int (N:Nat)),some (.int (l:Nat)),none,none,none,none,none] M3) _;rw[zM,zf];refine G5.mpr (FV.mpr ⟨za (by simp),D2 ?_⟩);rw[zR];have nwA:=(nw1.trans nw2).trans nw3;have nw4:=nwA.trans (nw3.gen.lst [] rfl);have lp:M.length<=M3.length:=nwA.len;have e4:(M3++[MO.lst ([]:List D)])[M3.length]?=some (.lst []):=FN _ _;generalize M3++[MO.lst ([]:List D)]=M4 at nw4 e4;generalize M3.length=p at lp e4;show OkS (zO _ _ [some (.ref 1),some (.int (F:Nat)),some (.int (N:Nat)),some (.int (l:Nat)),some (.ref p),none,none,none,none] M4) _;rw[zM,Bq];refine ⟨_,_,_,CQ (j:=(N:Nat)) rfl (by omega) (by omega),?_⟩;rw[BG];refine Di (n:=N) (I:=λt Y M'=>(∃ y5,Y=[some (.ref 1),some (.int (F:Nat)),some (.int (N:Nat)),some (.int (l:Nat)),some (.ref p),y5,none,none,none])/\Nw M M' 1 2 (q+3+t) /\ ∃ c:List Int,M'[p]?=some (.lst (c.map D.int))/\c.length=t/\c.Nodup /\ ∀ x∈c,0<=x/\x<(t:Int)) ?_ ?_ _ _ ⟨⟨_,rfl⟩,nw4,[],e4,rfl,List.nodup_nil,λ_ h=>by cases h⟩
 .rintro t Y A ht ⟨⟨y5,rfl⟩,nw,c,e,hc,hnd,hx⟩;refine ⟨_,rfl,?_⟩;show OkS (Cd _ [some (.ref 1),some (.int (F:Nat)),some (.int (N:Nat)),some (.int (l:Nat)),some (.ref p),some (.int (t:Nat)),none,none,none] A) _;rw[Gz];refine Hl.mpr (ES.mpr ⟨_,rfl,⟨_,Fm e⟩,Ho.mpr (C4.mpr ?_)⟩);refine Cu (m:=(t:Int)+1) nw.gen (by omega) rfl (zG (x:=.dat (.int (t:Nat))) rfl rfl (zF (By.mpr ⟨rfl,rfl⟩))) (by omega) (by omega) λv A1 m0 m1 nw1 _=>?_;rw[zQ];refine zI (zp (d:=.int (t:Nat)) rfl) ?_;have e1:=nw1.get e (by omega) (by omega);refine zI (Qj e1 m0 (by rw[AG];omega) (by rw[AG];omega)) ?_;generalize v.toNat=z at m0 m1;have hperm:(c.take z++[(t:Int)]++c.drop z).Perm ((t:Int)::c):=by
   rw[Bu,List.singleton_append];have h1:=@List.perm_middle _ (t:Int) (c.take z) (c.drop z);rw[DM]at h1;exact h1
  refine ⟨⟨_,rfl⟩,(nw.trans nw1).setB h lp ?_,c.take z++[(t:Int)]++c.drop z,?_,by rw[hperm.length_eq,B5,hc],?_,λx hx'=>?_⟩
  .show D.unds _ _=true;rw[<-List.map_take,<-List.map_drop,HI,HI,CT,CT];rfl
  .rw[Bn (AK.mp e1).1];simp
  .rw[hperm.nodup_iff,ET];exact ⟨λhm=>by have:=hx _ hm;omega,hnd⟩
  .rcases AL.mp (hperm.mem_iff.mp hx')with y|y
   .omega
   .have:=hx x y;omega
 .rintro Y A ⟨⟨y5,rfl⟩,nw,c,e,hc,hnd,hx⟩;rw[zR,zM,zf];have erep:fOp C3 (BO (zD (toD (fC .non)) zL)) (zC 2) [some (.ref 1),some (.int (F:Nat)),some (.int (N:Nat)),some (.int (l:Nat)),some (.ref p),y5,none,none,none] A=some (.fl (List.replicate N .non),A):=by
   refine zG (x:=.fl [.non]) (y:=.dat (.int (N:Nat))) (KI (zp (d:=.non) rfl) (by simp)) rfl ?_;unfold C3;dsimp only[B7,Cw];rw[AD ⟨by omega,by omega,za (by simp;omega)⟩,BG];congr 3;generalize N=n;induction n with
   |zero=>rfl
   |succ n ih=>rw[Ei,De,ih,Ei];rfl
  refine zI erep (D2 ?_);rw[zR];have hlp:p<A.length:=(AK.mp e).1;have nw5:=nw.trans (nw.gen.lst (List.replicate N .non) (FR λx hx=>by rw[(List.mem_replicate.mp hx).2];rfl));have e5:(A++[MO.lst (List.replicate N D.non)])[A.length]?=some (.lst (List.replicate N .non)):=FN _ _;have ec5:(A++[MO.lst (List.replicate N D.non)])[p]?=some (.lst (c.map D.int)):=by rw[Ag hlp];exact e
  have lr:M.length<=A.length:=nw.len;have hpr:A.length≠p:=by omega
  generalize A++[MO.lst (List.replicate N D.non)]=A5 at nw5 e5 ec5;generalize A.length=r at e5 lr hpr;show OkS (zO _ _ [some (.ref 1),some (.int (F:Nat)),some (.int (N:Nat)),some (.int (l:Nat)),some (.ref p),y5,some (.ref r),none,none] A5) _;have part:∀ (t:Nat) (y:Int),t<N->y∈(if t<F then c.take F else c.drop F)->0<=y/\y<(N:Int):=λt y ht hy=>by
   split at hy
   .exact hx y (Fy hy)
   .exact hx y (Em hy)
  rw[zM,Bq];refine ⟨_,_,_,CQ (j:=(N:Nat)) rfl (by omega) (by omega),?_⟩;rw[BG];refine Di (n:=N) (I:=λt Y M'=>(∃ y7,Y=[some (.ref 1),some (.int (F:Nat)),some (.int (N:Nat)),some (.int (l:Nat)),some (.ref p),y5,some (.ref r),y7,none])/\Nw M M' 1 2 (q+3+N+4*t)/\M'[p]?=some (.lst (c.map D.int)) /\ ∃ X:List D,M'[r]?=some (.lst X)/\X.length=N/\(∀ d∈X,D.und 0 d=true) /\ ∀ (s:Nat) (hs:s<c.length),s<t -> ∃ w:List Int,X[(c[s]).toNat]?=some (tI w)/\w.length=l /\ ∀ y∈w,y∈(if s<F then c.take F else c.drop F)) ?_ ?_ _ _ ⟨⟨_,rfl⟩,nw5.mono (by omega),ec5,_,e5,by simp,λd hd=>by rw[(List.mem_replicate.mp hd).2];rfl,λs _ h=>by omega⟩
  .rintro t Y B ht ⟨⟨y7,rfl⟩,nwB,ecB,X,eX,hXl,hXu,hX⟩;refine ⟨_,rfl,?_⟩;show OkS (sIf _ _ _ [some (.ref 1),some (.int (F:Nat)),some (.int (N:Nat)),some (.int (l:Nat)),some (.ref p),y5,some (.ref r),some (.int (t:Nat)),none] B) _;have hct:t<c.length:=by omega
   have fin:∀ (te:FE) (P:Ye),(∀ y∈P,0<=y/\y<(N:Int))->(P=if t<F then c.take F else c.drop F)->(∀ (k:Nat) (B':Mem),k<l->Nw B B' 1 2 (q+3+N+4*t+k)->B'.length=B.length->Ok (te ((Bp [8] [some (.ref 1),some (.int (F:Nat)),some (.int (N:Nat)),some (.int (l:Nat)),some (.ref p),y5,some (.ref r),some (.int (t:Nat)),none]).set 8 (some (.int k))) B') λx B''=>∃ v:Int,x=.dat (.int v)/\v∈P/\Nw B' B'' 1 2 (q+3+N+4*t+k+1)/\B''.length=B'.length) ->
     OkS (D8 (fB ze (zE (zj [8] (zl (zD (toD (zC 3)) zL)) (gN 8) zu te) zJ)) (zC 6) (fOp kIx (zC 4) (zC 7)) [some (.ref 1),some (.int (F:Nat)),some (.int (N:Nat)),some (.int (l:Nat)),some (.ref p),y5,some (.ref r),some (.int (t:Nat)),none] B) λo σ2 M2=>match o with|.nx=>(∃ y7,σ2=[some (.ref 1),some (.int (F:Nat)),some (.int (N:Nat)),some (.int (l:Nat)),some (.ref p),y5,some (.ref r),y7,none])/\Nw M M2 1 2 (q+3+N+4*(t+1))/\M2[p]?=some (.lst (c.map D.int)) /\ ∃ X:List D,M2[r]?=some (.lst X)/\X.length=N/\(∀ d∈X,D.und 0 d=true) /\ ∀ (s:Nat) (hs:s<c.length),s<t+1 -> ∃ w:List Int,X[(c[s]).toNat]?=some (tI w)/\w.length=l /\ ∀ y∈w,y∈(if s<F then c.take F else c.drop F)|_=>False:=λte P hP hPe hte=>by
    rw[Qe];have hw:Ok (zj [8] (zl (zD (toD (zC 3)) zL)) (gN 8) zu te [some (.ref 1),some (.int (F:Nat)),some (.int (N:Nat)),some (.int (l:Nat)),some (.ref p),y5,some (.ref r),some (.int (t:Nat)),none] B) λx B1=>∃ w:List Int,x=.fl (w.map D.int)/\w.length=l/\(∀ y∈w,y∈P)/\Nw B B1 1 2 (q+3+N+4*t+l):=by
     refine GP.mpr ⟨_,_,_,CQ (j:=(l:Nat)) rfl (by omega) (by omega),by rw[HD];exact za (by omega),?_⟩;rw[BG];refine Ok.mono (Ku (n:=l) (I:=λk acc B1=>∃ w:List Int,acc=w.map D.int/\w.length=k/\(∀ y∈w,y∈P)/\Nw B B1 1 2 (q+3+N+4*t+k)/\B1.length=B.length) ?_ ⟨[],rfl,rfl,(λ_ h=>by cases h),Nw.refl nwB.gen,rfl⟩) ?_
     .rintro k acc B1 hk ⟨w,rfl,hw,hwP,nw1,hlB⟩;refine ⟨_,rfl,?_⟩;refine Ok.mono (hte k B1 hk nw1 hlB) ?_;rintro x B2 ⟨v,rfl,hv,nw2,hl2⟩;rw[zQ];refine ⟨w++[v],by rw[Br];rfl,by simp[hw],λy hy=>?_,nw1.trans nw2,hl2.trans hlB⟩;rcases AV.mp hy with z|z
      .exact hwP y z
      .rw[AU.mp z];exact hv
     .rintro ys B1 ⟨w,rfl,hw,hwP,nw1,_⟩;exact ⟨w,rfl,hw,hwP,nw1⟩
    obtain ⟨_,B1,eB,w,rfl,hwl,hwP,nw1⟩:=hw;refine zI (LK eB) ?_;rw[zQ];have eX1:=nw1.get eX (by omega) (by omega);have ec1:=nw1.get ecB (by omega) (by omega);have hcr:=hx c[t] (Aq hct);obtain ⟨u,hu⟩:=Int.eq_ofNat_of_zero_le hcr.1;refine zI (a:=.dat (.ref r)) rfl (zI (zG (x:=.dat (.ref p)) (y:=.dat (.int (t:Nat))) rfl rfl (BM (d:=.int (u:Nat)) (zv ec1) (DL (by rw[AR,AJ hct,hu];rfl)))) ?_);rw[zQ];refine ⟨_,Oa eX1 (by omega),⟨_,rfl⟩,((nwB.trans nw1).setB h lr ?_).mono (by omega),?_,X.set u (tI w),Bn (AK.mp eX1).1,by rw[C8];exact hXl,λd hd=>?_,λs hs hst=>?_⟩
    .show D.unds _ _=true;refine FR λd hd=>?_;rcases List.mem_or_eq_of_mem_set hd with z|z
     .exact G9 (Bz _) (hXu d z)
     .rw[z];exact Bo _
    .rw[Av hpr];exact ec1
    .rcases List.mem_or_eq_of_mem_set hd with z|z
     .exact hXu d z
     .rw[z];exact Bo _
    .by_cases z:s=t
     .subst z;refine ⟨w,?_,hwl,λy hy=>?_⟩
      .rw[hu,BG,Bn (by omega)]
      .rw[<-hPe];exact hwP y hy
     .obtain ⟨w',e1,e2,e3⟩:=hX s hs (by omega);refine ⟨w',?_,e2,e3⟩;rw[Av ?_]
      .exact e1
      .intro y;have hcs:=hx c[s] (Aq hs);have:c[s]=c[t]:=by omega
       exact z ((List.getElem?_inj (i:=s) (j:=t) hs hnd).mp (by rw[AJ hs,AJ hct,this]))
   have et:tst (fOp kLt (zC 7) (zC 1)) [some (.ref 1),some (.int (F:Nat)),some (.int (N:Nat)),some (.int (l:Nat)),some (.ref p),y5,some (.ref r),some (.int (t:Nat)),none] B=some (decide (((t:Nat):Int)<(F:Nat)),B):=BU (zG (x:=.dat (.int (t:Nat))) (y:=.dat (.int (F:Nat))) rfl rfl (zF (II.mpr ⟨rfl,rfl⟩)));have wk:∀ {o:Out} {σ2:Sd} {M2:Mem} {A1:Prop} {A2:D->Prop},(match o with|.nx=>A1|_=>False)->match o with|.nx=>A1|.cnt=>A1|.brk=>False|.ret d=>A2 d:=λ{o σ2 M2 A1 A2} h=>by cases o <;> first|exact h|exact h.elim
   by_cases hF:t<F
   .refine MX (et.trans (by rw[Af (by omega)])) (OkS.mono (fin _ (c.take F) (λy hy=>hx y (Fy hy)) (by rw[AD hF]) λk B' hk nw' hl'=>?_) ?_)
    .have ecB':=nw'.get ecB (by omega) (by omega);refine Du.mpr (zI (a:=.dat (.ref p)) (M:=B') rfl ?_);refine Cu nw'.gen (by omega) rfl rfl (by omega) (by omega) λv B2 v0 v1 nw2 hl2=>?_;have hv:v.toNat<c.length:=by omega
     refine Jh (zv (nw2.get ecB' (by omega) (by omega))) (EJ v0 (by rw[AR,AJ hv];rfl)) ⟨_,rfl,?_,nw2,hl2⟩;rw[List.mem_take_iff_getElem];exact ⟨v.toNat,by omega,rfl⟩
    .intro o σ2 M2 hh;cases o with
     |nx=>exact hh
     |cnt=>exact hh.elim
     |brk=>exact hh.elim
     |ret d=>exact hh.elim
   .refine b8 (et.trans (by rw[AS (by omega)])) (OkS.mono (fin _ (c.drop F) (λy hy=>hx y (Em hy)) (by rw[AE hF]) λk B' hk nw' hl'=>?_) ?_)
    .have ecB':=nw'.get ecB (by omega) (by omega);refine Du.mpr (zI (a:=.dat (.ref p)) (M:=B') rfl ?_);refine Du.mpr (zI (a:=.dat (.int (F:Nat))) (M:=B') rfl ?_);refine Cu (m:=(N:Int)-F) nw'.gen (by omega) rfl (zG (x:=.dat (.int (N:Nat))) (y:=.dat (.int (F:Nat))) rfl rfl (zF (Hj.mpr ⟨rfl,rfl⟩))) (by omega) (by omega) λv B2 v0 v1 nw2 hl2=>By.mpr ?_;have hv:((F:Int)+v).toNat<c.length:=by omega
     refine Jh (zv (nw2.get ecB' (by omega) (by omega))) (EJ (by omega) (by rw[AR,AJ hv];rfl)) ⟨_,rfl,?_,nw2,hl2⟩;rw[List.mem_drop_iff_getElem];exact ⟨v.toNat,by omega,getElem_congr_idx (by omega)⟩
    .intro o σ2 M2 hh;cases o with
     |nx=>exact hh
     |cnt=>exact hh.elim
     |brk=>exact hh.elim
     |ret d=>exact hh.elim
  .rintro Y B ⟨⟨y7,rfl⟩,nwB,ecB,X,eX,hXl,hXu,hX⟩;rw[zR];have hall:∀ s,s<N -> ∃ (k:Nat) (hk:k<c.length) (w:Ye),c[k]=(s:Int)/\X[s]?=some (tI w)/\w.length=l /\ ∀ y∈w,y∈(if k<F then c.take F else c.drop F):=λs hs=>by
    obtain ⟨k,hk,e⟩:=DZ (Q2 hnd hc hx (x:=(s:Int)) (by omega) (by omega));obtain ⟨w,e1,e2,e3⟩:=hX k hk (by omega);rw[e,BG]at e1;exact ⟨k,hk,w,e,e1,e2,e3⟩
   obtain ⟨zA,rfl⟩:=ZT (X:=X) λd hd=>by
    obtain ⟨s,hs⟩:=List.getElem?_of_mem hd;obtain ⟨_,_,w,_,e1,_⟩:=hall s (by have:=(AK.mp hs).1;omega);rw[hs]at e1;cases e1;exact ⟨w,rfl⟩
   rw[AG]at hXl;have hrow:∀ s,s<N -> ∃ (k:Nat) (hk:k<c.length) (w:Ye),c[k]=(s:Int)/\zA[s]?=some w/\w.length=l /\ ∀ y∈w,y∈(if k<F then c.take F else c.drop F):=λs hs=>by
    obtain ⟨k,hk,w,e0,e1,e2,e3⟩:=hall s hs;rw[AR]at e1;obtain ⟨w',h1,h2⟩:=Option.map_eq_some_iff.mp e1;rw[JF h2]at h1;exact ⟨k,hk,w,e0,h1,e2,e3⟩
   have m:IsM zA l:=⟨by omega,by omega,λw hw=>by
    obtain ⟨s,hs⟩:=List.getElem?_of_mem hw;obtain ⟨k,hk,w',_,e1,e2,e3⟩:=hrow s (by have:=(AK.mp hs).1;omega);rw[hs]at e1;cases e1;exact ⟨e2,λy hy=>by rw[hXl];exact part k y (by omega) (e3 y hy)⟩⟩
   have st:∀ (k:Nat) (hk:k<c.length) (g:Nat),g<l->A0 zA c[k] (g:Nat)∈(if k<F then c.take F else c.drop F):=λk hk g hg=>by
    have hck:=hx c[k] (Aq hk);obtain ⟨s,hs⟩:=Int.eq_ofNat_of_zero_le hck.1;obtain ⟨k',hk',w,e0,e1,e2,e3⟩:=hrow s (by omega);have hkk:k'=k:=(List.getElem?_inj (i:=k') (j:=k) hk' hnd).mp (by rw[AJ hk',AJ hk,e0,hs]);subst hkk;unfold A0;rw[hs,BG,BG,Bi (l:=zA),e1];show w.getD g 0∈_;rw[Bi,AJ (by omega)];exact e3 _ (Aq _)
   have ndP:(c.take F).Nodup:=hnd.sublist (List.take_sublist F c);have ndQ:(c.drop F).Nodup:=hnd.sublist (List.drop_sublist F c);have esl1:fSl (zC 4) DO (Cg (zC 1)) [some (.ref 1),some (.int (F:Nat)),some (.int (N:Nat)),some (.int (l:Nat)),some (.ref p),y5,some (.ref r),y7,none] B=some (.fl ((c.take F).map D.int),B):=by
    refine (O7 (f:=zC 4) rfl ecB rfl (oS (f:=zC 1) (i:=(F:Nat)) rfl)).trans ?_;rw[Qw (by rw[AG];omega),List.map_take]
   have esl2:fSl (zC 4) (Cg (zC 1)) DO [some (.ref 1),some (.int (F:Nat)),some (.int (N:Nat)),some (.int (l:Nat)),some (.ref p),y5,some (.ref r),y7,none] B=some (.fl ((c.drop F).map D.int),B):=by
    refine (O7 (f:=zC 4) rfl ecB (oS (f:=zC 1) (i:=(F:Nat)) rfl) rfl).trans ?_;unfold L3.C2;rw[HT.S3,HT.Qb,AG,Nat.min_eq_left (by omega),GL (by rw[Ea,AG];omega),List.map_drop]
   have hP:∀ x,x∈ris (c.take F) ↔ x∈c.take F:=λx=>DH _ x;have hQ:∀ x,x∈ris (c.drop F) ↔ x∈c.drop F:=λx=>DH _ x;refine zk (QR (ds:=[mD zA,tI (ris (c.take F)),tI (ris (c.drop F))]) (zZ (CU (f:=zC 6) rfl (zv eX)) (zZ (CU (x:=.fl ((Ay (c.take F)).map D.int)) (J4 esl1 Cy (by rw[BN];omega)) (by rw[LQ ndP];exact Cy)) (zp (CU (x:=.fl ((Ay (c.drop F)).map D.int)) (J4 esl2 Cy (by rw[Ea];omega)) (by rw[LQ ndQ];exact Cy))))) (by simp)) ⟨⟨zA,l,ris (c.take F),ris (c.drop F),rfl,m,by omega,by omega,⟨GF _,HY (by rw[BN];omega),λx hxx=>?_⟩,⟨GF _,HY (by rw[Ea];omega),λx hxx=>?_⟩,λx hxx g hg=>?_,λx hxx g hg=>?_,λx h1 h2=>?_⟩,nwB.mono (by omega)⟩
   .rw[hXl];exact hx x (Fy ((hP x).mp hxx))
   .rw[hXl];exact hx x (Em ((hQ x).mp hxx))
   .rw[hP]at hxx ⊢;obtain ⟨k,hk,rfl⟩:=List.mem_take_iff_getElem.mp hxx;have:=st k (by omega) g hg;rw[AD (by omega)]at this;exact this
   .rw[hQ]at hxx ⊢;obtain ⟨k,hk,rfl⟩:=List.mem_drop_iff_getElem.mp hxx;have:=st (F+k) (by omega) g hg;rw[AE (by omega)]at this;exact this
   .rw[hP]at h1;rw[hQ]at h2;have:=Dm.mp (by rw[DM];exact hnd:(c.take F++c.drop F).Nodup);exact this.2.2 x h1 x h2 rfl
noncomputable def KA:FS:=(AO (fB EN (zE (zj [2] (Ah (zC 0)) (gN 2) zu (fOp (kIn false) (zC 2) (zC 1))) zJ)))
noncomputable def Hq:FF:=Dh (Ax 3 KA)
noncomputable def IP:List D->FF:=J0 (toD (fOp kLe (fB zg (zE (zC 0) zJ)) (zC 1)))
noncomputable def LM:FS:=(AO (GV [2] (E6 IP) (zD (toD (zC 0)) (zD (toD (zC 1)) zL)) zL))
noncomputable def G4:FF:=Dh (Ax 3 LM)
noncomputable def JE:List D->FF:=J0 (toD (zW Hq (zD (toD (zC 0)) (zD (toD (zC 1)) zL))))
noncomputable def Jy:FS:=(AO (GV [2] (E6 JE) (zD (toD (zC 0)) (zD (toD (zC 1)) zL)) zL))
noncomputable def GZ:FF:=Dh (Ax 3 Jy)
noncomputable def K1:FS:=(zO (sIf (B3 (BX (tst (Bk "tuple" (zC 2)))) (B3 (tst (fOp kNe (fB zg (zE (zC 2) zJ)) (fC (.int 2)))) (tst (fOp kNe (fOp kIx (zC 2) (fC (.int 0))) (fC (.str "none")))))) (AO (fC (.bl false))) An)
  (zO (sIf (BX (tst (zW Hf (zD (toD (zC 0)) (zD (toD (zC 1)) (zD (toD (fOp kIx (zC 2) (fC (.int 1)))) (zD (toD (fC (.bl true))) zL))))))) (AO (fC (.bl false))) An)
  (AO (DP (fB Fc (zE (zj [6] (Ah (fOp kIx (zC 2) (fC (.int 1)))) (gN 6) zu (fB Fc (zE (zj [5] (Ah (zC 6)) (gN 5) zu (zW DB (zD (toD (zC 5)) (zD (toD (zC 3)) (zD (toD (zC 4)) zL))))) zJ))) zJ))))))
noncomputable def E3:FF:=Ax 7 K1
noncomputable def inR (S G:Ye):Bool:=S.all λx=>decide (x∈G)
def Uj:kIn false (.dat (.int x)) (.dat (tI G)) M=some (.dat (.bl (decide (x∈G))),M):=by
 unfold kIn;dsimp only;rw[show Ai M (.dat (tI G))=some (G.map D.int)from zV];dsimp only;rw[DU];have:(G.any λy=>decide (y=x))=decide (x∈G):=by
  by_cases hm:x∈G
  .rw[Af hm];exact El.mpr ⟨x,hm,by simp⟩
  .rw[AS hm];exact List.any_eq_false.mpr λy hy=>by simp;intro e;exact hm (e▸hy)
 show some (EV.dat (.bl (G.any λy=>decide (y=x))),M)=_;rw[this]
def Pc (hz:S.length<=100000) (hi:zC i Y M=some (.dat (tI S),M)) (hk:∀ x:Int,zC k ((Bp own Y).set k (some (.int x))) M=some (.dat (.int x),M)) (hj:∀ x:Int,zC j ((Bp own Y).set k (some (.int x))) M=some (.dat (tI G),M)) :
  fB EN (zE (zj own (Ah (zC i)) (gN k) zu (fOp (kIn false) (zC k) (zC j))) zJ) Y M=some (.dat (.bl (inR S G)),M):=by
 have ec:=F5 (own:=own) (fi:=Ah (zC i)) (g:=gN k) (te:=fOp (kIn false) (zC k) (zC j)) (Y:=Y) (M:=M) S D.int (λx=> .bl (decide (x∈G))) (gd:=none) (Fq hi zV) trivial hz λx hx=>⟨_,rfl,zG (hk x) (hj x) Uj⟩;rw[fB1 ec];refine zF ((Jm (ds:=S.map λx=>D.bl (decide (x∈G))) (bs:=S.map λx=>decide (x∈G)) Kg ?_).mpr ?_)
 .rw[<-IW,BQ];rfl
 .refine ⟨?_,rfl⟩;unfold inR;rw[List.all_map];rfl
def dE:fOp kLe (fB zg (zE (zC 0) zJ)) (zC 1) [some (tI S),some (.int many)] M=some (.dat (.bl (decide ((S.length:Int)<=many))),M):=by
 have e:=CJ (f:=zC 0) (Y:=[some (tI S),some (.int many)]) (M:=M) (x:=.dat (tI S)) rfl zV;rw[AG]at e;exact zG e rfl (zF (LZ.mpr ⟨rfl,rfl⟩))
def orE (ha:a Y A=some (false,A)) (hb:b Y A=some (k,A)):B3 a b Y A=some (k,A):=by unfold B3;rw[ha];exact hb
def O0 (h:f Y M=some (.dat d,M)):toD f Y M=some (d,M):=by unfold toD;rw[h]
section
variable {zA:Ya} {l:Nat} {R:Ye} {due:List Int->Bool}
def US (hz:S.length<=100000):Hq [tI S,tI G] M=some (.bl (inR S G),M):=by
 refine zF ?_;unfold Hq;refine Eo (by unfold D.unds D.unds D.unds;rw[Bo,Bo];rfl) ?_;rw[Bj];unfold KA;exact zk (Pc (Y:=[some (tI S),some (tI G),none]) hz rfl (λ_=>rfl) (λ_=>rfl)) ⟨rfl,rfl,rfl⟩
def Qt (hz:S.length<=100000):DB [tI S,.int many,tI G] M=some (.bl (inR S G),M):=by
 refine zF ?_;unfold DB;refine Eo (by unfold D.unds D.unds D.unds D.unds;rw[Bo,Bo];rfl) ?_;rw[Bj];unfold Ig;show OkS (zO _ _ [some (tI S),some (.int many),some (tI G),none] []) _;refine C5 (BU (zG (x:=.dat (tI G)) (y:=.dat .non) rfl rfl rfl)) ?_;exact zk (Pc (Y:=[some (tI S),some (.int many),some (tI G),none]) hz rfl (λ_=>rfl) (λ_=>rfl)) ⟨rfl,rfl,rfl⟩
def Qk (m:IsM zA l) (h9:zA.length<=9) (hl9:l<=1000) (sR:IsS zA R) (hr:run zA l (λS=>decide ((S.length:Int)<=many)) 1000 [R] [(R,[])] []=some r):G4 [mD zA,tI R,.int many] M=some (DV r,M):=by
 refine zF ?_;unfold G4;refine Eo (by unfold D.unds D.unds D.unds D.unds;rw[Fx,Bo];rfl) ?_;rw[Bj];unfold LM;have hG:∀ S M',IsS zA S->IP [.int many] [tI S] M'=some (.bl (decide ((S.length:Int)<=many)),M'):=λS M' _=>O0 dE;exact zk (N4 (idx:=[2]) (mm:=E6 IP) (cs:=[.int many]) (g1:=zD (toD (zC 0)) (zD (toD (zC 1)) zL)) (g2:=zL) (Y:=[some (mD zA),some (tI R),some (.int many)]) (M:=[]) (M1:=[]) (M2:=[]) (ds1:=[mD zA,tI R]) (ds2:=[]) (d:=DV r) (zZ rfl (zp rfl)) rfl rfl λlm=>MK m h9 hl9 hG rfl sR hr) ⟨Lg _,rfl,rfl⟩
def Qq (m:IsM zA l) (h9:zA.length<=9) (hl9:l<=1000) (sR:IsS zA R) (hr:run zA l (λS=>inR S G) 1000 [R] [(R,[])] []=some r):GZ [mD zA,tI R,tI G] M=some (DV r,M):=by
 refine zF ?_;unfold GZ;refine Eo (by unfold D.unds D.unds D.unds D.unds;rw[Fx,Bo,Bo];rfl) ?_;rw[Bj];unfold Jy;have hG:∀ S M',IsS zA S->JE [tI G] [tI S] M'=some (.bl (inR S G),M'):=λS M' s=>O0 (Bm (zZ (d:=tI S) rfl (zp (d:=tI G) rfl)) (US (by have:=s.len;omega)));exact zk (N4 (idx:=[2]) (mm:=E6 JE) (cs:=[tI G]) (g1:=zD (toD (zC 0)) (zD (toD (zC 1)) zL)) (g2:=zL) (Y:=[some (mD zA),some (tI R),some (tI G)]) (M:=[]) (M1:=[]) (M2:=[]) (ds1:=[mD zA,tI R]) (ds2:=[]) (d:=DV r) (zZ rfl (zp rfl)) rfl rfl λlm=>MK m h9 hl9 hG (by unfold D.unds D.unds;rw[Bo];rfl) sR hr) ⟨Lg _,rfl,rfl⟩
def X9 (hfit:∀ S M,IsS zA S->DB [tI S,.int many,goal] M=some (.bl (due S),M)) (hL:OU zA LL) :
  DP (fB Fc (zE (zj [6] (Ah (fOp kIx (zC 2) (fC (.int 1)))) (gN 6) zu (fB Fc (zE (zj [5] (Ah (zC 6)) (gN 5) zu (zW DB (zD (toD (zC 5)) (zD (toD (zC 3)) (zD (toD (zC 4)) zL))))) zJ))) zJ)) [y0,y1,some (.tup [.str "none", shT LL]),some (.int many),some goal,none,none] M=some (.dat (.bl (!LP due LL)),M):=by
 refine Ob ?_;have e:=Mr (f:=zj [6] (Ah (fOp kIx (zC 2) (fC (.int 1)))) (gN 6) zu (fB Fc (zE (zj [5] (Ah (zC 6)) (gN 5) zu (zW DB (zD (toD (zC 5)) (zD (toD (zC 3)) (zD (toD (zC 4)) zL))))) zJ))) (Y:=[y0,y1,some (.tup [.str "none", shT LL]),some (.int many),some goal,none,none]) (M:=M) (bs:=LL.map λL=>L.any due) (by
  rw[BQ];refine F5 (gd:=none) LL lvT (λL=> .bl (L.any due)) (Hz (xs:=LL.map lvT) (zG (x:=.dat (.tup [.str "none", shT LL])) (y:=.dat (.int 1)) rfl rfl (BM zV (DL (j:=1) rfl)))) trivial (by have:=hL.2.1;omega) λL hm=>⟨_,rfl,?_⟩;have e2:=Mr (f:=zj [5] (Ah (zC 6)) (gN 5) zu (zW DB (zD (toD (zC 5)) (zD (toD (zC 3)) (zD (toD (zC 4)) zL))))) (Y:=[y0,y1,some (.tup [.str "none", shT LL]),some (.int many),some goal,none,some (lvT L)]) (M:=M) (bs:=L.map due) (by
   rw[BQ];exact F5 (gd:=none) L tI (λS=> .bl (due S)) (Hz (xs:=L.map tI) rfl) trivial (by have:=hL.2.2 L hm;omega) λS hS=>⟨_,rfl,Bm (zZ (d:=tI S) rfl (zZ (d:=.int many) rfl (zp (d:=goal) rfl))) (hfit S M (hL.1 L hm S hS))⟩)
  rw[List.any_map]at e2;exact e2)
 rw[List.any_map]at e;exact e
def Ia (m:IsM zA l) (h9:zA.length<=9) (hl9:l<=1000) (sR:IsS zA R) (hfit:∀ S M,IsS zA S->DB [tI S,.int many,goal] M=some (.bl (due S),M)) (hf:run zA l due 1000 [R] [(R,[])] []=some r) (hno:∀ w,Wd l w->due (broR zA R w)=false) (wf:∀ (j:Nat) u,M[j]?=some u->MO.und M.length u=true) :
  E3 [mD zA,tI R,DV r,.int many,goal] M=some (.bl true,M):=by
 have he:=Q1 m sR hf;obtain ⟨eS,hL,_⟩:=Rt m h9 sR hf;obtain ⟨s1,s2⟩:=he.shown m h9 sR;have h1:r.1=none:=by
  cases h1:r.1 with
  |none=>rfl
  |some w=>
   obtain ⟨w1,w2,_⟩:=he.word h1;rw[hno w w1]at w2;cases w2
 rw[h1]at s1;unfold DV;rw[h1];dsimp only;rw[eS];generalize r.2.map Aw=LL at eS hL s1 s2;refine zF ?_;unfold E3;rw[Bj];unfold K1;show OkS (zO _ _ [some (mD zA),some (tI R),some (.tup [.str "none", shT LL]),some (.int many),some goal,none,none] M) _;have eT:zC 2 [some (mD zA),some (tI R),some (.tup [.str "none", shT LL]),some (.int many),some goal,none,none] M=some (.dat (.tup [.str "none", shT LL]),M):=rfl;have e1:=zG (k:=kIx) (g:=fC (.int 1)) eT rfl (BM (d:=shT LL) zV (DL (j:=1) rfl));have el:tst (fOp kNe (fB zg (zE (zC 2) zJ)) (fC (.int 2))) [some (mD zA),some (tI R),some (.tup [.str "none", shT LL]),some (.int many),some goal,none,none] M=some (false,M):=BU (zG (x:=.dat (.int 2)) (y:=.dat (.int 2)) (CJ eT zV) rfl rfl);have en:tst (fOp kNe (fOp kIx (zC 2) (fC (.int 0))) (fC (.str "none"))) [some (mD zA),some (tI R),some (.tup [.str "none", shT LL]),some (.int many),some goal,none,none] M=some (false,M):=(BU (zG (zG eT rfl (BM (d:=.str "none") zV (DL (j:=0) rfl))) rfl neS)).trans (by rw[Fh rfl];rfl);refine C5 (orE (ntE (k:=true) (isV eT rfl (by decide))) (orE el en)) ?_;have th:=hL.th h9 (M:=M);have es:=ZI (R:=R) (closed:=true) m h9 hl9 wf th.1 th.2.lv;rw[PV hL.st,show shB zA l R LL true=true from s1]at es;refine C5 (ntE (k:=true) (Bm (zZ (d:=mD zA) rfl (zZ (d:=tI R) rfl (zZ e1 (zp (d:=.bl true) rfl)))) es)) ?_;refine zk (X9 hfit hL.ok) ⟨?_,rfl⟩;rw[s2];rfl
def SU (m:IsM zA l) (hij:∀ g,g<l->Ij zA zA.length g) {S:Ye} (s:IsS zA S) {g:Int} (g0:0<=g) (g1:g<l):(setR zA S g).length=S.length:=by
 unfold setR;have nd:(S.map λh=>A0 zA h g).Nodup:=by
  rw[List.nodup_iff_pairwise_ne,List.pairwise_map];refine List.Pairwise.imp_of_mem (λ{a b} ha hb hlt=>?_) s.pw;intro e;obtain ⟨a0,a1⟩:=s.mem a ha;obtain ⟨b0,b1⟩:=s.mem b hb;obtain ⟨i,rfl⟩:=Int.eq_ofNat_of_zero_le a0;obtain ⟨j,rfl⟩:=Int.eq_ofNat_of_zero_le b0;obtain ⟨k,rfl⟩:=Int.eq_ofNat_of_zero_le g0;have:=hij k (by omega) i j (by omega) (by omega) e;omega
 exact Nat.le_antisymm (by have:=PQ (S.map λh=>A0 zA h g);rw[AG]at this;exact this) (by
  have:=Law.JP (a:=S.map λh=>A0 zA h g) (b:=ris (S.map λh=>A0 zA h g)) nd λx hx=>(DH _ x).mpr hx;rw[AG]at this;exact this)
theorem Nm (m:IsM zA l) (hij:∀ g,g<l->Ij zA zA.length g):∀ (w:Ye) {S:Ye},IsS zA S->Wd l w->(broR zA S w).length=S.length
 |[],S,_,_=>rfl
 |g::w,S,s,hw=>by
  obtain ⟨g0,g1⟩:=hw g AW;show (broR zA (setR zA S g) w).length=_;rw[Nm m hij w (m.setR s g0 g1) λx hx=>hw x (Am _ hx),SU m hij s g0 g1]
theorem HV (m:IsM zA l) (hP:Cl zA l P):∀ (w:Ye) {S:Ye},IsS zA S->Wd l w->(∃ x∈S,x∈P) -> ∃ x∈broR zA S w,x∈P
 |[],S,_,_,h=>h
 |g::w,S,s,hw,⟨x,hx,hxP⟩=>by
  obtain ⟨g0,g1⟩:=hw g AW;refine HV m hP w (m.setR s g0 g1) (λx hx=>hw x (Am _ hx)) ⟨A0 zA x g,?_,?_⟩
  .exact (DH _ _).mpr (Aj.mpr ⟨x,hx,rfl⟩)
  .obtain ⟨k,rfl⟩:=Int.eq_ofNat_of_zero_le g0;exact hP x hxP k (by omega)
def Zu (h:inR S G=true) (nd:S.Nodup):S.length<=G.length:=Law.JP nd λx hx=>by
 have:=Ab.mp h x hx;exact Bv this
def V6 (s:IsS zA S):S.Nodup:=s.pw.imp λ{a b} h=>Int.ne_of_lt h
end
noncomputable def K6:FS:=(zO (AQ 1 (zW Hv (zD (toD (zC 0)) zL)))
  (zO (Ao (zl (zD (toD (fC (.int 2))) zL)) (gN 2) (zO (AQ 3 (zW Hb (zD (toD (zC 1)) zL)))
  (zO (AQ 4 (zW GJ (zD (toD (zC 1)) (zD (toD (fB zg (zE (zC 3) zJ))) zL))))
  (zO (sIf (tst (fOp kEq (fB zg (zE (zC 4) zJ)) (fC (.int 1)))) (AQ 4 (fB ze (zE (fB CS (zE (BO (zD (toD (fOp kIx (zC 4) (fC (.int 0)))) (zD (toD (fOp CD (fOp zt (fOp kIx (zC 4) (fC (.int 0))) (fC (.int 1))) (fB zg (zE (zC 3) zJ)))) zL))) zJ)) zJ))) An)
  (zO (AQ 5 (fOp zt (fC (.int 1)) (zW zS (zD (toD (zC 1)) (zD (toD (fOp Cb (fB zg (zE (zC 4) zJ)) (fC (.int 1)))) zL)))))
  (zO (sIf (BX (tst (zW E3 (zD (toD (zC 3)) (zD (toD (zC 4)) (zD (toD (zW G4 (zD (toD (zC 3)) (zD (toD (zC 4)) (zD (toD (zC 5)) zL))))) (zD (toD (zC 5)) (zD (toD (fC .non)) zL)))))))) (AO (fC (.bl false))) An)
  (zO (AQ 6 (zW zS (zD (toD (zC 1)) (zD (toD (fB zg (zE (zC 3) zJ))) zL))))
  (zO (AQ 7 (fB ze (zE (fB CS (zE (zj [8] (zl (zD (toD (fOp zt (fC (.int 1)) (zW zS (zD (toD (zC 1)) (zD (toD (fOp Cb (fB zg (zE (zC 4) zJ)) (fC (.int 1)))) zL))))) zL)) (gN 8) zu (fOp CD (fOp zt (zC 6) (fOp DI (fC (.int 2)) (zC 8))) (fB zg (zE (zC 3) zJ)))) zJ)) zJ)))
  (zO (AQ 7 (fB ze (zE (zj [8,9] (Fs (zC 7)) (Dq 8 9) (tst (fOp (kIn true) (zC 9) (fSl (zC 7) DO (Cg (zC 8))))) (zC 9)) zJ)))
  (zO (sIf (BX (tst (zW E3 (zD (toD (zC 3)) (zD (toD (zC 4)) (zD (toD (zW GZ (zD (toD (zC 3)) (zD (toD (zC 4)) (zD (toD (zC 7)) zL))))) (zD (toD (fC (.int 0))) (zD (toD (zC 7)) zL)))))))) (AO (fC (.bl false))) An)
  (zO (HA (LI 3 10 11) (zW HS (zD (toD (zC 1)) zL)))
  (zO (AQ 4 (zW GJ (zD (toD (zC 1)) (zD (toD (fB zg (zE (zC 3) zJ))) zL))))
  (zO (AQ 12 (BO (zD (toD (fOp kIx (zC 10) (zW zS (zD (toD (zC 1)) (zD (toD (fB zg (zE (zC 10) zJ))) zL))))) (zD (toD (fOp kIx (zC 11) (zW zS (zD (toD (zC 1)) (zD (toD (fB zg (zE (zC 11) zJ))) zL))))) zL))))
  (zO (AQ 4 (fB ze (zE (Gu (GG (fOp Ds (fB Dn (zE (zC 4) zJ)) (zC 12)))) zJ)))
  (zO (sIf (BX (tst (zW E3 (zD (toD (zC 3)) (zD (toD (zC 4)) (zD (toD (zW G4 (zD (toD (zC 3)) (zD (toD (zC 4)) (zD (toD (fC (.int 1))) zL))))) (zD (toD (fC (.int 1))) (zD (toD (fC .non)) zL)))))))) (AO (fC (.bl false))) An)
  (Ao (Ah (Bd (zD (toD (zC 10)) (zD (toD (zC 11)) zL)))) (gN 13) (sIf (BX (tst (zW E3 (zD (toD (zC 3)) (zD (toD (zC 4)) (zD (toD (zW GZ (zD (toD (zC 3)) (zD (toD (zC 4)) (zD (toD (zC 13)) zL))))) (zD (toD (fC (.int 0))) (zD (toD (zC 13)) zL)))))))) (AO (fC (.bl false))) An)))))))))))))))))
  (AO (fC (.bl true)))))
noncomputable def Ew:FF:=Ax 14 K6
section
variable {zA:Ya} {l:Nat} {R:Ye}
def W7 (hn:2<=zA.length) (x0:0<=x) (x1:x<(zA.length:Int)):Ay [x,(x+1) % (zA.length:Int)]=ris [x,(x+1) % (zA.length:Int)]/\IsS zA (ris [x,(x+1) % (zA.length:Int)])/\(ris [x,(x+1) % (zA.length:Int)]).length=2:=by
 have h0:0<=(x+1) % (zA.length:Int):=Int.emod_nonneg _ (by omega);have h1:(x+1) % (zA.length:Int)<zA.length:=Int.emod_lt_of_pos _ (by omega);have hne:x≠(x+1) % (zA.length:Int):=by
  by_cases z:x+1<zA.length
  .rw[Int.emod_eq_of_lt (by omega) z];omega
  .rw[show x+1=(zA.length:Int) by omega,Int.emod_self];omega
 have nd:[x,(x+1) % (zA.length:Int)].Nodup:=by simp[hne]
 refine ⟨LQ nd,⟨GF _,HY (by simp),λy hy=>?_⟩,?_⟩
 .have:=(DH _ y).mp hy;simp only[AL,Cv,or_false]at this;rcases this with rfl|rfl
  .exact ⟨x0,x1⟩
  .exact ⟨h0,h1⟩
 .exact Nat.le_antisymm (PQ _) (Law.JP nd λy hy=>(DH _ y).mpr hy)
def JD (m:IsM zA l) (h9:zA.length<=9) (sR:IsS zA R):∃ r,run zA l due 1000 [R] [(R,[])] []=some r:=by
 obtain ⟨r0,hr,_⟩:=WT m h9 sR;exact ⟨_,OC (due:=due) 1000 (λs hs=>by rw[AU.mp hs];rfl) hr⟩
def UB (hz:G0.length<=1000) (h7:∀ a b,zC 7 ((((Bp [8,9] Y).set 8 (some a))).set 9 (some b)) M=some (.dat (tI G0),M)) (h7':zC 7 Y M=some (.dat (tI G0),M)) (h8:∀ a b,zC 8 ((((Bp [8,9] Y).set 8 (some a))).set 9 (some b)) M=some (.dat a,M)) (h9:∀ a b,zC 9 ((((Bp [8,9] Y).set 8 (some a))).set 9 (some b)) M=some (.dat b,M)) :
  ∃ G:List Int,G.length<=G0.length/\fB ze (zE (zj [8,9] (Fs (zC 7)) (Dq 8 9) (tst (fOp (kIn true) (zC 9) (fSl (zC 7) DO (Cg (zC 8))))) (zC 9)) zJ) Y M=some (.dat (tI G),M):=by
 have hh:Ok (zj [8,9] (Fs (zC 7)) (Dq 8 9) (tst (fOp (kIn true) (zC 9) (fSl (zC 7) DO (Cg (zC 8))))) (zC 9) Y M) λx M'=>(∃ G:List Int,x=.fl (G.map D.int)/\G.length<=G0.length)/\M'=M:=by
  have ei:Fs (zC 7) Y M=some (Gf 0 (G0.map D.int),none,M):=by
   unfold Fs;rw[h7'];dsimp only;rw[show Ai M (.dat (tI G0))=some (G0.map D.int)from zV,<-Zy];rfl
  refine GP.mpr ⟨_,_,_,ei,za (by unfold Gf;simp;omega),?_⟩;refine Ok.mono (Gp (I:=λr acc M'=>M'=M /\ ∃ (n:Nat) (rest G:Ye),r=Gf n (rest.map D.int)/\acc=G.map D.int/\G.length+rest.length<=G0.length/\n+rest.length=G0.length) (Q:=λacc M'=>M'=M /\ ∃ G:List Int,acc=G.map D.int/\G.length<=G0.length) ?_ ?_ _ [] M ⟨rfl,0,G0,[],rfl,rfl,by simp,by simp⟩) ?_
  .rintro x r acc M' ⟨rfl,n,rest,G,er,rfl,hl,hn⟩;cases rest with
   |nil=>cases er
   |cons y rest=>
    rw[Ad]at er;unfold Gf at er;rw[Xe]at er;obtain ⟨rfl,rfl⟩:=Ci er;rw[B5]at hl hn;refine ⟨zh,_,rfl,?_⟩;have et:tst (fOp (kIn true) (zC 9) (fSl (zC 7) DO (Cg (zC 8)))) ((((Bp [8,9] Y).set 8 (some (.int (n:Nat))))).set 9 (some (.int y))) M'=some (!((G0.take n).any λz=>decide (z=y)),M'):=by
     refine BU (zG (h9 _ _) ((slT (h7 _ _) (oT (h8 _ _))).trans (by rw[Qw (by rw[AG];omega),<-List.map_take])) ?_);have e3:kIn true (.dat (.int y)) (.dat (.tup ((G0.take n).map D.int))) M'=(match BC ((G0.take n).map D.int) with|some xs=>some (.dat (.bl (if true then !(xs.any λz=>decide (z=y)) else xs.any λz=>decide (z=y))),M')|none=>none):=rfl;rw[e3,DU];rfl
    refine zI et ?_;cases (G0.take n).any λz=>decide (z=y) with
    |true=>exact ⟨rfl,n+1,rest,G,rfl,rfl,by omega,by omega⟩
    |false=>
     show Ok _ _;refine zI (h9 _ _) ?_;rw[zQ];exact ⟨rfl,n+1,rest,G++[y],rfl,by rw[Br];rfl,by simp;omega,by omega⟩
  .rintro acc M' ⟨rfl,n,rest,G,er,rfl,hl,hn⟩;exact ⟨zh,rfl,G,rfl,by omega⟩
  .rintro ys M' ⟨rfl,G,e,hl⟩;rw[EX]at e;exact ⟨⟨G,by rw[e],hl⟩,rfl⟩
 obtain ⟨x,M',e,⟨G,rfl,hl⟩,rfl⟩:=hh;exact ⟨G,hl,LK e⟩
def IA (h:zC i Y M=some (.dat (tI S),M)):fB zg (zE (zC i) zJ) Y M=some (.dat (.int S.length),M):=by
 have e:=CJ h zV;rw[AG]at e;exact e
def JJ (h:f Y M=some (.dat (.bl true),M)):BX (tst f) Y M=some (false,M):=ntE (k:=true) h
end
def aL (ns:Ye) (h:ns.length<=63):∃ M',Ew [.ref 0] [.fro (ns.map D.int)]=some (.bl true,M'):=by
 suffices hh:Ok (Ew [.ref 0] [.fro (ns.map D.int)]) λd _=>d=.bl true by
  obtain ⟨d,M',e,rfl⟩:=hh;exact ⟨M',e⟩
 unfold Ew;rw[Bj];unfold K6;show OkS (zO _ _ [some (.ref 0),none,none,none,none,none,none,none,none,none,none,none,none,none] [.fro (ns.map D.int)]) _;rw[zM,zf];refine FC.mpr (zI (zp (d:=.ref 0) rfl) ?_);refine Ok.mono (RX h) ?_;rintro d M1 ⟨rfl,gen1,_⟩;rw[zQ,zR];show OkS (zO _ _ [some (.ref 0),some (.ref 1),none,none,none,none,none,none,none,none,none,none,none,none] M1) _;rw[zM,Bq];refine ⟨_,_,_,CQ (j:=2) rfl (by decide) (by decide),?_⟩;refine Di (n:=2) (I:=λi Y M=>(∃ y2 y3 y4 y5 y6 y7 y8 y9 ya yb yc yd,Y=[some (.ref 0),some (.ref 1),y2,y3,y4,y5,y6,y7,y8,y9,ya,yb,yc,yd])/\Gen M 1 2 (20000*i)) ?_ ?_ _ _ ⟨⟨_,_,_,_,_,_,_,_,_,_,_,_,rfl⟩,gen1⟩
 .rintro i Y M hi ⟨⟨y2,y3,y4,y5,y6,y7,y8,y9,ya,yb,yc,yd,rfl⟩,gen⟩;refine ⟨_,rfl,?_⟩;generalize D.int (i:Nat)=d2;rw[zM,zf];refine FC.mpr (zI (zp (d:=.ref 1) rfl) (Ok.mono (Rf gen (by omega)) ?_));rintro d A1 ⟨⟨zA,l,rfl,m,h2,h9,hl4,hij⟩,nw1⟩;have hl9:l<=1000:=by omega
  rw[zQ,zR,zM,zf];refine FC.mpr (zI (zZ (d:=.ref 1) rfl (zp (GR rfl))) ?_);refine Ok.mono (Nf nw1.gen (by omega) (by omega) (by omega)) ?_;rintro d A2 ⟨⟨R0,rfl,sp,s0,sm⟩,nw2,_⟩;have sR0:IsS zA R0:=⟨sp,s0,sm⟩;rw[zQ,zR];have nwA:=nw1.trans nw2;show OkS (zO _ _ [some (.ref 0),some (.ref 1),some d2,some (mD zA),some (tI R0),y5,y6,y7,y8,y9,ya,yb,yc,yd] A2) _;rw[zM];refine OkS.mono (P:=λo Y A=>o=.nx/\A2=A /\ ∃ R,Y=[some (.ref 0),some (.ref 1),some d2,some (mD zA),some (tI R),y5,y6,y7,y8,y9,ya,yb,yc,yd]/\IsS zA R/\2<=R.length) ?_ ?_
  .have et:tst (fOp kEq (fB zg (zE (zC 4) zJ)) (fC (.int 1))) [some (.ref 0),some (.ref 1),some d2,some (mD zA),some (tI R0),y5,y6,y7,y8,y9,ya,yb,yc,yd] A2=some (decide ((R0.length:Int)=1),A2):=BU (zG (IA (S:=R0) rfl) rfl (zF (Ez.mpr ⟨rfl,rfl⟩)));by_cases z:R0.length=1
   .refine MX (et.trans (by rw[Af (by omega)])) ?_;obtain ⟨x,rfl⟩:∃ x,R0=[x]:=List.length_eq_one_iff.mp z;obtain ⟨x0,x1⟩:=sm x (by simp);obtain ⟨k1,k2,k3⟩:=W7 h2 x0 x1;have ex:∀ {A:Mem},fOp kIx (zC 4) (fC (.int 0)) [some (.ref 0),some (.ref 1),some d2,some (mD zA),some (tI [x]),y5,y6,y7,y8,y9,ya,yb,yc,yd] A=some (.dat (.int x),A):=λ{A}=>zG (x:=.dat (tI [x])) (y:=.dat (.int 0)) rfl rfl (BM zV (DL (j:=0) rfl));rw[zf];refine zI (CU (x:=.fl ((ris [x,(x+1) % (zA.length:Int)]).map D.int)) ((J4 (c:=[x,(x+1) % (zA.length:Int)]) (x:=.fl [.int x,.int ((x+1) % (zA.length:Int))]) (KI (zZ ex (zp (zG (zG ex rfl (zF (By.mpr ⟨rfl,rfl⟩))) (GR rfl) (EM (by omega))))) (by simp)) Cy (by simp)).trans (by rw[k1])) Cy) ?_;rw[zQ];exact ⟨rfl,rfl,_,rfl,k2,by omega⟩
   .exact JT (et.trans (by rw[AS (by omega)])) ⟨rfl,rfl,R0,rfl,sR0,by omega⟩
  rintro o Y A ⟨rfl,rfl,R,rfl,sR,hR2⟩;rw[zR];have bl:∀ w,Wd l w->(broR zA R w).length=R.length:=λw hw=>Nm m hij w sR hw;have hRl:=sR.len;rw[zM,zf];refine Du.mpr (Er.mpr (Cu (m:=(R.length:Int)-1) nwA.gen (by omega) rfl (zG (IA (S:=R) rfl) rfl (zF (Hj.mpr ⟨rfl,rfl⟩))) (by omega) (by omega) λv A3 v0 v1 nw3 _=>By.mpr ?_));rw[zQ,zR];have hmany:(1:Int)+v<R.length:=by omega
  generalize (1:Int)+v=many at hmany;show OkS (zO _ _ [some (.ref 0),some (.ref 1),some d2,some (mD zA),some (tI R),some (.int many),y6,y7,y8,y9,ya,yb,yc,yd] A3) _;obtain ⟨r1,hf1⟩:=JD (due:=λS=>decide ((S.length:Int)<=many)) m h9 sR;have q1:=Ia (M:=A3) (due:=λS=>decide ((S.length:Int)<=many)) (many:=many) (goal:=.non) m h9 hl9 sR (λS M _=>MB) hf1 (λw hw=>AS (by rw[bl w hw];omega)) nw3.gen.wf;refine C5 (JJ (Bm (zZ (d:=mD zA) rfl (zZ (d:=tI R) rfl (zZ (Bm (zZ (d:=mD zA) rfl (zZ (d:=tI R) rfl (zp (d:=.int many) rfl))) (Qk m h9 hl9 sR hf1)) (zZ (d:=.int many) rfl (zp (d:=.non) rfl))))) q1)) ?_;rw[zM,zf];refine Cu (m:=(zA.length:Int)) nw3.gen (by omega) rfl (GR rfl) (by omega) (by omega) λfirst A4 f0 f1 nw4 _=>?_
  rw[zQ,zR];show OkS (zO _ _ [some (.ref 0),some (.ref 1),some d2,some (mD zA),some (tI R),some (.int many),some (.int first),y7,y8,y9,ya,yb,yc,yd] A4) _;obtain ⟨_,A5,e5,⟨u,rfl,u0,u1⟩,nw5,_⟩:=Hd nw4.gen (m:=(R.length:Int)-1) (by omega) (by omega) (by omega);have hgo:Ok (zj [8] (zl (zD (toD (fOp zt (fC (.int 1)) (zW zS (zD (toD (zC 1)) (zD (toD (fOp Cb (fB zg (zE (zC 4) zJ)) (fC (.int 1)))) zL))))) zL)) (gN 8) zu (fOp CD (fOp zt (zC 6) (fOp DI (fC (.int 2)) (zC 8))) (fB zg (zE (zC 3) zJ))) [some (.ref 0),some (.ref 1),some d2,some (mD zA),some (tI R),some (.int many),some (.int first),y7,y8,y9,ya,yb,yc,yd] A4) λx A=>A5=A /\ ∃ c:List Int,x=.fl (c.map D.int)/\c.length<R.length:=by
   refine GP.mpr ⟨_,_,_,VZ (Io (x:=.dat (.int 1)) rfl (Bm (zZ (d:=.ref 1) rfl (zp (zG (IA (S:=R) rfl) rfl (zF (Hj.mpr ⟨rfl,rfl⟩))))) e5) (zF (By.mpr ⟨rfl,rfl⟩))) (by omega) (by omega),by rw[HD];exact za (by omega),?_⟩;refine Ok.mono (Ku (n:=(1+u).toNat) (I:=λk acc A=>A=A5 /\ ∃ c:List Int,acc=c.map D.int/\c.length=k) ?_ ⟨rfl,[],rfl,rfl⟩) ?_
   .rintro k acc A hk ⟨rfl,c,rfl,hc⟩;refine ⟨_,rfl,?_⟩;refine zI (zG (zG (x:=.dat (.int first)) rfl (zG (x:=.dat (.int 2)) (y:=.dat (.int (k:Nat))) rfl rfl (Hh (by omega))) (zF (By.mpr ⟨rfl,rfl⟩))) (GR rfl) (EM (by omega))) ?_;rw[zQ];exact ⟨rfl,c++[_],by rw[Br];rfl,by simp[hc]⟩
   .rintro ys A ⟨rfl,c,rfl,hc⟩;exact ⟨rfl,c,rfl,by omega⟩
  obtain ⟨_,_,eg,rfl,c,rfl,hcl⟩:=hgo;rw[zM,zf];refine zI (LK (f:=fB CS (zE (zj [8] (zl (zD (toD (fOp zt (fC (.int 1)) (zW zS (zD (toD (zC 1)) (zD (toD (fOp Cb (fB zg (zE (zC 4) zJ)) (fC (.int 1)))) zL))))) zL)) (gN 8) zu (fOp CD (fOp zt (zC 6) (fOp DI (fC (.int 2)) (zC 8))) (fB zg (zE (zC 3) zJ)))) zJ)) (xs:=(Ay c).map D.int) ((VG eg).trans (by unfold CS;dsimp only;rw[show Ai _ (.fl (c.map D.int))=some (c.map D.int)from Cy];dsimp only;rw[DU];dsimp only;rw[AD (by omega)]))) ?_;rw[zQ,zR];have hsl:(Ay c).length=c.length:=(Eh c).length_eq;generalize Ay c=G0 at hsl;show OkS (zO _ _ [some (.ref 0),some (.ref 1),some d2,some (mD zA),some (tI R),some (.int many),some (.int first),some (tI G0),y8,y9,ya,yb,yc,yd] _) _;obtain ⟨G,hG,eG⟩:=UB (G0:=G0) (Y:=[some (.ref 0),some (.ref 1),some d2,some (mD zA),some (tI R),some (.int many),some (.int first),some (tI G0),y8,y9,ya,yb,yc,yd]) (by omega) (λ_ _=>rfl) rfl (λ_ _=>rfl) (λ_ _=>rfl);refine Fz eG ?_;obtain ⟨r2,hf2⟩:=JD (due:=λS=>inR S G) m h9 sR;have q2:=Ia (M:=A5) (due:=λS=>inR S G) (many:=0) (goal:=tI G) m h9 hl9 sR (λS M s=>Qt (by have:=s.len;omega)) hf2 (λw hw=>by
   cases hb:inR (broR zA R w) G with
   |false=>rfl
   |true=>
    have h3:=Zu hb (V6 (m.broR w sR hw));rw[bl w hw]at h3;omega) nw5.gen.wf
  refine C5 (JJ (Bm (zZ (d:=mD zA) rfl (zZ (d:=tI R) rfl (zZ (Bm (zZ (d:=mD zA) rfl (zZ (d:=tI R) rfl (zp (d:=tI G) rfl))) (Qq m h9 hl9 sR hf2)) (zZ (d:=.int 0) rfl (zp (d:=tI G) rfl))))) q2)) ?_;rw[zM,bR];refine FC.mpr (zI (zp (d:=.ref 1) rfl) (Ok.mono (Vq nw5.gen (by omega)) ?_));clear q1 q2 hf1 hf2 eG eg e5 bl;rintro d A6 ⟨⟨rows',l',P,Q,rfl,m',h9',hl4',sP,sQ,clP,clQ,dj⟩,nw6⟩;have hl9':l'<=1000:=by omega
  rw[zQ];refine ⟨_,rfl,?_⟩;rw[zR,zM,zf];refine FC.mpr (zI (zZ (d:=.ref 1) rfl (zp (GR rfl))) ?_);have r0':=m'.r0;refine Ok.mono (Nf nw6.gen (by omega) (by omega) (by omega)) ?_;rintro d A7 ⟨⟨R1,rfl,tp,t0,tm⟩,nw7,_⟩;rw[zQ,zR];show OkS (zO _ _ [some (.ref 0),some (.ref 1),some d2,some (mD rows'),some (tI R1),some (.int many),some (.int first),some (tI G),y8,y9,some (tI P),some (tI Q),yc,yd] A7) _;have hP0:=sP.n0;have hQ0:=sQ.n0;have hPl:=sP.len;have hQl:=sQ.len;obtain ⟨_,A8,e8,⟨a,rfl,a0,a1⟩,nw8,_⟩:=Hd nw7.gen (m:=(P.length:Int)) (by omega) (by omega) (by omega);obtain ⟨_,A9,e9,⟨b,rfl,b0,b1⟩,nw9,_⟩:=Hd nw8.gen (m:=(Q.length:Int)) (by omega) (by omega) (by omega);have ha:a.toNat<P.length:=by omega
  have hb:b.toNat<Q.length:=by omega
  rw[zM,zf];refine zI (KI (ds:=[.int P[a.toNat],.int Q[b.toNat]]) (aD (Io (x:=.dat (tI P)) rfl (Bm (zZ (d:=.ref 1) rfl (zp (IA (S:=P) rfl))) e8) (BM zV (EJ a0 (by rw[AR,AJ ha];rfl)))) (aD (Io (x:=.dat (tI Q)) rfl (Bm (zZ (d:=.ref 1) rfl (zp (IA (S:=Q) rfl))) e9) (BM zV (EJ b0 (by rw[AR,AJ hb];rfl)))) rfl)) (by simp)) (D2 ?_);rw[zR];have hxP:P[a.toNat]∈P:=Aq ha;have hyQ:Q[b.toNat]∈Q:=Aq hb;generalize P[a.toNat]=x at hxP;generalize Q[b.toNat]=y at hyQ;have nwB:=nw9.trans (nw9.gen.lst [.int x,.int y] (CT _ [x,y]));have eB:(A9++[MO.lst [D.int x,D.int y]])[A9.length]?=some (.lst [.int x,.int y]):=FN _ _;generalize A9++[MO.lst [D.int x,D.int y]]=B at nwB eB;generalize A9.length=j at eB;show OkS (zO _ _ [some (.ref 0),some (.ref 1),some d2,some (mD rows'),some (tI R1),some (.int many),some (.int first),some (tI G),y8,y9,some (tI P),some (tI Q),some (.ref j),yd] B) _;have hl1:R1.length<=9:=Ak (IsS.len ⟨tp,t0,tm⟩) h9';refine Fz (d:=tI (ris (R1++[x,y]))) (CU (x:=.fl ((ris (R1++[x,y])).map D.int)) (Ov (ks:=R1++[x,y]) (Z3 (x:=.fl ((R1++[x,y]).map D.int)) ((zG (ZD (x:=.dat (tI R1)) rfl zV) (y:=.dat (.ref j)) rfl (d4 rfl (mlR eB) (by rw[AG];simp;omega))).trans (by rw[Br];rfl)) Cy (by simp;omega)) (Nat.lt_of_le_of_lt (Hu _) (by simp;omega))) Cy) ?_;have sW:IsS rows' (ris (R1++[x,y])):=⟨GF _,HY (by simp),λz hz=>by
   rcases AV.mp ((DH _ z).mp hz)with q|q
   .exact tm z q
   .simp only[AL,Cv,or_false]at q;rcases q with rfl|rfl
    .exact sP.mem _ hxP
    .exact sQ.mem _ hyQ⟩
  have hWP:∃ z∈ris (R1++[x,y]),z∈P:=⟨x,(DH _ _).mpr (by simp),hxP⟩;have hWQ:∃ z∈ris (R1++[x,y]),z∈Q:=⟨y,(DH _ _).mpr (by simp),hyQ⟩;generalize ris (R1++[x,y])=W at sW hWP hWQ;show OkS (zO _ _ [some (.ref 0),some (.ref 1),some d2,some (mD rows'),some (tI W),some (.int many),some (.int first),some (tI G),y8,y9,some (tI P),some (tI Q),some (.ref j),yd] B) _;obtain ⟨r3,hf3⟩:=JD (due:=λS=>decide ((S.length:Int)<=1)) m' h9' sW;have q3:=Ia (M:=B) (due:=λS=>decide ((S.length:Int)<=1)) (many:=1) (goal:=.non) m' h9' hl9' sW (λS M _=>MB) hf3 (λw hw=>by
   obtain ⟨p1,hp1,hp2⟩:=HV m' clP w sW hw hWP;obtain ⟨q1,hq1,hq2⟩:=HV m' clQ w sW hw hWQ;refine AS λhle=>?_;have h3:(broR rows' W w).length<=1:=by omega
   match hbw:broR rows' W w,h3 with
   |[],_=>rw[hbw]at hp1;cases hp1
   |[z],_=>
    rw[hbw]at hp1 hq1;rw[AU.mp hp1]at hp2;rw[AU.mp hq1]at hq2;exact dj z hp2 hq2
   |_::_::_,h3=>simp at h3) nwB.gen.wf
  refine C5 (JJ (Bm (zZ (d:=mD rows') rfl (zZ (d:=tI W) rfl (zZ (Bm (zZ (d:=mD rows') rfl (zZ (d:=tI W) rfl (zp (d:=.int 1) rfl))) (Qk m' h9' hl9' sW hf3)) (zZ (d:=.int 1) rfl (zp (d:=.non) rfl))))) q3)) ?_;rw[Bq];refine ⟨_,_,_,Fq (QR (ds:=[tI P,tI Q]) (zZ (d:=tI P) rfl (zp (d:=tI Q) rfl)) (by simp)) zV,?_⟩;refine D7 (I:=λr Y B'=>B'=B /\ ∃ (gs:Ya) (y13:Option D),r=gs.map tI/\(∀ T∈gs,∀ w,Wd l' w->inR (broR rows' W w) T=false)/\Y=[some (.ref 0),some (.ref 1),some d2,some (mD rows'),some (tI W),some (.int many),some (.int first),some (tI G),y8,y9,some (tI P),some (tI Q),some (.ref j),y13]) ?_ ?_ _ _ _ ⟨rfl,[P,Q],_,rfl,?_,rfl⟩
  .rintro z r Y B' ⟨rfl,gs,y13,hgs,hno,rfl⟩;cases gs with
   |nil=>cases hgs
   |cons T gs=>
    obtain ⟨rfl,rfl⟩:=Ci hgs;refine ⟨zh,_,rfl,?_⟩;show OkS (sIf _ _ _ [some (.ref 0),some (.ref 1),some d2,some (mD rows'),some (tI W),some (.int many),some (.int first),some (tI G),y8,y9,some (tI P),some (tI Q),some (.ref j),some (tI T)] B') _;obtain ⟨r4,hf4⟩:=JD (due:=λS=>inR S T) m' h9' sW;have q4:=Ia (M:=B') (due:=λS=>inR S T) (many:=0) (goal:=tI T) m' h9' hl9' sW (λS M s=>Qt (by have:=s.len;omega)) hf4 (hno T AW) nwB.gen.wf;exact JT (JJ (Bm (zZ (d:=mD rows') rfl (zZ (d:=tI W) rfl (zZ (Bm (zZ (d:=mD rows') rfl (zZ (d:=tI W) rfl (zp (d:=tI T) rfl))) (Qq m' h9' hl9' sW hf4)) (zZ (d:=.int 0) rfl (zp (d:=tI T) rfl))))) q4)) ⟨rfl,gs,_,rfl,λU hU=>hno U (Am _ hU),rfl⟩
  .rintro Y B' ⟨rfl,gs,y13,_,_,rfl⟩;exact ⟨zh,⟨_,_,_,_,_,_,_,_,_,_,_,_,rfl⟩,nwB.gen.mono (by omega)⟩
  .intro T hT w hw;cases hbw:inR (broR rows' W w) T with
   |false=>rfl
   |true=>
    have hin:∀ z∈broR rows' W w,z∈T:=λz hz=>Bv (Ab.mp hbw z hz);simp only[AL,Cv,or_false]at hT;rcases hT with rfl|rfl
    .obtain ⟨q1,hq1,hq2⟩:=HV m' clQ w sW hw hWQ;exact absurd hq2 (dj q1 (hin q1 hq1))
    .obtain ⟨p1,hp1,hp2⟩:=HV m' clP w sW hw hWP;exact absurd (hin p1 hp1) (dj p1 hp2)
 .rintro Y M ⟨⟨y2,y3,y4,y5,y6,y7,y8,y9,ya,yb,yc,yd,rfl⟩,gen⟩;rw[zR];exact zk rfl rfl
end Lae
set_option maxHeartbeats 4000000
namespace Lae
open L2 L3 Law
-- the text by places
noncomputable def top (i:Nat):Stmt:=PySem.Challenge.pw_bringhome_k14_none_where_none_does.main.body.getD i (.Pass ⟨0,0,0,0⟩)
noncomputable abbrev Ks:Stmt:=top 1
noncomputable abbrev Jn:Stmt:=top 3
noncomputable abbrev K8:Stmt:=top 5
noncomputable abbrev Kz:Stmt:=top 6
noncomputable abbrev Hk:Stmt:=top 7
noncomputable abbrev HN:Stmt:=top 8
noncomputable abbrev K0:Stmt:=top 10
noncomputable abbrev Ln:Stmt:=top 11
noncomputable abbrev Jx:Stmt:=top 12
noncomputable abbrev LF:Stmt:=top 13
noncomputable abbrev Kn:Stmt:=top 14
noncomputable abbrev Jt:Stmt:=top 15
noncomputable abbrev Ky:Stmt:=top 16
noncomputable abbrev Ja:Stmt:=top 17
noncomputable abbrev KS:Stmt:=top 18
noncomputable abbrev KJ:Stmt:=top 19
noncomputable abbrev Ld:Stmt:=top 20
noncomputable abbrev K4:Stmt:=top 21
noncomputable abbrev Kr:Stmt:=top 22
structure Txt (K:Yb) (mg:Yh) where
  kA:Df K mg "is_within" Ks ["rooms", "goal"]
  kB:Df K mg "stepped" Jn ["machine", "rooms", "letter"]
  kC:Df K mg "next_level" K8 ["machine", "level", "seen"]
  kD:Df K mg "searched" Kz ["machine", "rooms", "is_due"]
  kE:Df K mg "least_word" Hk ["machine", "rooms", "many"]
  kF:Df K mg "word_into" HN ["machine", "rooms", "goal"]
  kG:Df K mg "_law_begin" K0 ["_law_script"]
  kJ:Df K mg "_law_next" Ln ["_law_state", "_law_many"]
  kK:Df K mg "_law_exchanged" Jx ["_law_rows", "_law_joins"]
  kL:Df K mg "_law_set" LF ["_law_state", "_law_rooms"]
  kM:Df K mg "_law_step" Kn ["_law_machine_here", "_law_rooms", "_law_letter"]
  kN:Df K mg "_law_fits" Jt ["_law_found", "_law_many", "_law_goal_set"]
  kO:Df K mg "_law_is_set" Ky ["_law_thing", "_law_many_here"]
  kP:Df K mg "_law_are_levels" Ja ["_law_machine", "_law_thing"]
  kQ:Df K mg "_law_shown" KS ["_law_machine", "_law_rooms_here", "_law_shown_here", "_law_closed"]
  kR:Df K mg "_law_exchanging" KJ ["_law_state_here"]
  kS:Df K mg "_law_parted" Ld ["_law_state_here"]
  kU:Df K mg "_law_none" K4 ["_law_machine", "_law_rooms_here", "_law_told", "_law_many_here", "_law_goal"]
  kW:Df K mg "law" Kr ["_law_script_here"]
  kX:mg "all" = none
  kY:mg "tuple" = none
  kZ:mg "sorted" = none
  kAA:mg "range" = none
  kAB:mg "len" = none
  kAC:mg "list" = none
  kAD:mg "int" = none
  kAE:mg "isinstance" = none
  kAF:mg "bool" = none
  kAG:mg "min" = none
  kAH:mg "any" = none
  kAI:mg "set" = none
  kAJ:mg "enumerate" = none
  tc_least_word:Addr
  tp_least_word:Addr
  t_least_word:PySem.W.tabIn K "least_word" = some (tc_least_word,tp_least_word)
  h_least_word:PySem.W.codeHdIn K tc_least_word tp_least_word=true
  c_least_word:kE.fd.code=.ref tc_least_word
  tc_word_into:Addr
  tp_word_into:Addr
  t_word_into:PySem.W.tabIn K "word_into" = some (tc_word_into,tp_word_into)
  h_word_into:PySem.W.codeHdIn K tc_word_into tp_word_into=true
  c_word_into:kF.fd.code=.ref tc_word_into
  kinds:Kinds K
section
variable {P:Ym} {w:Yo} {K:Yb} {mg:Yh} {base:Heap}
def JK {X:Cx} {scope sc:Y0} {own:Yj} {N ps:Yk} (_:FnScope N ps sc) (hk:scope.kind=.function) (hs:X.env.scope=sc) (hN:X.N=N) (h1:JG sc scope=true) (h2:Iw N scope own=true):CompIn X scope own:=Nv hk hs hN h1 h2
def bI {X:Cx} {scope sc sd:Y0} {own:Yj} {N ps:Yk} (_:FnScope N ps sd) (hk:scope.kind=.function) (hs:X.env.scope=sc) (hN:X.N=N) (h1:JG sc scope=true) (h2:Iw N scope own=true):CompIn X scope own:=Nv hk hs hN h1 h2
set_option hygiene false in
local macro_rules | `(tactic| decreasing_trivial)=> `(tactic| repeat' first
  |refine EH (pv _)
  |refine BB ?_
  |refine Kq ?_ ?_ (zK rfl)
  |refine FP ?_
  |refine IB
  |refine dQ ?_ ?_
  |refine Po ?_ ?_ (zK rfl)
  |refine Sb
  |refine Py
  |refine Jg ?_
  |refine G1
  |refine Q4 sc.nd rfl
  |refine Ma (by first|exact RS T|exact Xl T|exact Uz T|exact Wj T|exact YT T|exact Tp T|exact bM T|exact aW T|exact Zb T|exact Ta T|exact XF T|exact bN T|exact VX T|exact WM T|exact Zw T|exact WK T) (hr.mono (by omega)) rfl ?_ ?_ (by decide) (zK rfl) (D9 rfl)
  |refine Kk ?_
  |refine UE ?_ ?_
  |refine Mv rfl T.kAB ?_ (zK rfl) rfl
  |refine Ts ?_ ?_ ?_
  |refine T5
  |refine cC ?_ ?_
  |refine XE
  |refine d6
  |refine WY rfl T.kY ?_ (zK rfl) rfl
  |refine Sw rfl T.kAA ?_ ?_ (Xp rfl)
  |refine Np aI PassesOwn.never rfl ?_ ?_ ?_
  |refine UC ?_
  |refine U0
  |refine Lf (Iz (by decide)) (JK sc rfl rfl rfl (by decide+kernel) (by decide+kernel)) rfl ?_ ⟨λ_ _ _ _ _=>?_,λ_ _ _ _ _=>?_,λ_ _ _ _ _=>?_⟩
  |refine dD ?_
  |refine aF ?_
  |refine UX (Hm hr) ?_ ?_
  |refine XR ?_ ?_
  |refine UU ?_ ?_
  |refine bF hr.units0 ?_ ?_
  |refine Y9 ?_ ?_
  |refine VS rfl rfl T.kX ?_ (zK rfl) rfl
  |refine eO (Hm hr) ?_ ?_ ?_
  |refine Q5 ?_
  |refine Vw ?_
  |refine RM ?_ ?_
  |refine XM rfl T.kZ ?_ (zK rfl) rfl
  |refine Uv ?_
  |refine aR ?_ ?_ ?_
  |refine Sq
  |refine Jw T.kinds (by decide) rfl T.kAE rfl T.kY (by rfl) (by decide) (by decide) ?_ (zK rfl) (zK rfl) (D9 rfl)
  |refine SY
  |refine Za rfl ?_
  |refine Tt ?_ ?_
  |refine WR ?_
  |refine TK
  |refine XN ?_
  |refine RH ?_ ?_ ?_
  |refine Zh ?_ ?_
  |refine Zi rfl rfl T.kZ ?_ (zK rfl) rfl
  |refine Tj rfl T.kAC ?_ (zK rfl) rfl
  |refine Rh rfl T.kAD ?_ (zK rfl) rfl
  |refine UG ?_ ?_
  |refine Tg ?_ ?_
  |refine YJ ?_ ?_
  |refine U9 ?_ ?_
  |refine dH ?_ ?_
  |refine Y6 ?_ ?_
  |refine RA ?_ ?_
  |refine Ti ?_ ?_
  |refine YW
  |refine aV ?_
  |refine Np (eW (K:=K)) PassesOwn.never rfl ?_ ?_ ?_
  |refine Wk ?_
  |refine SM (Hm hr) ?_ ?_
  |refine WH (Hm hr) ?_ ?_ ?_ ⟨rfl,rfl,rfl,rfl⟩
  |refine Sf hr.units0 ?_ ?_
  |refine Zo rfl rfl T.kAH ?_ (zK rfl) rfl
  |refine aA (Iz (by decide)) (JK sc rfl rfl rfl (by decide+kernel) (by decide+kernel)) rfl ?_ ⟨λ_ _ _ _ _=>?_,λ_ _ _ _ _=>?_,λ_ _ _ _ _=>?_⟩
  |refine Z8 hr.units0 ?_ ?_
  |refine Wm ?_ ?_ ?_ ?_ ?_ ?_
  |refine TX ?_ ?_
  |refine cU ?_ ?_
  |refine OZ ?_ ?_
  |refine Jw T.kinds (by decide) rfl T.kAE rfl T.kAD (by rfl) (by decide) (by decide) ?_ (zK rfl) (zK rfl) (D9 rfl)
  |refine Jw T.kinds (by decide) rfl T.kAE rfl T.kAF (by rfl) (by decide) (by decide) ?_ (zK rfl) (zK rfl) (D9 rfl)
  |refine UO (FJ λ_ _ _ _=>CI) (FJ λ_ _ _ _=>CI) PK Ko ?_ ?_ ?_
  |refine cN ?_
  |refine Z1 ?_ ?_
  |refine Ug (Hm hr) ?_ ?_
  |refine d5 rfl rfl T.kY rfl T.kAA ?_ (zK rfl) rfl (zK rfl) rfl
  |refine Uw sc.nd rfl (by first|exact Or.inl rfl|exact Or.inr rfl) (by first|exact .inl rfl|exact .inr rfl) rfl (Iz (by decide)) (JK sc rfl rfl rfl (by decide+kernel) (by decide+kernel)) rfl ?_ ⟨λ_ _ _ _ _=>?_,λ_ _ _ _ _=>?_,λ_ _ _ _ _=>?_⟩
  |refine aB ?_
  |refine WL hL (hr.mono (by omega)) rfl ?_ ?_ (by first|exact Or.inl rfl|exact Or.inr (Or.inl rfl)|exact Or.inr (Or.inr rfl)) (by decide) (by decide) (zK rfl) (D9 rfl)
  |refine Tz rfl rfl T.kZ ?_ (zK rfl) rfl
  |refine U8 _ PassesOwn.never ?_ ?_
  |refine RV (Tr 1 (by decide) hr) ?_ ?_
  |refine Rr rfl rfl T.kAG ?_ (zK rfl) (D9 rfl)
  |refine Nu ?_ ?_
  |refine Lf (Iz (by decide)) (bI sc rfl rfl rfl (by rfl) (by decide+kernel)) rfl ?_ ⟨λ_ _ _ _ _=>?_,λ_ _ _ _ _=>?_,λ_ _ _ _ _=>?_⟩
  |refine bY rfl T.kAJ ?_ (zK rfl) rfl
  |refine Lf (Vy (K:=K) (by decide) (by decide)) (JK sc rfl rfl rfl (by decide+kernel) (by decide+kernel)) rfl ?_ ⟨λ_ _ _ _ _=>?_,λ_ _ _ _ _=>?_,λ_ _ _ _ _=>?_⟩
  |refine WJ (Tf (K:=K)) ?_ ?_
  |refine aX rfl rfl T.kAI ?_ (zK rfl) rfl
  |refine YB sc.nd rfl ?_
  |refine Zq (Nu ?_ ?_)
  |refine WC ?_)
noncomputable abbrev R4:List Str:=["rooms", "goal", "room"]
def Vt:FnScope R4 ["rooms", "goal"] (zN Ks):=by constructor<;>first|rfl|decide+kernel
def WN (T:Txt K mg):Od P w base 1 T.kA Hq:=by
  unfold Hq;have sc:=Vt;exact FQ (B4 (n:=2) T.kA.F sc rfl (λcdv A outer s H E hr=>by
    unfold KA;decreasing_trivial))
noncomputable abbrev cP:List Str:=["machine", "rooms", "letter", "room"]
def X7:FnScope cP ["machine", "rooms", "letter"] (zN Jn):=by constructor<;>first|rfl|decide+kernel
def Tp (T:Txt K mg):Od P w base 1 T.kB GY:=by
  unfold GY;have sc:=X7;exact FQ (B4 (n:=3) T.kB.F sc rfl (λcdv A outer s H E hr=>by
    unfold Ly;decreasing_trivial))
noncomputable abbrev WA:List Str:=["_law_script"]
def Xh:FnScope WA ["_law_script"] (zN K0):=by constructor<;>first|rfl|decide+kernel
def WM (T:Txt K mg):Od P w base 1 T.kG Hv:=by
  unfold Hv;have sc:=Xh;exact B4 (n:=1) T.kG.F sc rfl (λcdv A outer s H E hr=>by
    unfold Ls;decreasing_trivial)
noncomputable abbrev bB:List Str:=["_law_state", "_law_many", "_law_cell", "_law_at", "_law_mixed", "_law_digit"]
def SS:FnScope bB ["_law_state", "_law_many"] (zN Ln):=by constructor<;>first|rfl|decide+kernel
def RS (T:Txt K mg):Od P w base 1 T.kJ zS:=by
  unfold zS;have sc:=SS;exact B4 (n:=2) T.kJ.F sc rfl (λcdv A outer s H E hr=>by
    unfold Lc;decreasing_trivial)
noncomputable abbrev Vc:List Str:=["_law_rows", "_law_joins", "_law_letter", "_law_order", "_law_room", "_law_last"]
def TC:FnScope Vc ["_law_rows", "_law_joins"] (zN Jx):=by constructor<;>first|rfl|decide+kernel
def aW (T:Txt K mg):Od P w base 1 T.kK Hg:=by
  unfold Hg;have sc:=TC;exact B4 (n:=2) T.kK.F sc rfl (λcdv A outer s H E hr=>by
    unfold La;decreasing_trivial)
noncomputable abbrev Ud:List Str:=["_law_machine_here", "_law_rooms", "_law_letter", "_law_found", "_law_room"]
def dI:FnScope Ud ["_law_machine_here", "_law_rooms", "_law_letter"] (zN Kn):=by constructor<;>first|rfl|decide+kernel
def XF (T:Txt K mg):Od P w base 1 T.kM F4:=by
  unfold F4;have sc:=dI;exact FQ (B4 (n:=3) T.kM.F sc rfl (λcdv A outer s H E hr=>by
    unfold Lv;decreasing_trivial))
noncomputable abbrev SV:List Str:=["_law_found", "_law_many", "_law_goal_set", "_law_room"]
def Qy:FnScope SV ["_law_found", "_law_many", "_law_goal_set"] (zN Jt):=by constructor<;>first|rfl|decide+kernel
def VX (T:Txt K mg):Od P w base 1 T.kN DB:=by
  unfold DB;have sc:=Qy;exact FQ (B4 (n:=3) T.kN.F sc rfl (λcdv A outer s H E hr=>by
    unfold Ig;decreasing_trivial))
noncomputable abbrev TV:List Str:=["_law_thing", "_law_many_here", "_law_one", "_law_k"]
def XB:FnScope TV ["_law_thing", "_law_many_here"] (zN Ky):=by constructor<;>first|rfl|decide+kernel
def bM (T:Txt K mg):Od P w base 1 T.kO GX:=by
  unfold GX;have sc:=XB;exact B4 (n:=2) T.kO.F sc rfl (λcdv A outer s H E hr=>by
    unfold Jb;decreasing_trivial)
noncomputable abbrev Rk:List Str:=["machine", "level", "seen", "behind", "some", "word", "letter", "goal"]
def Wo:FnScope Rk ["machine", "level", "seen"] (zN K8):=by constructor<;>first|rfl|decide+kernel
def Zb (T:Txt K mg):Od P w base 2 T.kC Gy:=by
  unfold Gy;have sc:=Wo;exact B4 (n:=3) T.kC.F sc rfl (λcdv A outer s H E hr=>by
    unfold Kb;decreasing_trivial)
noncomputable abbrev Wa:List Str:=["_law_state", "_law_rooms", "_law_some", "_law_room"]
def Ri:FnScope Wa ["_law_state", "_law_rooms"] (zN LF):=by constructor<;>first|rfl|decide+kernel
def Uz (T:Txt K mg):Od P w base 2 T.kL GJ:=by
  unfold GJ;have sc:=Ri;exact IM (B4 (n:=2) T.kL.F sc rfl (λcdv A outer s H E hr=>by
    unfold JU;decreasing_trivial))
noncomputable abbrev aU:List Str:=["_law_machine", "_law_thing", "_law_level", "_law_one"]
def XO:FnScope aU ["_law_machine", "_law_thing"] (zN Ja):=by constructor<;>first|rfl|decide+kernel
def Ta (T:Txt K mg):Od P w base 2 T.kP HU:=by
  unfold HU;have sc:=XO;exact B4 (n:=2) T.kP.F sc rfl (λcdv A outer s H E hr=>by
    unfold Jk;decreasing_trivial)
noncomputable abbrev Wt:List Str:=["_law_state_here", "_law_many_here", "_law_letters", "_law_rows_here", "_law_room_here", "_law_letter_here", "_law_row"]
def cV:FnScope Wt ["_law_state_here"] (zN KJ):=by constructor<;>first|rfl|decide+kernel
def Zw (T:Txt K mg):Od P w base 2 T.kR Hb:=by
  unfold Hb;have sc:=cV;exact IM (B4 (n:=1) T.kR.F sc rfl (λcdv A outer s H E hr=>by
    unfold JN;decreasing_trivial))
noncomputable abbrev VA:List Str:=["_law_state_here", "_law_first", "_law_many_here", "_law_letters", "_law_order_here", "_law_room_here", "_law_rows_here", "_law_k", "_law_letter_here"]
def cD:FnScope VA ["_law_state_here"] (zN Ld):=by constructor<;>first|rfl|decide+kernel
def WK (T:Txt K mg):Od P w base 2 T.kS HS:=by
  unfold HS;have sc:=cD;exact IM (B4 (n:=1) T.kS.F sc rfl (λcdv A outer s H E hr=>by
    unfold JB;decreasing_trivial))
noncomputable abbrev Zr:List Str:=["machine", "rooms", "is_due", "seen", "level", "shown", "some", "word"]
def X0:FnScope Zr ["machine", "rooms", "is_due"] (zN Kz):=by constructor<;>first|rfl|decide+kernel
def Pm (T:Txt K mg) {gL:List D->FF} {lL:Lm} (hL:LamOk P w K mg base 2 lL 1 gL):Od P w base 3 T.kD (E6 gL lL):=by
  unfold E6;have sc:=X0;exact FQ (B4 (n:=3) T.kD.F sc rfl (λcdv A outer s H E hr=>by
    unfold Ii;decreasing_trivial))
noncomputable abbrev WV:List Str:=["_law_machine", "_law_rooms_here", "_law_shown_here", "_law_closed", "_law_places", "_law_k", "_law_one", "_law_letter_here"]
def ZC:FnScope WV ["_law_machine", "_law_rooms_here", "_law_shown_here", "_law_closed"] (zN KS):=by constructor<;>first|rfl|decide+kernel
def bN (T:Txt K mg):Od P w base 3 T.kQ Hf:=by
  unfold Hf;have sc:=ZC;exact IM (B4 (n:=4) T.kQ.F sc rfl (λcdv A outer s H E hr=>by
    unfold Kt;decreasing_trivial))
noncomputable abbrev ZR:List Str:=["machine", "rooms", "many"]
def To:FnScope ZR ["machine", "rooms", "many"] (zN Hk):=by constructor<;>first|rfl|decide+kernel
def bV (T:Txt K mg) {l:Lm} (h:NX base l Hk ["many"]):LamOk P w K mg base 2 l 1 IP :=
  (Na (k:=0) (N:=["some", "many"]) (ps:=["some"]) h ⟨rfl,rfl,rfl,by decide+kernel,rfl,by decide+kernel,by decide+kernel,by decide+kernel,λ_ _ _ _ _=>GN λ_=>rfl⟩ (λq cd cl A outer s H hr=>BB (OZ (Mv rfl T.kAB (Po (EH (pv 0)) Py (zK rfl)) (zK rfl) rfl) (EH (pv 1))))).mono (by omega)
def Wj (T:Txt K mg):Od P w base 4 T.kE G4:=by
  unfold G4;exact FQ (N1 (n:=3) T.kE.F To rfl T.c_least_word (λA outer s H E hr=>by
    unfold LM;exact (Jg (Kk (P0 (fs:=["many"]) (idx:=[2]) (λbase' l hA=>Pm T (bV T hA)) (λ_=>rfl) (hr.mono (by omega)) rfl T.kD.m T.kD.F.kp T.kD.b (Iu (BB (EH (pv 0))) (Iu (BB (EH (pv 1))) (NI (y := "least_word") (sc0:=zN Hk) (by decide) T.t_least_word rfl T.h_least_word rfl (by decide+kernel) IB rfl rfl (zK rfl)) (zK rfl)) (zK rfl)) (Mg (FP (FP G1)) G1 rfl) rfl (Pp ⟨rfl,rfl,by decide+kernel⟩) (by decide) (zK rfl) (D9 rfl))))))
noncomputable abbrev aQ:List Str:=["machine", "rooms", "goal"]
def RE:FnScope aQ ["machine", "rooms", "goal"] (zN HN):=by constructor<;>first|rfl|decide+kernel
def T3 (T:Txt K mg) {l:Lm} (h:NX base l HN ["goal"]):LamOk P w K mg base 2 l 1 JE :=
  (Na (k:=1) (N:=["some", "goal"]) (ps:=["some"]) h ⟨rfl,rfl,rfl,by decide+kernel,rfl,by decide+kernel,by decide+kernel,by decide+kernel,λ_ _ _ _ _=>GN λ_=>rfl⟩ (λq cd cl A outer s H hr=>BB (Ma (WN T) (hr.mono (by omega)) rfl (Kq (BB (EH (pv 0))) (Kq (BB (EH (pv 1))) IB (zK rfl)) (zK rfl)) (FP (FP G1)) (by decide) (zK rfl) (D9 rfl)))).mono (by omega)
def YT (T:Txt K mg):Od P w base 4 T.kF GZ:=by
  unfold GZ;exact FQ (N1 (n:=3) T.kF.F RE rfl T.c_word_into (λA outer s H E hr=>by
    unfold Jy;exact (Jg (Kk (P0 (fs:=["goal"]) (idx:=[2]) (λbase' l hA=>Pm T (T3 T hA)) (λ_=>rfl) (hr.mono (by omega)) rfl T.kD.m T.kD.F.kp T.kD.b (Iu (BB (EH (pv 0))) (Iu (BB (EH (pv 1))) (NI (y := "word_into") (sc0:=zN HN) (by decide) T.t_word_into rfl T.h_word_into rfl (by decide+kernel) IB rfl rfl (zK rfl)) (zK rfl)) (zK rfl)) (Mg (FP (FP G1)) G1 rfl) rfl (Pp ⟨rfl,rfl,by decide+kernel⟩) (by decide) (zK rfl) (D9 rfl))))))
noncomputable abbrev RW:List Str:=["_law_machine", "_law_rooms_here", "_law_told", "_law_many_here", "_law_goal", "_law_one", "_law_level"]
def Sm:FnScope RW ["_law_machine", "_law_rooms_here", "_law_told", "_law_many_here", "_law_goal"] (zN K4):=by constructor<;>first|rfl|decide+kernel
def Xl (T:Txt K mg):Od P w base 4 T.kU E3:=by
  unfold E3;have sc:=Sm;exact B4 (n:=5) T.kU.F sc rfl (λcdv A outer s H E hr=>by
    unfold K1;decreasing_trivial)
noncomputable abbrev Ss:List Str:=["_law_script_here", "_law_state_here", "_law_turn", "_law_machine", "_law_rooms_here", "_law_many_here", "_law_first", "_law_goal", "_law_k", "_law_room_here", "_law_one", "_law_other", "_law_more", "_law_part"]
def SQ:FnScope Ss ["_law_script_here"] (zN Kr):=by constructor<;>first|rfl|decide+kernel
def bK (T:Txt K mg):Od P w base 5 T.kW Ew:=by
  unfold Ew;have sc:=SQ;exact B4 (n:=1) T.kW.F sc rfl (λcdv A outer s H E hr=>by
    unfold K6;decreasing_trivial)
end
def Se {l:PySem.W.OpenLaw} {w:World} {K:PySem.W.Frag} {h:Heap} {mg:Str->Option Value} {fa:Addr} (X:K.In h) (G:h.Ns mainGlobals mg) (hfa:mg "law" = some (.ref fa))
    {ts:List Addr}(g1:Dg K "is_within" Ks) (g2:Dg K "stepped" Jn) (g3:Dg K "next_level" K8) (g4:Dg K "searched" Kz) (g5:Dg K "least_word" Hk) (g6:Dg K "word_into" HN) (g7:Dg K "_law_begin" K0) (g8:Dg K "_law_next" Ln) (g9:Dg K "_law_exchanged" Jx) (g10:Dg K "_law_set" LF) (g11:Dg K "_law_step" Kn) (g12:Dg K "_law_fits" Jt) (g13:Dg K "_law_is_set" Ky) (g14:Dg K "_law_are_levels" Ja) (g15:Dg K "_law_shown" KS) (g16:Dg K "_law_exchanging" KJ) (g17:Dg K "_law_parted" Ld) (g18:Dg K "_law_none" K4) (g19:Dg K "law" Kr) (z1:Zn K "all") (z2:Zn K "tuple") (z3:Zn K "sorted") (z4:Zn K "range") (z5:Zn K "len") (z6:Zn K "list") (z7:Zn K "int") (z8:Zn K "isinstance") (z9:Zn K "bool") (z10:Zn K "min") (z11:Zn K "any") (z12:Zn K "set") (z13:Zn K "enumerate") (y1:Ki K "NoneType" "int" false) (y2:Ki K "NoneType" "bool" false) (y3:Ki K "NoneType" "str" false) (y4:Ki K "NoneType" "tuple" false) (y5:Ki K "bool" "int" true) (y6:Ki K "bool" "bool" true) (y7:Ki K "bool" "str" false) (y8:Ki K "bool" "tuple" false) (y9:Ki K "int" "int" true) (y10:Ki K "int" "bool" false) (y11:Ki K "int" "str" false) (y12:Ki K "int" "tuple" false) (y13:Ki K "str" "int" false) (y14:Ki K "str" "bool" false) (y15:Ki K "str" "str" true) (y16:Ki K "str" "tuple" false) (y17:Ki K "list" "int" false) (y18:Ki K "list" "bool" false) (y19:Ki K "list" "str" false) (y20:Ki K "list" "tuple" false) (y21:Ki K "tuple" "int" false) (y22:Ki K "tuple" "bool" false) (y23:Ki K "tuple" "str" false) (y24:Ki K "tuple" "tuple" true) (y25:Ki K "dict" "int" false) (y26:Ki K "dict" "bool" false) (y27:Ki K "dict" "str" false) (y28:Ki K "dict" "tuple" false) (u5:Tb K "least_word" g5) (u6:Tb K "word_into" g6) (n0:Zn K "levels") (n1:Zn K "shows_least") (n2:Zn K "shows_into") (ht:(ts.all (λP=>([("least_word", u5.c,u5.P),("word_into", u6.c,u6.P)]:List (Str × Addr × Addr)).any (·.2.2==P))&&([("least_word", u5.c,u5.P),("word_into", u6.c,u6.P)]:List (Str × Addr × Addr)).all (λp=>ts.contains p.2.2))=true) :
    Au K ts /\ ∃ fd:FuncData,(∀ (s:Shared) (v:Value),BindsTo s fd ⟨[v],[]⟩ [("_law_script_here", v)]) /\ ∀ base:Heap,K.In base->base.Ns mainGlobals mg->FnOk l.prog w K mg base CX0 5 fa fd ["_law_script_here"] (spF K 1 Ew):=by
  have e:=hfa.symm.trans (PySem.W.mg_of X G g19.a);cases e;have kinds:Kinds K:=⟨by
    intro t T ht hT;simp only[AL,Cv,or_false]at ht hT;rcases ht with rfl|rfl|rfl|rfl|rfl|rfl|rfl <;> rcases hT with rfl|rfl|rfl|rfl <;> assumption⟩
  let T:Txt K mg:=⟨g1.df X G λ_ _ _ _ _ _=>G7 λ_ _=>rfl,g2.df X G λ_ _ _ _ _ _=>Fv λ_ _ _=>rfl,g3.df X G λ_ _ _ _ _ _=>Fv λ_ _ _=>rfl,g4.df X G λ_ _ _ _ _ _=>Fv λ_ _ _=>rfl,g5.df X G λ_ _ _ _ _ _=>Fv λ_ _ _=>rfl,g6.df X G λ_ _ _ _ _ _=>Fv λ_ _ _=>rfl,g7.df X G λ_ _ _ _ _ _=>GN λ_=>rfl,g8.df X G λ_ _ _ _ _ _=>G7 λ_ _=>rfl,g9.df X G λ_ _ _ _ _ _=>G7 λ_ _=>rfl,g10.df X G λ_ _ _ _ _ _=>G7 λ_ _=>rfl,g11.df X G λ_ _ _ _ _ _=>Fv λ_ _ _=>rfl,g12.df X G λ_ _ _ _ _ _=>Fv λ_ _ _=>rfl,g13.df X G λ_ _ _ _ _ _=>G7 λ_ _=>rfl,g14.df X G λ_ _ _ _ _ _=>G7 λ_ _=>rfl,g15.df X G λ_ _ _ _ _ _=>YA λ_ _ _ _=>rfl,g16.df X G λ_ _ _ _ _ _=>GN λ_=>rfl,g17.df X G λ_ _ _ _ _ _=>GN λ_=>rfl,g18.df X G λ_ _ _ _ _ _=>bU λ_ _ _ _ _=>rfl,g19.df X G λ_ _ _ _ _ _=>GN λ_=>rfl,Cp X G z1,Cp X G z2,Cp X G z3,Cp X G z4,Cp X G z5,Cp X G z6,Cp X G z7,Cp X G z8,Cp X G z9,Cp X G z10,Cp X G z11,Cp X G z12,Cp X G z13,u5.c,u5.P,u5.tab,u5.hd,u5.e,u6.c,u6.P,u6.tab,u6.hd,u6.e,kinds⟩;refine ⟨ZS [("least_word", u5.c,u5.P),("word_into", u6.c,u6.P)] (λp hp=>by
    rcases AL.mp hp with rfl|hp
    .exact ⟨u5.tab,u5.hd⟩
    rcases AL.mp hp with rfl|hp
    .exact ⟨u6.tab,u6.hd⟩
    cases hp) (λx hx hn=>by
    simp only[Ga,AL,Cv,or_false]at hx;rcases hx with rfl|rfl|rfl|rfl|rfl;all_goals first|exact YN (by assumption)|exact absurd (by simp) hn) ht,T.kW.fd,λs v=> .of_eq rfl,λbase _ _=>?_⟩
  exact bK (P:=l.prog) (w:=w) (base:=base) T
def Wy {l:PySem.W.OpenLaw} {q:Ym} {loose:Yk} {XP:(Str->Option Value)->Heap->Prop} {d:DefRec} {K:Params->PySem.W.Frag} {as:Yg} {ee:∀ P,as=(K P).map (·.1)} {ts:Yg} (hn:l.most=some 63) (hdf:d.params.defaults=[])
    (hL:∀ w:World,GD (K w.params)=true) (hT:∀ w:World,PySem.W.noTabs (K w.params)=true)
    (F:∀ (w:Yo) (mg:Yh) (fa:Yt) (h:Heap),(K w.params).In h->h.Ns mainGlobals mg->mg d.name=some (.ref fa) ->
      Au (K w.params) ts /\ ∃ fd:FuncData,(∀ (s:Shared) (u:Value),BindsTo s fd ⟨[u],[]⟩ [("_law_script_here", u)]) /\ ∀ base:Heap,(K w.params).In base->base.Ns mainGlobals mg->FnOk l.prog w (K w.params) mg base CX0 5 fa fd ["_law_script_here"] (spF (K w.params) 1 Ew)) :
    PySem.W.WalkO q loose XP (PySem.W.kmHook K as ee ts).says l.row.toRowW d [] (λf vs=>PySem.call f vs) :=
  WE (n:=63) (k:=5) (x := "_law_script_here") (m:=Ew) hn (by decide) hdf ⟨rfl,by decide,by decide⟩ hL hT F aL
end Lae
end
open PySem PySem.W PyProof.Rows
set_option maxRecDepth 100000 in
set_option maxHeartbeats 0 in
theorem PySem.Challenge.cw_bringhome_k14_none_where_none_does_holds : PySem.Challenge.rw_bringhome_k14_none_where_none_does.Holds := by
  w_on;o_law;k_head;(case hw=>w_witness2);k_fill;refine Lae.Wy (l:=PySem.Challenge.rw_bringhome_k14_none_where_none_does) rfl rfl (λw=>by rfl) (λw=>by rfl) ?F
  case F=>
    intro w mg fa h KX G hmg;apply Lae.Se KX G hmg;all_goals try first|exact ⟨_,by k_is,by k_is,by k_is,by k_is⟩|exact ⟨_,_,rfl,by k_is,by rfl,by rfl⟩|(unfold L3.Zn;k_is)|(unfold L3.Ki;kit_is)|k_is|rfl
    all_goals rfl
