import PyProof.Rows.All
import Wide.All
import OpenK.AllK
import Wide.FinOn
import Lean
import PyProof.EqAt
import PyProof.EqKinds
import PyProof.TupleCall
import PyProof.NeKinds
import PyProof.ZipIter
import PyProof.ListRange
import PyProof.TupleOfSeq
import PyProof.ConsumeWalk
import PyProof.IsRules
import PyProof.SetKind
import PyProof.SetRoads
import PyProof.Rows.SetFrom
import PyProof.Draws
import PyProof.EnumMake
import PyProof.DictCompW
import PyProof.ListMulRoad
import PyProof.Rows.SeqMore2
import PyProof.WalkInts
import PyProof.DictRoadsH
import PyProof.DictItems
import KE.KDictList
import PySem.Challenge.RW_bringhome_k15_shown_levels
local macro_rules|`(tactic|omega)=>`(tactic|lia)
section
open PySem
abbrev Ya:=List (List Int)
abbrev Yb:=W.Frag
abbrev Yc:=Value->Shared->Prop
abbrev Yd:=List (Addr × Obj)
abbrev Ye:=List Int
abbrev Yf:=List Value
abbrev Yg:=List Addr
abbrev Yh:=Str->Option Value
abbrev Yi:=List Expr
abbrev Yj:=List Nat
abbrev Yk:=List Str
abbrev Yl:=Shared
abbrev Ym:=Program
abbrev Yn:=Around
abbrev Yo:=World
abbrev Yp:=Array Value
abbrev Yq:=List Int->Prop
abbrev Yr:=Value->Nat
abbrev Ys:=Option Int
abbrev Yt:=Addr
abbrev Yu:=Value
abbrev Yv:=List (Str × Addr)
abbrev Yw:=Array (Int × Value)
abbrev Yx:=Result->Shared->Prop
abbrev Yy:=List Stmt
abbrev Yz:=FuncData
abbrev Y0:=Scope
abbrev Y1:=List Int->List (List Int)
abbrev Y2:=Value->Value->Sem Value
end
namespace PySem.W.Fast
def tw1990103461637915053:=0
def tw12012583860632260347:=0
def tw16703577497137583400:=0
def tw15947022687991489240:=0
def tw14948640178535550449:=0
def tw8089558679834833967:=0
def tw16174851760646888754:=0
def tw13070511123248080236:=0
def tw6768680724208660624:=0
def tw3501275851835216415:=0
def tw9419574917099162879:=0
def tw7029996946349118604:=0
def tw3626006085248610017:=0
def tw5019282575957858832:=0
def tw17733529182996440374:=0
def tw10977254397921165838:=0
def tw8334245768605325240:=0
def tw778276155832761328:=0
def tw13690091614578852415:=0
def tw18010681096256409027:=0
def tw15456483090269392381:=0
def tw1087594371753740080:=0
def tw14819730355887948916:=0
def tw2138690188797481256:=0
def tw18005627734089722971:=0
def tw4917888230577358720:=0
def tw15337105491902862129:=0
def tw15010942817807048876:=0
def tw9724010463546000196:=0
def tw3858727797908322715:=0
def tw13116630841440067389:=0
def tw201751229229656048:=0
def tw16924039968392969497:=0
def tw10736730798998212097:=0
def tw3280688454144867898:=0
def tw13484498220953920:=0
def tw4769776829769417065:=0
def tw11602883363582791147:=0
def tw9943119551145396978:=0
def tw7318035687041739289:=0
def tw8803517851696872143:=0
def tw6691889998818596800:=0
def tw1122304183185505824:=0
def tw8400516016674157754:=0
def tw16306534679057242277:=0
def tw13510020884568392699:=0
def tw11221801969862214341:=0
def tw9655170186894469491:=0
def tw8287701694488710153:=0
def tw797242078797885318:=0
def tw16418970771642911734:=0
def tw5199245488206408481:=0
def tw14800999224717074021:=0
def tw7007391168522206525:=0
def tw9413925668833344870:=0
def tw17172303645995197688:=0
def tw11455693521246832665:=0
def tw11287571019503406093:=0
def tw8356849325289258205:=0
def tw3613046749261025734:=0
def tw17328684937943600107:=0
def tw7024649941270008387:=0
def tw4403881204346750176:=0
def tw16917140060134280517:=0
def tw7370905095182497286:=0
def tw2200980247864098536:=0
def tw15192048510356380138:=0
def tw5406474715471641295:=0
def tw4431346086784386992:=0
def tw13669442432294149957:=0
def tw13705146266812940299:=0
def tw10288845214745339806:=0
def tw3350418238616146432:=0
def tw12585069971012348981:=0
def tw11153340522753570965:=0
def tw2080922735558618841:=0
def tw18210626784120062786:=0
def tw2390133371939522606:=0
def tw13694540923812763850:=0
def tw5562060743029949840:=0
def tw3022049970335704821:=0
def tw3088150118569473150:=0
def tw4461990347407470595:=0
def tw13840881121650382020:=0
def tw9772226303478138797:=0
def tw12970187792664216618:=0
def tw9681160963617350727:=0
def tw10931091870239276593:=0
def tw12178441666526163245:=0
def tw600709760663330700:=0
def tw7172253523526674828:=0
def tw16055903281891364728:=0
def tw6484231312631690947:=0
def tw18438420873198100341:=0
def tw8623207011639813980:=0
def tw2541121410039279355:=0
def tw8745381403900399805:=0
def tw16170160662949608087:=0
def tw7987035773347402257:=0
def tw10336893501168090857:=0
def tw1677117543688400886:=0
def tw1323358306785265734:=0
def tw13378148169303695471:=0
def tw1820573312818060344:=0
def tw15673920268871419946:=0
def tw16784015431664822003:=0
def tw14777304330013204438:=0
def tw6465772295825686775:=0
def tw6647127116605763811:=0
def tw12597524552750521985:=0
def tw4604186139101685055:=0
end PySem.W.Fast
section
open PySem PySem.Spec PyProof.Rows
def AA:type_of% @wpAny_bind:=@wpAny_bind
def AJ:type_of% @Heap.get?_push_of_some:=@Heap.get?_push_of_some
def AE:type_of% @wpAny_pure:=@wpAny_pure
def AI:type_of% @List.getElem?_eq_some_iff:=@List.getElem?_eq_some_iff
def AL:type_of% @List.getElem?_eq_getElem:=@List.getElem?_eq_getElem
def ES:type_of% @List.getD_eq_getElem?_getD:=@List.getD_eq_getElem?_getD
def AG:type_of% @Nat.le_refl:=@Nat.le_refl
def Ai:type_of% @List.getElem?_append_left:=@List.getElem?_append_left
def AW:type_of% @List.size_toArray:=@List.size_toArray
def AF:type_of% @List.length_map:=@List.length_map
def Aj:type_of% @Heap.get?_push_size:=@Heap.get?_push_size
def AH:type_of% @Heap.lt_size:=@Heap.lt_size
def AO:type_of% @List.mem_cons:=@List.mem_cons
def BS:type_of% @List.mem_cons_of_mem:=@List.mem_cons_of_mem
def Ah:type_of% @List.mem_cons_self:=@List.mem_cons_self
def AB:type_of% @if_pos:=@if_pos
def AN:type_of% @List.length_append:=@List.length_append
def AV:type_of% @List.mem_map:=@List.mem_map
def AD:type_of% @if_neg:=@if_neg
def AY:type_of% @List.map_cons:=@List.map_cons
def Ar:type_of% @List.mem_append_right:=@List.mem_append_right
def Ap:type_of% @Nat.ne_of_lt:=@Nat.ne_of_lt
def Ay:type_of% @Bool.false_ne_true:=@Bool.false_ne_true
def Af:type_of% @List.getElem?_map:=@List.getElem?_map
def BD:type_of% @List.map_map:=@List.map_map
def Ax:type_of% @Nat.lt_of_lt_of_le:=@Nat.lt_of_lt_of_le
def AS:type_of% @List.mem_append:=@List.mem_append
def BA:type_of% @Nat.le_trans:=@Nat.le_trans
def BC:type_of% @List.mem_singleton:=@List.mem_singleton
def CI:type_of% @wpAny_newObj_type:=@wpAny_newObj_type
def A7:type_of% @List.getElem?_set_ne:=@List.getElem?_set_ne
def Cv:type_of% @List.not_mem_nil:=@List.not_mem_nil
def AX:type_of% @wpAny_mono:=@wpAny_mono
def CS:type_of% @List.length_cons:=@List.length_cons
def Ab:type_of% @List.getElem_mem:=@List.getElem_mem
def AM:type_of% @decide_eq_false:=@decide_eq_false
def Am:type_of% @Bool.and_eq_true:=@Bool.and_eq_true
def Ae:type_of% @List.all_eq_true:=@List.all_eq_true
def Dq:type_of% @wpAny_callSpecial?_slot:=@wpAny_callSpecial?_slot
def CO:type_of% @wpAny_call_entry:=@wpAny_call_entry
def Cb:type_of% @wpAny_field:=@wpAny_field
def Cg:type_of% @Heap.size_push:=@Heap.size_push
def Dz:type_of% @Heap.get?_update_other:=@Heap.get?_update_other
def Bq:type_of% @Nat.lt_irrefl:=@Nat.lt_irrefl
def Bn:type_of% @Array.length_toList:=@Array.length_toList
def By:type_of% @List.append_nil:=@List.append_nil
def EF:type_of% @Array.getElem?_eq_getElem:=@Array.getElem?_eq_getElem
def Ba:type_of% @Nat.zero_le:=@Nat.zero_le
def Ej:type_of% @Heap.get?_update_self:=@Heap.get?_update_self
def EH:type_of% @Nat.lt_succ_of_lt:=@Nat.lt_succ_of_lt
def EE:type_of% @wpAny_seqItems:=@wpAny_seqItems
def Bd:type_of% @List.mem_of_getElem?:=@List.mem_of_getElem?
def B7:type_of% @List.map_append:=@List.map_append
def C7:type_of% @wpAny_holding:=@wpAny_holding
def B9:type_of% @List.getElem?_set_self:=@List.getElem?_set_self
def CG:type_of% @of_decide_eq_true:=@of_decide_eq_true
def E1:type_of% @Nat.lt_succ_self:=@Nat.lt_succ_self
def DM:type_of% @wpAny_standAt:=@wpAny_standAt
def Dj:type_of% @PySem.W.mg_none_of:=@PySem.W.mg_none_of
def CH:type_of% @Option.some.inj:=@Option.some.inj
def Dl:type_of% @Bool.false_eq_true:=@Bool.false_eq_true
def DH:type_of% @PySem.mem_of_lookup:=@PySem.mem_of_lookup
def ED:type_of% @Heap.SameBut.update:=@Heap.SameBut.update
def CF:type_of% @List.cons.inj:=@List.cons.inj
def DJ:type_of% @List.append_assoc:=@List.append_assoc
def AR:type_of% @decide_eq_true:=@decide_eq_true
def Ec:type_of% @List.getElem?_eq_none:=@List.getElem?_eq_none
def EG:type_of% @List.getElem?_append_right:=@List.getElem?_append_right
def Ff:type_of% @wpAny_truthy_bool:=@wpAny_truthy_bool
def DS:type_of% @decide_eq_true_eq:=@decide_eq_true_eq
def E9:type_of% @List.nodup_append:=@List.nodup_append
def Cr:type_of% @List.mem_append_left:=@List.mem_append_left
def Ey:type_of% @Obj.data_mapFields:=@Obj.data_mapFields
def F3:type_of% @List.replicate_succ:=@List.replicate_succ
def CA:type_of% @wpAny_rule:=@wpAny_rule
def BF:type_of% @List.length_take:=@List.length_take
def D0:type_of% @List.length_nil:=@List.length_nil
def Gs:type_of% @List.take_of_length_le:=@List.take_of_length_le
def Gn:type_of% @PyProof.Rows.slot_tuple_getitem:=@PyProof.Rows.slot_tuple_getitem
def FL:type_of% @List.getElem?_set:=@List.getElem?_set
def Du:type_of% @PySem.W.kia_one:=@PySem.W.kia_one
def CC:type_of% @Array.getElem?_toList:=@Array.getElem?_toList
def Ez:type_of% @List.find?_cons:=@List.find?_cons
def Bv:type_of% @congrArg:=@congrArg
def Fd:type_of% @Nat.le_add_right:=@Nat.le_add_right
def Fn:type_of% @Int.emod_lt_of_pos:=@Int.emod_lt_of_pos
def C3:type_of% @List.flatten_cons:=@List.flatten_cons
def HI:type_of% @List.length_eq_zero_iff:=@List.length_eq_zero_iff
def E6:type_of% @List.getElem_of_mem:=@List.getElem_of_mem
def FC:type_of% @List.lookup_cons:=@List.lookup_cons
def CD:type_of% @List.pairwise_cons:=@List.pairwise_cons
def CP:type_of% @List.length_set:=@List.length_set
def EW:type_of% @List.length_drop:=@List.length_drop
def En:type_of% @Bool.eq_iff_iff:=@Bool.eq_iff_iff
def CK:type_of% @Int.toNat_natCast:=@Int.toNat_natCast
def E8:type_of% @List.take_append_drop:=@List.take_append_drop
def Dd:type_of% @Nat.le_of_lt:=@Nat.le_of_lt
def FH:type_of% @List.length_singleton:=@List.length_singleton
def Di:type_of% @List.mem_of_mem_take:=@List.mem_of_mem_take
def EL:type_of% @List.mem_of_mem_drop:=@List.mem_of_mem_drop
def D8:type_of% @List.all_cons:=@List.all_cons
end
set_option Elab.async false
set_option linter.all false
set_option maxRecDepth 100000
set_option genSizeOf false
set_option genInjectivity false
set_option compiler.extract_closed false
noncomputable section
section
open PySem PySem.Spec PyProof.Rows
namespace L2
noncomputable abbrev Key:=Sum Int Str
noncomputable def G8:Key->Value->Bool
 |.inl k,v=>Value.isInt k v
 |.inr x,v=>Value.isStrOf x v
noncomputable def cH (w:Yo):Key->Int
 |.inl k=>hashInt k
 |.inr x=>hashStr w x
def Er:∀ {k:Key} {v:Yu},G8 k v=true->(∃ i t,k=Sum.inl i/\v=Value.int i t)\/(∃ x t,k=Sum.inr x/\v=Value.str x t)
 |.inl i,v,h=>by
  obtain ⟨t,e⟩:=Value.isInt_shape (k:=i) (v:=v) h;exact .inl ⟨i,t,rfl,e⟩
 |.inr x,v,h=>by
  obtain ⟨t,e⟩:=Value.isStrOf_shape (x:=x) (v:=v) h;exact .inr ⟨x,t,rfl,e⟩
def aH (i:Int) (t:Tok):G8 (.inl i) (.int i t)=true:=by simp[G8,Value.isInt]
def dH (x:Str) (t:Tok):G8 (.inr x) (.str x t)=true:=by simp[G8,Value.isStrOf]
def fV (a b:Int):decide ((Sum.inl a:Key)=Sum.inl b)=(a==b):=by
 by_cases e:a=b
 .subst e;simp
 .have h:¬ (Sum.inl a:Key)=Sum.inl b:=λq=>e (Sum.inl.inj q);rw[AM h];exact (beq_eq_false_iff_ne.mpr e).symm
def cX (a b:Str):decide ((Sum.inr a:Key)=Sum.inr b)=decide (a=b):=by
 by_cases e:a=b
 .subst e;simp
 .have h:¬ (Sum.inr a:Key)=Sum.inr b:=λq=>e (Sum.inr.inj q);rw[AM h,AM e]
def bD (a:Int) (b:Str):decide ((Sum.inl a:Key)=Sum.inr b)=false:=AM (λq=>nomatch q)
def UT (a:Str) (b:Int):decide ((Sum.inr a:Key)=Sum.inl b)=false:=AM (λq=>nomatch q)
noncomputable def B8 (prog:Ym) (w:Yo):PySem.KeyKind prog w Key where
 is:=G8
 hash:=cH w
 inj:=λv a b ha hb=>by
  rcases Er ha with ⟨i,t,rfl,rfl⟩|⟨x,t,rfl,rfl⟩
  .rcases Er hb with ⟨j,u,rfl,e⟩|⟨y,u,rfl,e⟩
   .injection e with e1 _;rw[e1]
   .exact nomatch e
  .rcases Er hb with ⟨j,u,rfl,e⟩|⟨y,u,rfl,e⟩
   .exact nomatch e
   .injection e with e1 _;rw[e1]
 byValue:=λk v h=>by
  rcases Er h with ⟨i,t,rfl,rfl⟩|⟨x,t,rfl,rfl⟩ <;> rfl
 pyHash:=λhv h=>by
  rcases Er hv with ⟨i,t,rfl,rfl⟩|⟨x,t,rfl,rfl⟩
  .exact wpAny_pyHash_int h
  .exact wpAny_pyHash_str h
 eqBool:=λhu hv h=>by
  rcases Er hu with ⟨i,t,rfl,rfl⟩|⟨x,t,rfl,rfl⟩
  .rcases Er hv with ⟨j,u,rfl,rfl⟩|⟨y,u,rfl,rfl⟩
   .rw[fV]at h;exact wpAny_eqBool_int h
   .rw[bD]at h;exact SeqAt.EqAt.int_str i t y u _ _ _ _ h
  .rcases Er hv with ⟨j,u,rfl,rfl⟩|⟨y,u,rfl,rfl⟩
   .rw[UT]at h;exact SeqAt.EqAt.str_int x t j u _ _ _ _ h
   .rw[cX]at h;exact wpAny_eqBool_str h
 «strs»:=λk x t v h=>by
  rcases Er h with ⟨i,u,rfl,e⟩|⟨y,u,rfl,e⟩
  .exact nomatch e
  .injection e with e1 _
   subst e1
   cases v <;> rfl
def T8 (prog:Ym) (w:Yo) (i:Int) (t:Tok):(B8 prog w).is (.inl i) (.int i t)=true:=aH i t
def W5 (prog:Ym) (w:Yo) (x:Str) (t:Tok):(B8 prog w).is (.inr x) (.str x t)=true:=dH x t
set_option genInjectivity true in
inductive V where
 |non|bl (b:Bool)|int (i:Int)|str (x:Str)|byt (b:Array UInt8)|flt (b:UInt64)|ref (a:Yt)|ty (n:String)
 deriving DecidableEq
def zm:V->Value->Prop
 |.non,u=>u=Value.none
 |.bl b,u=>u=Value.bool b
 |.int i,u=>∃ t,u=Value.int i t
 |.str x,u=>∃ t,u=Value.str x t
 |.byt b,u=>∃ t,u=Value.bytes b t
 |.flt b,u=>∃ t,u=Value.float b t
 |.ref a,u=>u=Value.ref a
 |.ty n,u=>u=Value.type n
abbrev zX:List V->List Value->Prop:=Paired zm
def zX.length {xs:List V} {us:Yf} (r:zX xs us):xs.length=us.length:=Paired.length r
def zX.get:∀ {xs:List V} {us:Yf} {i:Nat} {x:V},zX xs us->xs[i]?=some x -> ∃ u,us[i]?=some u/\zm x u
 |_,_,_,_,.nil,e=>by simp at e
 |_,_,0,_,.cons r _,e=>by simp at e;subst e;exact ⟨_,rfl,r⟩
 |_,_,i+1,x,.cons _ t,e=>by
  obtain ⟨u,h1,h2⟩:=zX.get (i:=i) (x:=x) t (by simpa using e);exact ⟨u,by simpa using h1,h2⟩
def zX.set {x:V} {u:Yu} (r:zm x u):∀ {xs:List V} {us:Yf} (i:Nat),zX xs us->zX (xs.set i x) (us.set i u)
 |_,_,_,.nil=> .nil
 |_,_,0,.cons _ t=> .cons r t
 |_,_,i+1,.cons q t=> .cons q (zX.set r i t)
def zX.append:∀ {xs ys:List V} {us ws:Yf},zX xs us->zX ys ws->zX (xs++ys) (us++ws)
 |_,_,_,_,.nil,s=>s
 |_,_,_,_,.cons r t,s=> .cons r (zX.append t s)
def zX.take:∀ {xs:List V} {us:Yf} (n:Nat),zX xs us->zX (xs.take n) (us.take n)
 |_,_,0,_=> .nil
 |_,_,_+1,.nil=> .nil
 |_,_,n+1,.cons r t=> .cons r (zX.take n t)
def zX.drop:∀ {xs:List V} {us:Yf} (n:Nat),zX xs us->zX (xs.drop n) (us.drop n)
 |_,_,0,r=>r
 |_,_,_+1,.nil=> .nil
 |_,_,n+1,.cons _ t=>zX.drop n t
def DI:Option V->Option Value->Prop
 |some v,some u=>zm v u
 |none,none=>True
 |_,_=>False
def KV {κ:Type}:List (κ × V)->List (κ × Value)->Prop:=Paired λ(p:κ × V) (q:κ × Value)=>p.1=q.1/\zm p.2 q.2
noncomputable def kV:Key->V
 |.inl i=> .int i
 |.inr x=> .str x
set_option genInjectivity true in
inductive HO where
 |lst (xs:List V)
 |tup (xs:List V)
 |dK (kvs:List (Key × V))|dT (kvs:List (List Key × V))
 |set (S:Int->Bool) (n:Nat)
 |ins (C dx:Yt) (fs:List (Str × V))
 |own (x:Yt)
 |xd (fs:List (Str × V))
 |met (f x:Yt)
 |rng (lo hi:Int)
 |frz (o:Obj) (u:HO)
 |tbl (ps:Yp)
 |ext (φ:Heap->Prop)
noncomputable abbrev Hp:=Addr->Option HO
noncomputable def upd (H:Hp) (a:Yt) (o:HO):Hp:=λb=>if b=a then some o else H b
def Ct {H:Hp} {a:Yt} {o:HO}:upd H a o a=some o:=by unfold upd;rw[AB rfl]
def zZ {H:Hp} {a b:Yt} {o:HO} (h:b≠a):upd H a o b=H b:=by unfold upd;rw[AD h]
def GW {H:Hp} {a b:Yt} {o u:HO} (h:H a=some o) (h':H b=some u) (d:o≠u):a≠b:=by
 intro e;subst e;rw[h]at h';exact d (CH h')
def DT {H:Hp} {a b:Yt} {o:HO} (h:H a=some o) (h':H b=none):a≠b:=by
 intro e;subst e;rw[h]at h';cases h'
def DR (h:Heap) (a:Addr) (items:Array Value):Prop:=∃ o,h.get? a=some o/\o.cls=.type "tuple" /\ (∃ n,o.data=.seq items n)/\o.dict=none
def DR.tup {h:Heap} {a:Yt} {items:Yp} (x:DR h a items):IsTup h a items:=let ⟨o,e,c,d,_⟩:=x;⟨o,e,c,d⟩
def DR.lt {h:Heap} {a:Yt} {items:Yp} (x:DR h a items):a<h.objs.size:=let ⟨_,e,_⟩:=x;AH e
def DR.new (h:Heap) (items:Array Value):DR (h.push { cls:=.type "tuple", data:=.seq items }) h.objs.size items:=⟨_,Aj _ rfl,rfl,⟨_,rfl⟩,rfl⟩
section
variable (P:Ym) (w:Yo)
def Aq (H:Hp) (h:Heap) (a:Yt):HO->Prop
 |.lst xs=>xs.length<=sizeLine /\ ∃ (its:List Value) (n:Nat),zX xs its/\h.get? a=some { cls:=.type "list", data:=.seq its.toArray n }
 |.tup xs=>xs.length<=sizeLine /\ ∃ its:List Value,zX xs its/\DR h a its.toArray
 |.dK kvs=>kvs.length<=sizeLine/\(a==sysModules)=false /\ ∃ vs,KV kvs vs/\h.DictOf (B8 P w) a vs
 |.dT kvs=>kvs.length<=sizeLine/\(a==sysModules)=false /\ ∃ xs:List (List Key × Addr × Value),
   Paired (λ(p:List Key × V) (q:List Key × Addr × Value)=>p.1=q.1/\H q.2.1=some (.tup (p.1.map kV))/\zm p.2 q.2.2) kvs xs /\
   ∃ o es ep,h.get? a=some o/\o.ExactDict/\o.data=.dict es ep/\es.toList=xs.map (entryOfKey (tupleKind (B8 P w)))/\(xs.map (·.1)).Nodup
 |.set S n=>h.SetOf (intKind P w) a S n
 |.ins C dx fs=>H dx=some (.own a)/\fs.length<=1000/\dx≠a/\h.get? a=some (PySem.W.instObj C dx) /\
   ∃ mA,h.Ns1 dx mA/\(∀ f,DI (fs.lookup f) (mA f))/\PySem.Within mA (fs.map (·.1))
 |.own _=>∃ o,h.get? a=some o
 |.xd fs=>∃ mA,h.Ns1 a mA /\ ∀ f,DI (fs.lookup f) (mA f)
 |.rng lo hi=>∃ t u v,h.get? a=some { cls:=.type "range", data:=.fields #[.int lo t,.int hi u,.int 1 v] }
 |.frz o u=>h.get? a=some o/\Aq H h a u
 |.tbl ps=>h.get? a=some { cls:=.none,data:=.fields ps }
 |.met f x=>h.get? a=some (PySem.W.methodObj (.ref f) (.ref x))
 |.ext φ=>φ h/\(∃ o,h.get? a=some o) /\ ∀ h1 h2:Heap,φ h1->(∀ o,h1.get? a=some o->h2.get? a=some o)->φ h2
def HOk (H:Hp) (h:Heap):Prop:=∀ a o,H a=some o->Aq P w H h a o
end
section
variable {P:Ym} {w:Yo} {H H':Hp} {h h':Heap} {a:Yt} {o:HO}
def Aq.lt (x:Aq P w H h a o):a<h.objs.size:=by
 cases o with
 |lst xs=>obtain ⟨_,_,_,_,e⟩:=x;exact AH e
 |tup xs=>obtain ⟨_,_,_,p⟩:=x;exact p.lt
 |dK kvs=>obtain ⟨_,_,_,_,o,_,_,e,_⟩:=x;exact AH e
 |dT kvs=>obtain ⟨_,_,_,_,o,_,_,e,_⟩:=x;exact AH e
 |set S n=>obtain ⟨o,_,_,_,e,_⟩:=x;exact AH e
 |ins C dx fs=>obtain ⟨_,_,_,e,_⟩:=x;exact AH e
 |own y=>obtain ⟨_,e⟩:=x;exact AH e
 |xd fs=>obtain ⟨_,⟨_,_,_,e,_⟩,_⟩:=x;exact AH e
 |rng lo hi=>obtain ⟨_,_,_,e⟩:=x;exact AH e
 |frz ob u=>obtain ⟨e,_⟩:=x;exact AH e
 |tbl ps=>exact AH (show h.get? a=some _ from x)
 |met f y=>exact AH (show h.get? a=some _ from x)
 |ext φ=>obtain ⟨_,⟨_,e⟩,_⟩:=x;exact AH e
def Paired.mapP {α β:Type} {F G:α->β->Prop}:∀ {l₁:List α} {l₂:List β},Paired F l₁ l₂->(∀ a b,F a b->G a b)->Paired G l₁ l₂
 |_,_,.nil,_=> .nil
 |_,_,.cons r t,f=> .cons (f _ _ r) (Paired.mapP t f)
def Aq.stay (x:Aq P w H h a o) (k:∀ b u,(b=a\/H b=some (.own a))->h.get? b=some u->h'.get? b=some u)
  (ho:∀ b,H b=some (.own a)->H' b=some (.own a)) (ht:∀ b xs,H b=some (.tup xs)->H' b=some (.tup xs)):Aq P w H' h' a o:=by
 induction o with
 |lst xs=>obtain ⟨z,its,n,r,e⟩:=x;exact ⟨z,its,n,r,k _ _ (.inl rfl) e⟩
 |tup xs=>obtain ⟨z,its,r,ob,e,c⟩:=x;exact ⟨z,its,r,ob,k _ _ (.inl rfl) e,c⟩
 |dK kvs=>obtain ⟨z,y,vs,r,ob,es,ep,e,c⟩:=x;exact ⟨z,y,vs,r,ob,es,ep,k _ _ (.inl rfl) e,c⟩
 |dT kvs=>
  obtain ⟨z,y,xs,r,ob,es,ep,e,c⟩:=x;exact ⟨z,y,xs,Paired.mapP r λp q z=>⟨z.1,ht _ _ z.2.1,z.2.2⟩,ob,es,ep,k _ _ (.inl rfl) e,c⟩
 |set S n=>obtain ⟨ob,es,ep,t,e,c⟩:=x;exact ⟨ob,es,ep,t,k _ _ (.inl rfl) e,c⟩
 |ins C dx fs=>
  obtain ⟨d,z,ne,e,mA,⟨od,es,ep,e2,c⟩,r⟩:=x;exact ⟨ho _ d,z,ne,k _ _ (.inl rfl) e,mA,⟨od,es,ep,k _ _ (.inr d) e2,c⟩,r⟩
 |own y=>obtain ⟨ob,e⟩:=x;exact ⟨ob,k _ _ (.inl rfl) e⟩
 |xd fs=>obtain ⟨mA,⟨od,es,ep,e,c⟩,r⟩:=x;exact ⟨mA,⟨od,es,ep,k _ _ (.inl rfl) e,c⟩,r⟩
 |rng lo hi=>obtain ⟨t,u,v,e⟩:=x;exact ⟨t,u,v,k _ _ (.inl rfl) e⟩
 |frz ob u ih=>obtain ⟨e,q⟩:=x;exact ⟨k _ _ (.inl rfl) e,ih q⟩
 |tbl ps=>
  have e:h.get? a=some { cls:=.none,data:=.fields ps }:=x;show h'.get? a=some { cls:=.none,data:=.fields ps };exact k a _ (.inl rfl) e
 |met f y=>
  have e:h.get? a=some (PySem.W.methodObj (.ref f) (.ref y)):=x;show h'.get? a=some (PySem.W.methodObj (.ref f) (.ref y));exact k a _ (.inl rfl) e
 |ext φ=>obtain ⟨p,⟨o,e⟩,st⟩:=x;exact ⟨st _ _ p λo q=>k _ _ (.inl rfl) q,⟨o,k _ _ (.inl rfl) e⟩,st⟩
def HOk.lt (x:HOk P w H h) (e:H a=some o):a<h.objs.size:=(x a o e).lt
def HOk.fresh (x:HOk P w H h) (e:h.objs.size<=a):H a=none:=by
 cases q:H a with
 |none=>rfl
 |some u=>exact absurd (Ax (x.lt q) e) (Bq _)
def HOk.kept (x:HOk P w H h) (k:∀ b u,h.get? b=some u->h'.get? b=some u):HOk P w H h':=λa o e=>
 (x a o e).stay (λb u _ q=>k b u q) (λ_ q=>q) λ_ _ q=>q
def HOk.laid (x:HOk P w H h) (k:∀ b u,h.get? b=some u->h'.get? b=some u) (hp:h.objs.size<=a) (new:Aq P w (upd H a o) h' a o):HOk P w (upd H a o) h':=λb u e=>by
 have hn:=x.fresh hp;by_cases hb:b=a
 .subst hb;rw[Ct]at e;cases e;exact new
 .rw[zZ hb]at e;exact (x b u e).stay (λc v _ q=>k c v q) (λc q=>by rw[zZ (DT q hn)];exact q) λc xs q=>by rw[zZ (DT q hn)];exact q
end
def Rd (H:Hp) (a:Yt) (u:HO):Prop:=H a=some u \/ ∃ o,H a=some (.frz o u)
def Rd.ok {P:Ym} {w:Yo} {H:Hp} {h:Heap} {a:Yt} {u:HO} (r:Rd H a u) (x:HOk P w H h):Aq P w H h a u:=by
 rcases r with r|⟨o,r⟩
 .exact x a u r
 .obtain ⟨_,q⟩:=x a _ r;exact q
def Mut:Option HO->Prop
 |some (.lst _)=>True
 |some (.dK _)=>True
 |some (.dT _)=>True
 |some (.set _ _)=>True
 |some (.ins _ _ _)=>True
 |some (.ext _)=>True
 |_=>False
section
variable {P:Ym} {w:Yo} {H:Hp} {h h':Heap} {x e:Yt} {o':HO}
def HOk.write (ok:HOk P w H h) (mu:Mut (H x)) (he:e=x\/H e=some (.own x)) (k:∀ b u,b≠e->h.get? b=some u->h'.get? b=some u) (heo:∃ u,h'.get? e=some u)
  (new:Aq P w (upd H x o') h' x o'):HOk P w (upd H x o') h':=λb u q=>by
 have nown:∀ c y,H c=some (.own y)->c≠x:=λc y r z=>by subst z;rw[r]at mu;exact mu
 have ntup:∀ c xs,H c=some (.tup xs)->c≠x:=λc xs r z=>by subst z;rw[r]at mu;exact mu
 by_cases hb:b=x
 .subst hb;rw[Ct]at q;cases q;exact new
 .rw[zZ hb]at q;by_cases hbe:b=e
  .have q':H b=some (.own x):=by
    rcases he with z|z
    .exact absurd (hbe.trans z) hb
    .rw[hbe];exact z
   rw[q]at q';cases q';obtain ⟨v,hv⟩:=heo;exact ⟨v,by rw[hbe];exact hv⟩
  .refine (ok b u q).stay (λc v hc r=>k c v ?_ r) (λc r=>by rw[zZ (nown c b r)];exact r) λc xs r=>by rw[zZ (ntup c xs r)];exact r
   rcases hc with rfl|hc
   .exact hbe
   .rintro rfl;rcases he with z|z
    .exact nown c b hc z
    .rw[hc]at z;cases z;exact hb rfl
end
structure Un (fs ex:Yg) (H H':Hp) (h h':Heap):Prop where
 keep:∀ b o,h.get? b=some o->H b=none->b∉fs->b∉ex->h'.get? b=some o
 slot:∀ b o,h.get? b=some o->H b=none->b∈fs->b∉ex -> ∃ sl,h'.get? b=some { o with slots:=sl }
 free:∀ b o,h.get? b=some o->H b=none->b∉ex->H' b=none
 there:∀ b o,h.get? b=some o->b∉ex -> ∃ o',h'.get? b=some o'
 tups:∀ b xs,H b=some (.tup xs)->H' b=some (.tup xs)
 frzs:∀ b o u,H b=some (.frz o u)->H' b=some (.frz o u)
 tbls:∀ b ps,H b=some (.tbl ps) -> ∃ more,H' b=some (.tbl (ps++more))
section
variable {fs fs' ex ex':Yg} {H H1 H2:Hp} {h h1 h2 h':Heap} {a x e:Yt} {o:HO}
def Un.any (u:Un fs ex H H1 h h1) {b:Yt} {ob:Obj} (q:h.get? b=some ob) (n:H b=none) (hx:b∉ex):∃ sl,h1.get? b=some { ob with slots:=sl }:=by
 by_cases hb:b∈fs
 .exact u.slot b ob q n hb hx
 .exact ⟨ob.slots,u.keep b ob q n hb hx⟩
def Un.kept (k:∀ b u,h.get? b=some u->h'.get? b=some u):Un fs ex H H h h' :=
 ⟨λb ob q _ _ _=>k b ob q,λb ob q _ _ _=>⟨ob.slots,k b ob q⟩,λ_ _ _ n _=>n,λb ob q _=>⟨ob,k b ob q⟩,λ_ _ q=>q,λ_ _ _ q=>q,λ_ ps q=>⟨#[],by rw[q];simp⟩⟩
def Un.refl:Un fs ex H H h h:=Un.kept λ_ _ q=>q
def Un.laid (k:∀ b u,h.get? b=some u->h'.get? b=some u) (hp:h.objs.size<=a) (hn:H a=none):Un fs ex H (upd H a o) h h' where
 keep:=λb u q _ _ _=>k b u q;slot:=λb u q _ _ _=>⟨u.slots,k b u q⟩;free:=λb u q n _=>by rw[zZ (Ap (Ax (AH q) hp))];exact n
 there:=λb u q _=>⟨u,k b u q⟩;tups:=λb xs q=>by rw[zZ (DT q hn)];exact q
 frzs:=λb u xs q=>by rw[zZ (DT q hn)];exact q
 tbls:=λb ps q=>⟨#[],by rw[zZ (DT q hn),q];simp⟩
def Un.write (mu:Mut (H x)) (he:e=x\/H e=some (.own x)) (k:∀ b u,b≠e->h.get? b=some u->h'.get? b=some u) (heo:∃ u,h'.get? e=some u):Un fs ex H (upd H x o) h h':=by
 have hx:∀ b,H b=none->b≠x:=λb n z=>by subst z;rw[n]at mu;exact mu
 have hb:∀ b,H b=none->b≠e:=λb n z=>by
  subst z;rcases he with r|r
  .exact hx b n r
  .rw[n]at r;cases r
 have hm:∀ b u,H b=some u -> ¬ Mut (some u)->b≠x:=λb u q nm z=>by subst z;rw[q]at mu;exact nm mu
 refine ⟨λb u q n _ _=>k b u (hb b n) q,λb u q n _ _=>⟨u.slots,k b u (hb b n) q⟩,λb u q n _=>by rw[zZ (hx b n)];exact n,λb u q _=>?_,
  λb xs q=>by rw[zZ (hm b _ q λz=>z)];exact q,λb u xs q=>by rw[zZ (hm b _ q λz=>z)];exact q,λb ps q=>⟨#[],by rw[zZ (hm b _ q λz=>z),q];simp⟩⟩
 by_cases hbe:b=e
 .subst hbe;exact heo
 .exact ⟨u,k b u hbe q⟩
end
noncomputable def trk (h:Heap) (H:Hp):List Addr:=(List.range h.objs.size).filter λa=>(H a).isSome
noncomputable def EZ (h:Heap) (H:Hp):Heap:=PySem.W.hideAll h (trk h H)
def V5 (h:Heap) (H:Hp):(EZ h H).objs.size=h.objs.size:=PySem.W.hideAll_size _ _
def WE {h:Heap} {H:Hp} {b:Yt} {o:Obj} (e:h.get? b=some o) (n:H b=none):(EZ h H).get? b=some o :=
 PySem.W.hideAll_get _ e λhm=>by
  have q:(H b).isSome=true:=(List.mem_filter.mp hm).2;rw[n]at q;simp at q
def fZ {h:Heap} {H:Hp} {b:Yt} {o:Obj} (e:(EZ h H).get? b=some o):h.get? b=some o/\H b=none:=by
 have e':h.get? b=some o:=PySem.W.of_hideAll (trk h H) e;refine ⟨e',?_⟩;cases q:H b with
 |none=>rfl
 |some x=>
  have hm:b∈trk h H:=List.mem_filter.mpr ⟨List.mem_range.mpr (AH e'),by simp[q]⟩;have z:(EZ h H).get? b=none:=PySem.W.hideAll_none (trk h H) hm;rw[z]at e;cases e
def BMn (mg:Str->Option Value) (h:Heap):Prop:=∃ bm ob,mg "__builtins__" = some (.ref bm)/\bm≠builtinsNs/\h.get? bm=some ob/\ob.cls=.type "module" /\ ob.dict=some builtinsNs/\ob.data=.plain
structure Mod (K:Yb) (mg:Yh) (base:Heap):Prop where
 kin:K.In base
 glob:base.Ns mainGlobals mg
 blt:∃ mb,base.Ns builtinsNs mb /\ ∀ x:Str,x ≠ "__name__" -> mb x=bootBuiltins x
 nolimit:base.NoLimit
 bmn:BMn mg base
structure Cx where
 prog:Program
 w:World
 K:PySem.W.Frag
 mg:Str->Option Value
 base:Heap
 A:Around
 N:List Str
 s₀:Shared
 H₀:Hp
 env:Env
 outer:List Env
 stack:List Env
 ex:List Addr
 fn:Str->Bool
 calm:Bool
 pn:List (Addr × Obj)
 xe:Value->Shared->Prop
noncomputable def frs (l:List Env):List Addr:=l.filterMap (·.frame)
noncomputable abbrev Cx.fs (X:Cx):List Addr:=frs X.outer
def Vis (sc:Y0) (x:Str):Prop:=sc.names.lookup x=some .local\/sc.names.lookup x=some .cell\/sc.names.lookup x=some .free
def Loc (sc:Y0) (x:Str):Prop:=sc.names.lookup x=some .local\/sc.names.lookup x=some .cell
def XY (env:Env) (h:Heap) (m:Yh) (x:Str) (u:Yu):Prop :=
 (env.kindOf x=some .local/\m x=some u)\/((env.kindOf x=some .cell\/env.kindOf x=some .free) /\ ∃ c,env.cells.lookup x=some c/\h.IsCell c (some u))
structure Cx.Ok (X:Cx):Prop where
 mod:Mod X.K X.mg X.base
 kind:X.env.scope.kind=.function
 glob:X.env.globals=mainGlobals
 blt:X.env.builtins=builtinsNs
 above:X.s₀.heap.objs.size<=X.env.locals
 inj:∀ x y c,X.env.cells.lookup x=some c->X.env.cells.lookup y=some c->x=y
 has:∀ x,(X.env.kindOf x=some .cell\/X.env.kindOf x=some .free) -> ∃ c,X.env.cells.lookup x=some c
 cab:∀ x c,X.fn x=true->X.env.cells.lookup x=some c->X.s₀.heap.objs.size<=c
 hd:X.calm=true->X.A.handled=none
 frames:X.A.frames=some X.stack
 stk:X.stack=X.outer\/(X.stack=X.env::X.outer/\X.env.frame=some X.env.locals)
 exf:∀ b∈X.ex,b≠X.env.locals /\ ∀ x c,X.env.cells.lookup x=some c->c≠b
 bs:∀ b o,X.base.get? b=some o->X.s₀.heap.get? b=some o/\X.H₀ b=none
 bsz:X.base.objs.size<=X.s₀.heap.objs.size
 noex:∀ b o,X.base.get? b=some o->b∉X.ex
 exfs:∀ b∈X.ex,b∉X.fs
 funs:X.s₀.heap.FunFrames X.base X.outer
 frf:∀ b∈X.fs,X.H₀ b=none
structure Inv (X:Cx) (zB:Yd) (Y:List (Option V)) (H:Hp) (s:Yl):Prop where
 ok:X.Ok
 os:s.os=X.s₀.os
 bare:AllBare s.gens
 base:Un X.fs X.ex X.H₀ H X.s₀.heap s.heap
 loc:∃ m,s.heap.Ns X.env.locals m /\ ∀ (i:Nat) (x:Str) (v:V),X.N[i]?=some x->Y[i]?=some (some v)->Vis X.env.scope x -> ∃ u,zm v u/\XY X.env s.heap m x u
 cell:∀ x c,X.env.cells.lookup x=some c -> ∃ v,s.heap.IsCell c v
 free:H X.env.locals=none
 freeC:∀ x c,X.env.cells.lookup x=some c->H c=none
 pin:∀ p∈X.pn++zB,s.heap.get? p.1=some p.2/\H p.1=none/\p.1≠X.env.locals/\p.1∉X.fs /\ ∀ v,p.2.data≠.cell v
 hok:HOk X.prog X.w H s.heap
 len:Y.length=X.N.length
section
variable {X:Cx} {zB:Yd} {Y:List (Option V)} {H H':Hp} {s:Yl} {h':Heap}
def Cx.Ok.nofr (ok:X.Ok) {b:Yt} {o:Obj} (e:X.base.get? b=some o):b∉X.fs:=λhb=>by
 have:=(ok.funs.mem hb).1;rw[e]at this;cases this
def Inv.bs (I:Inv X zB Y H s):∀ b o,X.base.get? b=some o->s.heap.get? b=some o/\H b=none:=λb o e=>
 ⟨I.base.keep b o (I.ok.bs b o e).1 (I.ok.bs b o e).2 (I.ok.nofr e) (I.ok.noex b o e),I.base.free b o (I.ok.bs b o e).1 (I.ok.bs b o e).2 (I.ok.noex b o e)⟩
def Inv.bk (I:Inv X zB Y H s):∀ b o,X.base.get? b=some o->s.heap.get? b=some o:=λb o e=>(I.bs b o e).1
def Inv.mod (I:Inv X zB Y H s):Mod X.K X.mg X.base:=I.ok.mod
def Inv.kIn (I:Inv X zB Y H s):X.K.In s.heap:=I.ok.mod.kin.keeps I.bk
def Inv.lt (I:Inv X zB Y H s):X.env.locals<s.heap.objs.size:=let ⟨_,hn,_⟩:=I.loc;hn.lt
def Inv.sz (I:Inv X zB Y H s):X.s₀.heap.objs.size<=s.heap.objs.size:=BA I.ok.above (Dd I.lt)
def Inv.nofs (I:Inv X zB Y H s) {a:Yt} (h:s.heap.objs.size<=a):a∉X.fs:=λhb=>by
 obtain ⟨_,o,ho,_⟩:=I.ok.funs.mem hb;exact absurd (Ax (AH ho) (BA I.sz h)) (Bq _)
def Inv.cne (I:Inv X zB Y H s):∀ x c,X.env.cells.lookup x=some c->c≠X.env.locals:=λx c e z=>by
 obtain ⟨v,o,ho,hd⟩:=I.cell x c e;obtain ⟨m,⟨o',es,ep,ho',hd',_⟩,_⟩:=I.loc;rw[z,ho']at ho;cases ho;rw[hd']at hd;cases hd
def Inv.funs (I:Inv X zB Y H s):s.heap.FunFrames X.base X.outer:=by
 have all:∀ (l:List Env),(∀ b∈frs l,b∈X.fs)->X.s₀.heap.FunFrames X.base l->s.heap.FunFrames X.base l:=by
  intro l;induction l with
  |nil=>intro _ _;trivial
  |cons env r ih=>
   intro hs hl;obtain ⟨hk,⟨L,o,hf,hn,ho,hd⟩,hr⟩:=hl;have hL:L∈X.fs:=hs L (by unfold frs;rw[List.filterMap_cons,hf];exact Ah);obtain ⟨sl,e⟩:=I.base.slot L o ho (I.ok.frf L hL) hL λz=>I.ok.exfs L z hL;exact ⟨hk,⟨L,_,hf,hn,e,hd⟩,ih (λb hb=>hs b (by unfold frs;rw[List.filterMap_cons,hf];exact BS _ hb)) hr⟩
 exact all X.outer (λ_ hb=>hb) I.ok.funs
def Inv.stack (I:Inv X zB Y H s):s.heap.FunFrames X.base X.stack:=by
 rcases I.ok.stk with e|⟨e,hf⟩
 .rw[e];exact I.funs
 .rw[e];obtain ⟨m,hn,_⟩:=I.loc;refine .cons (by rw[I.ok.kind];decide) hf hn ?_ I.funs;exact Heap.get?_none_of_le (BA I.ok.bsz I.ok.above)
def Inv.stkSub (I:Inv X zB Y H s):∀ b∈frs X.stack,b∈X.env.locals::X.fs:=λb hb=>by
 rcases I.ok.stk with e|⟨e,hf⟩
 .rw[e]at hb;exact BS _ hb
 .rw[e]at hb;unfold frs at hb;rw[List.filterMap_cons,hf]at hb;exact hb
def Inv.stkFree (I:Inv X zB Y H s):∀ b∈frs X.stack,H b=none:=λb hb=>by
 rcases AO.mp (I.stkSub b hb)with e|hb
 .rw[e];exact I.free
 .obtain ⟨_,o,ho,_⟩:=I.ok.funs.mem hb;exact I.base.free b o ho (I.ok.frf b hb) λz=>I.ok.exfs b z hb
def Inv.step {g':Array GenState} {t':Nat} {d':Drawn} {ch:Yg} (I:Inv X zB Y H s)
  (hch:∀ b∈ch,(b∈X.ex\/X.s₀.heap.objs.size<=b)/\b≠X.env.locals/\(∀ x c,X.env.cells.lookup x=some c->c≠b) /\ ∀ p∈X.pn++zB,p.1≠b)
  (keep:∀ b o,b≠X.env.locals->b∉X.fs->b∉ch->s.heap.get? b=some o->H b=none->h'.get? b=some o)
  (slot:∀ b o,b≠X.env.locals->b∈X.fs->b∉ch->s.heap.get? b=some o->H b=none -> ∃ sl,h'.get? b=some { o with slots:=sl }) (free:∀ b o,b∉ch->s.heap.get? b=some o->H b=none->H' b=none)
  (there:∀ b o,b∉ch->s.heap.get? b=some o -> ∃ o',h'.get? b=some o')
  (tups:∀ b xs,H b=some (.tup xs)->H' b=some (.tup xs)) (frzs:∀ b o u,H b=some (.frz o u)->H' b=some (.frz o u)) (tbls:∀ b ps,H b=some (.tbl ps) -> ∃ more,H' b=some (.tbl (ps++more)))
  (ns:∀ m,s.heap.Ns X.env.locals m->h'.Ns X.env.locals m) (hok:HOk X.prog X.w H' h') (hg:AllBare g') :
  Inv X zB Y H' { s with heap:=h',gens:=g',drawn:=d',toks:=t' }:=by
 have neL:∀ b o,X.s₀.heap.get? b=some o->b≠X.env.locals:=λb o e=>Ap (Ax (AH e) I.ok.above);have neC:∀ b o,X.s₀.heap.get? b=some o->b∉X.ex->b∉ch:=λb o e hx hb=>by
  rcases (hch b hb).1 with z|z
  .exact hx z
  .exact absurd (Ax (AH e) z) (Bq _)
 have cellK:∀ x c,X.env.cells.lookup x=some c -> ∀ v,s.heap.IsCell c v->h'.IsCell c v:=λx c e v ⟨o,ho,hd⟩=>by
  have nch:c∉ch:=λz=>(hch c z).2.2.1 x c e rfl;by_cases hc:c∈X.fs
  .obtain ⟨sl,q⟩:=slot c o (I.cne x c e) hc nch ho (I.freeC x c e);exact ⟨_,q,hd⟩
  .exact ⟨o,keep c o (I.cne x c e) hc nch ho (I.freeC x c e),hd⟩
 refine ⟨I.ok,I.os,hg,⟨λb o e n hb hx=>?_,λb o e n hb hx=>?_,λb o e n hx=>?_,λb o e hx=>?_,λb xs e=>tups b xs (I.base.tups b xs e),λb o xs e=>frzs b o xs (I.base.frzs b o xs e),λb ps e=>?_⟩,?_,λx c e=>?_,?_,λx c e=>?_,λp hp=>?_,hok,I.len⟩
 .exact keep b o (neL b o e) hb (neC b o e hx) (I.base.keep b o e n hb hx) (I.base.free b o e n hx)
 .obtain ⟨sl,e1⟩:=I.base.slot b o e n hb hx;obtain ⟨sl',e2⟩:=slot b _ (neL b o e) hb (neC b o e hx) e1 (I.base.free b o e n hx);exact ⟨sl',e2⟩
 .obtain ⟨o',e1⟩:=I.base.there b o e hx;exact free b o' (neC b o e hx) e1 (I.base.free b o e n hx)
 .obtain ⟨o',e1⟩:=I.base.there b o e hx;exact there b o' (neC b o e hx) e1
 .obtain ⟨m1,e1⟩:=I.base.tbls b ps e;obtain ⟨m2,e2⟩:=tbls b _ e1;exact ⟨m1++m2,by rw[e2,Array.append_assoc]⟩
 .obtain ⟨m,hn,hl⟩:=I.loc;refine ⟨m,ns m hn,λi x v e1 e2 e3=>?_⟩;obtain ⟨u,r,l⟩:=hl i x v e1 e2 e3;refine ⟨u,r,?_⟩;rcases l with l|⟨k,c,e,z⟩
  .exact .inl l
  .exact .inr ⟨k,c,e,cellK x c e _ z⟩
 .obtain ⟨v,z⟩:=I.cell x c e;exact ⟨v,cellK x c e v z⟩
 .obtain ⟨m,⟨o,_,_,ho,_⟩,_⟩:=I.loc;exact free _ o (λz=>(hch _ z).2.1 rfl) ho I.free
 .obtain ⟨v,o,ho,hd⟩:=I.cell x c e;exact free c o (λz=>(hch c z).2.2.1 x c e rfl) ho (I.freeC x c e)
 .obtain ⟨e,n,ne,nf,d⟩:=I.pin p hp;have nch:p.1∉ch:=λz=>(hch p.1 z).2.2.2 p hp rfl;exact ⟨keep p.1 p.2 ne nf nch e n,free p.1 p.2 nch e n,ne,nf,d⟩
def Inv.un {t':Nat} (I:Inv X zB Y H s) (u:Un X.fs [] H H' s.heap h') (hok:HOk X.prog X.w H' h'):Inv X zB Y H' { s with heap:=h',toks:=t' }:=by
 obtain ⟨m,⟨o,es,ep,ho,r⟩,_⟩:=id I.loc;obtain ⟨sl,hL⟩:=u.any ho I.free (by simp);exact I.step (g':=s.gens) (d':=s.drawn) (ch:=[]) (λ_ z=>nomatch z) (λb o _ hb _ e n=>u.keep b o e n hb (by simp)) (λb o _ hb _ e n=>u.slot b o e n hb (by simp)) (λb o _ e n=>u.free b o e n (by simp)) (λb o _ e=>u.there b o e (by simp)) u.tups u.frzs u.tbls (λm' hm=>by
  obtain ⟨o',es',ep',ho',r'⟩:=hm;rw[ho]at ho';cases ho';exact ⟨_,es',ep',hL,r'⟩) hok I.bare
def Inv.call {g':Array GenState} {t':Nat} {d':Drawn} {ch:Yg} (I:Inv X zB Y H s) (u:Un (frs X.stack) ch H H' s.heap h') (hok:HOk X.prog X.w H' h') (hg:AllBare g')
  (hch:∀ b∈ch,(b∈X.ex\/X.s₀.heap.objs.size<=b)/\b≠X.env.locals/\(∀ x c,X.env.cells.lookup x=some c->c≠b) /\ ∀ p∈X.pn++zB,p.1≠b) :
  Inv X zB Y H' { s with heap:=h',gens:=g',drawn:=d',toks:=t' }:=by
 obtain ⟨m,⟨o,es,ep,ho,r⟩,_⟩:=id I.loc;obtain ⟨sl,hL⟩:=u.any ho I.free λz=>(hch _ z).2.1 rfl;exact I.step (ch:=ch) hch (λb o hL hb hc e n=>u.keep b o e n (λz=>(AO.mp (I.stkSub b z)).elim hL hb) hc) (λb o _ _ hc e n=>u.any e n hc) (λb o hc e n=>u.free b o e n hc) (λb o hc e=>u.there b o e hc) u.tups u.frzs u.tbls (λm' hm=>by
  obtain ⟨o',es',ep',ho',r'⟩:=hm;rw[ho]at ho';cases ho';exact ⟨_,es',ep',hL,r'⟩) hok hg
def Inv.turned {t':Nat} {it:Yt} (I:Inv X zB Y H s) (k:∀ b o,b≠it->s.heap.get? b=some o->h'.get? b=some o) (hn:H it=none) (hL:it≠X.env.locals)
  (h1:it∈X.ex\/X.s₀.heap.objs.size<=it) (h2:∀ x c,X.env.cells.lookup x=some c->c≠it) (h3:∀ p∈X.pn++zB,p.1≠it):Inv X zB Y H { s with heap:=h',toks:=t' }:=by
 have nit:∀ b u,H b=some u->b≠it:=λb u e z=>by rw[z,hn]at e;cases e
 refine I.step (g':=s.gens) (d':=s.drawn) (ch:=[it]) (λb hb=>?_) (λb o _ _ hc e _=>k b o (λz=>hc (by simp[z])) e) (λb o _ _ hc e _=>⟨o.slots,k b o (λz=>hc (by simp[z])) e⟩) (λ_ _ _ _ n=>n)
  (λb o hc e=>⟨o,k b o (λz=>hc (by simp[z])) e⟩) (λ_ _ e=>e) (λ_ _ _ e=>e) (λb ps e=>⟨#[],by rw[e];simp⟩) (λm hm=>?_) (λb u e=>?_) I.bare
 .have e:b=it:=by simpa using hb
  subst e;exact ⟨h1,hL,h2,h3⟩
 .obtain ⟨o,es,ep,ho,r⟩:=hm;exact ⟨o,es,ep,k _ o (Ne.symm hL) ho,r⟩
 .refine (I.hok b u e).stay (λc v hc q=>k c v ?_ q) (λ_ q=>q) λ_ _ q=>q;rcases hc with z|z
  .rw[z];exact nit b u e
  .exact nit c _ z
def Inv.tok (I:Inv X zB Y H s) (t:Nat):Inv X zB Y H { s with toks:=t }:=I.un (h':=s.heap) (t':=t) Un.refl I.hok
def Inv.kept {t':Nat} (I:Inv X zB Y H s) (k:∀ b u,s.heap.get? b=some u->h'.get? b=some u):Inv X zB Y H { s with heap:=h',toks:=t' }:=I.un (Un.kept k) (I.hok.kept k)
def Inv.laid {a:Yt} {o:HO} {t':Nat} (I:Inv X zB Y H s) (k:∀ b u,s.heap.get? b=some u->h'.get? b=some u) (hp:s.heap.objs.size<=a) (new:Aq X.prog X.w (upd H a o) h' a o) :
  Inv X zB Y (upd H a o) { s with heap:=h',toks:=t' }:=I.un (Un.laid k hp (I.hok.fresh hp)) (I.hok.laid k hp new)
def Inv.write {x e:Yt} {o:HO} {t':Nat} (I:Inv X zB Y H s) (mu:Mut (H x)) (he:e=x\/H e=some (.own x)) (k:∀ b u,b≠e->s.heap.get? b=some u->h'.get? b=some u) (heo:∃ u,h'.get? e=some u)
  (new:Aq X.prog X.w (upd H x o) h' x o):Inv X zB Y (upd H x o) { s with heap:=h',toks:=t' }:=I.un (Un.write mu he k heo) (I.hok.write mu he k heo new)
def Inv.weak {Y':List (Option V)} (I:Inv X zB Y H s) (hl:Y'.length=Y.length) (w:∀ (i:Nat) v,Y'[i]?=some (some v)->Y[i]?=some (some v)):Inv X zB Y' H s :=
 ⟨I.ok,I.os,I.bare,I.base,let ⟨m,hn,hl'⟩:=I.loc;⟨m,hn,λi x v e1 e2 e3=>hl' i x v e1 (w i v e2) e3⟩,I.cell,I.free,I.freeC,I.pin,I.hok,hl.trans I.len⟩
def Inv.pins_of {pins':Yd} (I:Inv X zB Y H s) (h:∀ p∈pins',s.heap.get? p.1=some p.2/\H p.1=none/\p.1≠X.env.locals/\p.1∉X.fs /\ ∀ v,p.2.data≠.cell v):Inv X pins' Y H s :=
 ⟨I.ok,I.os,I.bare,I.base,I.loc,I.cell,I.free,I.freeC,λp hp=>(AS.mp hp).elim (λz=>I.pin p (Cr _ z)) (h p),I.hok,I.len⟩
def OL {N:Yk} (hN:N.Nodup) {i j:Nat} {x:Str} (a:N[i]?=some x) (b:N[j]?=some x):i=j:=by
 obtain ⟨h1,e1⟩:=AI.mp a;obtain ⟨h2,e2⟩:=AI.mp b;exact (List.getElem_inj hN).mp (e1.trans e2.symm)
def ZY {M:Model} {A:Yn} {E:Yc} {i:Nat} {x:Str} {v:V} {u:Yu} {Q:Unit->Shared->Prop} (I:Inv X zB Y H s) (hN:X.N.Nodup) (hi:X.N[i]?=some x) (hx:Loc X.env.scope x) (r:zm v u)
  (h:∀ s',Inv X zB (Y.set i (some v)) H s'->(∃ a,Heap.SameBut a s.heap s'.heap/\(a=X.env.locals\/X.env.cells.lookup x=some a))->Q () s') (hf:X.fn x=true\/X.env.scope.names.lookup x=some .local:=by first|exact .inl rfl|exact .inr rfl|assumption):wpAny M A (storeName X.env x u) Q E s:=by
 obtain ⟨m,hn,hl⟩:=id I.loc;have hcls:(X.env.scope.kind == .class||(X.env.scope.kind == .module&&X.env.locals != X.env.globals))=false:=by rw[I.ok.kind];rfl
 have hiσ:i<Y.length:=by rw[I.len];exact (AI.mp hi).1
 have cne:=I.cne;have tracked:∀ {a:Yt} {h':Heap},(∃ o,s.heap.get? a=some o/\H a=none)->Heap.SameBut a s.heap h'->HOk X.prog X.w H h':=λ{a h'} ha hs b ob e=>by
  obtain ⟨_,_,hfree⟩:=ha;refine (I.hok b ob e).stay (λc w' hc q=>(hs.2 c ?_).trans q) (λ_ q=>q) λ_ _ q=>q;rintro rfl;rcases hc with rfl|hc
  .rw[hfree]at e;cases e
  .rw[hfree]at hc;cases hc
 rcases hx with hk|hk
 .refine wpAny_storeName_local hk hn (λh' hn' hs=>?_) hcls;obtain ⟨oL,_,_,hoL,_⟩:=id hn;refine h _ ⟨I.ok,I.os,I.bare,⟨λb o e n hb hx=>?_,λb o e n hb hx=>?_,I.base.free,λb o e hx=>?_,I.base.tups,I.base.frzs,I.base.tbls⟩,⟨_,hn',λj y v' e1 e2 e3=>?_⟩,λy c e=>?_,I.free,I.freeC,λp hp=>?_,tracked ⟨oL,hoL,I.free⟩ hs,by simpa using I.len⟩ ⟨_,hs,.inl rfl⟩
  .exact (hs.2 b (Ap (Ax (AH e) I.ok.above))).trans (I.base.keep b o e n hb hx)
  .obtain ⟨sl,e1⟩:=I.base.slot b o e n hb hx;exact ⟨sl,(hs.2 b (Ap (Ax (AH e) I.ok.above))).trans e1⟩
  .obtain ⟨o',e1⟩:=I.base.there b o e hx;exact ⟨o',(hs.2 b (Ap (Ax (AH e) I.ok.above))).trans e1⟩
  .by_cases hj:j=i
   .subst hj;rw[hi]at e1;cases e1;rw[B9 hiσ]at e2;cases e2;exact ⟨u,r,.inl ⟨hk,by simp⟩⟩
   .rw[A7 (Ne.symm hj)]at e2;obtain ⟨u',r',q⟩:=hl j y v' e1 e2 e3;refine ⟨u',r',?_⟩;rcases q with ⟨k,e⟩|⟨k,c,e,z⟩
    .refine .inl ⟨k,?_⟩;have:y≠x:=λe=>hj (OL hN e1 (e▸hi));simp[this,e]
    .exact .inr ⟨k,c,e,z.sameBut hs (cne y c e)⟩
  .obtain ⟨w',z⟩:=I.cell y c e;exact ⟨w',z.sameBut hs (cne y c e)⟩
  .obtain ⟨e,n,ne,nf,d⟩:=I.pin p hp;exact ⟨(hs.2 p.1 ne).trans e,n,ne,nf,d⟩
 .have hfn:X.fn x=true:=by
   rcases hf with z|z
   .exact z
   .rw[z]at hk;cases hk
  obtain ⟨c,hc⟩:=I.ok.has x (.inl hk);obtain ⟨w',z⟩:=I.cell x c hc;refine wpAny_storeName_cell I.ok.kind hk hc z (λh' hc' hs=>?_);obtain ⟨oc,hoc,hocd⟩:=id z;refine h { s with heap:=h' } ⟨I.ok,I.os,I.bare,⟨λb o e n hb hx=>?_,λb o e n hb hx=>?_,I.base.free,λb o e hx=>?_,I.base.tups,I.base.frzs,I.base.tbls⟩,⟨m,hn.sameBut hs (Ne.symm (cne x c hc)),λj y v' e1 e2 e3=>?_⟩,λy c' e=>?_,I.free,I.freeC,λp hp=>?_,tracked ⟨oc,hoc,I.freeC x c hc⟩ hs,by simpa using I.len⟩ ⟨c,hs,.inr hc⟩
  .exact (hs.2 b (Ap (Ax (AH e) (I.ok.cab x c hfn hc)))).trans (I.base.keep b o e n hb hx)
  .obtain ⟨sl,e1⟩:=I.base.slot b o e n hb hx;exact ⟨sl,(hs.2 b (Ap (Ax (AH e) (I.ok.cab x c hfn hc)))).trans e1⟩
  .obtain ⟨o',e1⟩:=I.base.there b o e hx;exact ⟨o',(hs.2 b (Ap (Ax (AH e) (I.ok.cab x c hfn hc)))).trans e1⟩
  .by_cases hj:j=i
   .subst hj;rw[hi]at e1;cases e1;rw[B9 hiσ]at e2;cases e2;exact ⟨u,r,.inr ⟨.inl hk,c,hc,hc'⟩⟩
   .rw[A7 (Ne.symm hj)]at e2;obtain ⟨u',r',q⟩:=hl j y v' e1 e2 e3;refine ⟨u',r',?_⟩;rcases q with q|⟨k,c',e,z'⟩
    .exact .inl q
    .refine .inr ⟨k,c',e,z'.sameBut hs ?_⟩;rintro rfl;exact hj (OL hN e1 (I.ok.inj _ _ _ e hc▸hi))
  .by_cases hcc:c'=c
   .subst hcc;exact ⟨_,hc'⟩
   .obtain ⟨w2,z2⟩:=I.cell y c' e;exact ⟨w2,z2.sameBut hs hcc⟩
  .obtain ⟨e,n,ne,nf,d⟩:=I.pin p hp;refine ⟨(hs.2 p.1 ?_).trans e,n,ne,nf,d⟩;intro q;rw[q,hoc]at e;have q':oc=p.2:=CH e;exact d w' (by rw[<-q'];exact hocd)
def QF {M:Model} {A:Yn} {E:Yc} {i:Nat} {x:Str} {v:V} {u:Yu} {Q:Unit->Shared->Prop} (I:Inv X zB Y H s) (hN:X.N.Nodup) (hi:X.N[i]?=some x) (hx:Loc X.env.scope x) (r:zm v u)
  (h:∀ s',Inv X zB (Y.set i (some v)) H s'->Q () s') (hf:X.fn x=true\/X.env.scope.names.lookup x=some .local:=by first|exact .inl rfl|exact .inr rfl|assumption):wpAny M A (storeName X.env x u) Q E s :=
 ZY I hN hi hx r (λs' I' _=>h s' I') hf
def Inv.call' {s':Yl} {ch:Yg} (I:Inv X zB Y H s) (ho:s'.os=s.os) (u:Un (frs X.stack) ch H H' s.heap s'.heap) (hok:HOk X.prog X.w H' s'.heap) (hg:AllBare s'.gens)
  (hch:∀ b∈ch,(b∈X.ex\/X.s₀.heap.objs.size<=b)/\b≠X.env.locals/\(∀ x c,X.env.cells.lookup x=some c->c≠b) /\ ∀ p∈X.pn++zB,p.1≠b):Inv X zB Y H' s':=by
 obtain ⟨h',g',d',t',o'⟩:=s';have e:o'=s.os:=ho;subst e;exact I.call (g':=g') (t':=t') (d':=d') u hok hg hch
end
noncomputable abbrev XK:=Value->Option Addr->Hp->Prop
noncomputable abbrev St:=List (Option V)
noncomputable abbrev VK:=V->Hp->Prop
noncomputable abbrev TE:=St->Hp->VK->Prop
noncomputable abbrev TT:=St->Hp->(Bool->Hp->Prop)->Prop
noncomputable abbrev TA:=St->Hp->(List V->Hp->Prop)->Prop
structure Ends where
 nx:St->Hp->Prop
 rt:VK
 bk:St->Hp->Prop:=λ_ _=>False
 ct:St->Hp->Prop:=λ_ _=>False
noncomputable abbrev TS:=Ends->St->Hp->Prop
def EP (X:Cx) (zB:Yd) (Y:St) (Q:VK) (u:Yu) (s':Yl):Prop:=∃ v H',Inv X zB Y H' s'/\zm v u/\Q v H'
def TP (X:Cx) (zB:Yd) (Y:St) (Q:Bool->Hp->Prop) (b:Bool) (s':Yl):Prop:=∃ H',Inv X zB Y H' s'/\Q b H'
def AP (X:Cx) (zB:Yd) (Y:St) (Q:List V->Hp->Prop) (us:Yf) (s':Yl):Prop:=∃ vs H',Inv X zB Y H' s'/\zX vs us/\Q vs H'
def SP (X:Cx) (zB:Yd) (D:Ends) (f:Flow) (s':Yl):Prop :=
 match f with
 |.next=>∃ Y' H',Inv X zB Y' H' s'/\D.nx Y' H'
 |.brk=>∃ Y' H',Inv X zB Y' H' s'/\D.bk Y' H'
 |.cont=>∃ Y' H',Inv X zB Y' H' s'/\D.ct Y' H'
 |.ret u=>∃ v Y' H',Inv X zB Y' H' s'/\zm v u/\D.rt v H'
def PE (X:Cx) (e:Expr) (t:TE):Prop :=
 ∀ (zB:Yd) (s:Yl) (Y:St) (H:Hp) (Q:VK),Inv X zB Y H s->t Y H Q->wpAny (model X.prog X.w) X.A (eval e X.env) (EP X zB Y Q) X.xe s
def PT (X:Cx) (e:Expr) (t:TT):Prop :=
 ∀ (zB:Yd) (s:Yl) (Y:St) (H:Hp) (Q:Bool->Hp->Prop),Inv X zB Y H s->t Y H Q->wpAny (model X.prog X.w) X.A (isTrue e X.env (eval e X.env)) (TP X zB Y Q) X.xe s
def PW (X:Cx) (e:Expr) (t:TT):Prop :=
 ∀ (whole:Sem Value) (zB:Yd) (s:Yl) (Y:St) (H:Hp) (Q:Bool->Hp->Prop),Inv X zB Y H s->t Y H Q->wpAny (model X.prog X.w) X.A (isTrue e X.env whole) (TP X zB Y Q) X.xe s
def PW.pt {X:Cx} {e:Expr} {t:TT} (h:PW X e t):PT X e t:=h _
def PA (X:Cx) (es:Yi) (t:TA):Prop :=
 ∀ (pos:Pos) (zB:Yd) (s:Yl) (Y:St) (H:Hp) (Q:List V->Hp->Prop),Inv X zB Y H s->t Y H Q->wpAny (model X.prog X.w) X.A (spliced (backTo pos (starEach es X.env))) (AP X zB Y Q) X.xe s
def PS (X:Cx) (st:Stmt) (t:TS):Prop :=
 ∀ (zB:Yd) (s:Yl) (Y:St) (H:Hp) (D:Ends),Inv X zB Y H s->t D Y H->wpAny (model X.prog X.w) X.A (exec st X.env) (SP X zB D) X.xe s
def PSs (X:Cx) (st:Yy) (t:TS):Prop :=
 ∀ (zB:Yd) (s:Yl) (Y:St) (H:Hp) (D:Ends),Inv X zB Y H s->t D Y H->wpAny (model X.prog X.w) X.A (execs st X.env) (SP X zB D) X.xe s
def thn {α:Type} {t:Sem α} {Q Q':α->Shared->Prop} {M:Model} {A:Yn} {E:Yc} {s:Yl} (h:wpAny M A t Q E s) (hQ:∀ a s,Q a s->Q' a s):wpAny M A t Q' E s:=AX h hQ λ_ _ x=>x
section
variable {X:Cx}
noncomputable def Ly (i:Nat):TE:=λY H Q=>∃ v,Y[i]?=some (some v)/\Q v H
noncomputable def tC (v:V):TE:=λ_ H Q=>Q v H
def bU {i:Nat} {x:Str} {pos:Pos} (hN:X.N[i]?=some x) (hv:Vis X.env.scope x) (hd:(x==("__debug__" : Str))=false:=by decide) (hcd:(x==("__classdict__" : Str))=false:=by decide):PE X (.Name x pos) (Ly i):=by
 intro zB s Y H Q I h;obtain ⟨v,e,h⟩:=h;obtain ⟨m,hn,hl⟩:=I.loc;obtain ⟨u,r,l⟩:=hl i x v hN e hv;have fin:EP X zB Y Q u s:=⟨v,H,I,r,h⟩;rcases l with ⟨hk,hm⟩|⟨hk,c,hc,hcell⟩
 .exact wpAny_Name (wpAny_loadName_local I.ok.kind hk hn hm fin) hd
 .rcases hk with hk|hk
  .exact wpAny_Name (wpAny_loadName_cell I.ok.kind hk hc hcell fin) hd
  .exact wpAny_Name (wpAny_loadName_free I.ok.kind hk hc hcell fin hcd) hd
def cQ {i j pos}:PE X (.Constant (.int i) j pos) (tC (.int i)):=λ_ _ _ H _ I h=>wpAny_Constant_int ⟨.int i,H,I.tok _,⟨_,rfl⟩,h⟩
def TC {b j pos}:PE X (.Constant (.bool b) j pos) (tC (.bl b)):=λ_ _ _ H _ I h=>Constant_bool ⟨.bl b,H,I,rfl,h⟩
def XF {j pos}:PE X (.Constant .none j pos) (tC .non):=λ_ _ _ H _ I h=>Constant_none ⟨.non,H,I,rfl,h⟩
def Vz {x j pos}:PE X (.Constant (.str x) j pos) (tC (.str x)):=λ_ _ _ H _ I h=>Calls.Constant_str ⟨.str x,H,I.tok _,⟨_,rfl⟩,h⟩
def Gl (X:Cx) (x:Str):Prop:=X.env.kindOf x=some .globalImplicit
def cA {E:Yc} {zB:Yd} {s:Yl} {Y:St} {H:Hp} {x:Str} {u:Yu} {pos:Pos} {Q:Yc} (I:Inv X zB Y H s) (hg:Gl X x) (hm:X.mg x=some u) (h:Q u s)
  (hd:(x==("__debug__" : Str))=false:=by decide):wpAny (model X.prog X.w) X.A (eval (.Name x pos) X.env) Q E s :=
 Calls.Name_function_global I.ok.kind hg (Calls.loadGlobal_global (by rw[I.ok.glob];exact I.mod.glob.keeps I.bk) hm h) hd
def GU {E:Yc} {zB:Yd} {s:Yl} {Y:St} {H:Hp} {x:Str} {u:Yu} {pos:Pos} {Q:Yc} (I:Inv X zB Y H s) (hg:Gl X x) (hm:X.mg x=none) (hv:bootBuiltins x=some u) (h:Q u s)
  (hn:x ≠ "__name__" := by decide) (hd:(x==("__debug__" : Str))=false:=by decide):wpAny (model X.prog X.w) X.A (eval (.Name x pos) X.env) Q E s:=by
 obtain ⟨mb,h1,h2⟩:=I.mod.blt;exact Calls.Name_function_global I.ok.kind hg (Calls.loadGlobal_builtin (by rw[I.ok.glob];exact I.mod.glob.keeps I.bk) hm (by rw[I.ok.blt];exact h1.keeps I.bk) ((h2 x hn).trans hv) h) hd
def bW {x:Str} {v:V} {u:Value} {pos:Pos} (hg:Gl X x) (hm:X.mg x=none) (hv:bootBuiltins x=some u) (r:zm v u) (hn:x ≠ "__name__" := by decide) (hd:(x==("__debug__" : Str))=false:=by decide):PE X (.Name x pos) (tC v) :=
 λ_ _ _ H _ I h=>GU I hg hm hv ⟨v,H,I,r,h⟩ hn hd
variable {a b:Expr} {ta tb:TE} {pos:Pos}
def PC (X:Cx) (op:CmpOp) (a b:Expr) (t:TE):Prop :=
 ∀ (zB:Yd) (s:Yl) (Y:St) (H:Hp) (Q:VK),Inv X zB Y H s->t Y H Q ->
  wpAny (model X.prog X.w) X.A (eval a X.env) (λv s₁=>wpAny (model X.prog X.w) X.A (eval b X.env) (λu s₂=>wpAny (model X.prog X.w) X.A (compareOp op v u) (EP X zB Y Q) X.xe s₂) X.xe s₁) X.xe s
noncomputable def tB (t:TE):TT:=λY H Q=>t Y H λx H1=>∃ c,x=.bl c/\Q c H1
def SI {op:CmpOp} {t:TE} (h:PC X op a b t) (h1:behindInMarks op b=false:=by first|exact nobehind _ (by decide) (by decide)|rfl):PE X (.Compare a [op] [b] pos) t:=λzB s Y H Q I hw=>wpAny_Compare1 (h zB s Y H Q I hw) h1
def cV {op:CmpOp} {t:TE} (h:PC X op a b t) (h1:behindInMarks op b=false:=by first|exact nobehind _ (by decide) (by decide)|rfl):PT X (.Compare a [op] [b] pos) (tB t):=by
 intro zB s Y H Q I hw;refine wpAny_isTrue_Compare1 (thn (h zB s Y H _ I hw) λv s1 h1=>thn h1 λu s2 h2=>thn h2 λc s3 ⟨x,H1,I1,r1,q1⟩=>?_) h1;obtain ⟨d,rfl,q⟩:=q1;cases r1;exact Ff ⟨H1,I1,q⟩
def XM {e:Expr} {t:TE} (h:PE X e t) (he:∀ whole,isTrue e X.env whole=(do let v <- whole;standAt e.pos;holding [v] (truthy v)):=by intro _;rfl):PT X e (tB t):=by
 intro zB s Y H Q I hw;refine isTrue_plain (thn (h zB s Y H _ I hw) λv s1 ⟨x,H1,I1,r1,q1⟩=>?_) (he _);obtain ⟨d,rfl,q⟩:=q1;cases r1;exact Ff ⟨H1,I1,q⟩
variable {tA tB':TT} {rest:Yi}
noncomputable def Ze (t u:TT):TT:=λY H Q=>t Y H λc H1=>if c=true then u Y H1 Q else Q false H1
noncomputable def tOr (t u:TT):TT:=λY H Q=>t Y H λc H1=>if c=true then Q true H1 else u Y H1 Q
noncomputable def V0 (t:TT):TT:=λY H Q=>t Y H λc H1=>Q (!c) H1
def XH (ha:PT X a tA):PW X (.BoolOp .And [a] pos) tA:=by
 intro wh zB s Y H Q I h;refine isTrue_and (thn (ha zB s Y H Q I h) λc s1 e=>?_);cases c with
 |true=>exact isTrue_and_nil e
 |false=>exact e
def R8 (ha:PT X a tA):PW X (.BoolOp .Or [a] pos) tA:=by
 intro wh zB s Y H Q I h;refine isTrue_or (thn (ha zB s Y H Q I h) λc s1 e=>?_);cases c with
 |false=>exact isTrue_or_nil e
 |true=>exact e
def gO (ha:PT X a tA) (hb:PW X (.BoolOp .And (b::rest) pos) tB'):PW X (.BoolOp .And (a::b::rest) pos) (Ze tA tB'):=by
 intro wh zB s Y H Q I h;refine isTrue_and (thn (ha zB s Y H _ I h) λc s1 ⟨H1,I1,q1⟩=>?_);cases c with
 |true=>exact hb wh zB s1 Y H1 Q I1 q1
 |false=>exact ⟨H1,I1,q1⟩
def VJ (ha:PT X a tA) (hb:PW X (.BoolOp .Or (b::rest) pos) tB'):PW X (.BoolOp .Or (a::b::rest) pos) (tOr tA tB'):=by
 intro wh zB s Y H Q I h;refine isTrue_or (thn (ha zB s Y H _ I h) λc s1 ⟨H1,I1,q1⟩=>?_);cases c with
 |true=>exact ⟨H1,I1,q1⟩
 |false=>exact hb wh zB s1 Y H1 Q I1 q1
def b5 (ha:PT X a tA):PT X (.UnaryOp .Not a pos) (V0 tA):=by
 intro zB s Y H Q I h;exact isTrue_not (ha zB s Y H (λc H1=>Q (!c) H1) I h)
noncomputable def TY (ta tb:TE):TE:=λY H Q=>ta Y H λx H1=>∃ c,x=.bl c/\if c=true then tb Y H1 Q else Q (.bl false) H1
noncomputable def VS (ta:TE):TE:=λY H Q=>ta Y H λx H1=>∃ c,x=.bl c/\Q (.bl (!c)) H1
def UG {op} {t:TE} (h:PE X a t):PE X (.BoolOp op [a] pos) t:=λzB s Y H Q I hw=>BoolOp_one (h zB s Y H Q I hw)
def Sm (ha:PE X a ta) (hb:PE X (.BoolOp .And (b::rest) pos) tb):PE X (.BoolOp .And (a::b::rest) pos) (TY ta tb):=by
 intro zB s Y H Q I h;refine BoolOp_and (thn (ha zB s Y H _ I h) λv s1 ⟨x,H1,I1,r1,q1⟩=>?_);obtain ⟨c,rfl,q1⟩:=q1;cases r1;refine Ff ?_;cases c with
 |true=>exact hb zB s1 Y H1 Q I1 q1
 |false=>exact ⟨.bl false,H1,I1,rfl,q1⟩
def Ut (ha:PE X a ta):PE X (.UnaryOp .Not a pos) (VS ta):=by
 intro zB s Y H Q I h;refine UnaryOp_ (thn (ha zB s Y H _ I h) λv s1 ⟨x,H1,I1,r1,q1⟩=>?_);obtain ⟨c,rfl,q1⟩:=q1;cases r1;exact not_of (Ff ⟨.bl (!c),H1,I1,rfl,q1⟩)
noncomputable def tIf (t:TT) (ta tb:TE):TE:=λY H Q=>t Y H λc H1=>if c=true then ta Y H1 Q else tb Y H1 Q
def XB {c:Expr} (hc:PT X c tA) (ha:PE X a ta) (hb:PE X b tb):PE X (.IfExp c a b pos) (tIf tA ta tb):=by
 intro zB s Y H Q I h;refine wpAny_IfExp (thn (hc zB s Y H _ I h) λd s1 ⟨H1,I1,q1⟩=>?_);cases d with
 |true=>exact ha zB s1 Y H1 Q I1 q1
 |false=>exact hb zB s1 Y H1 Q I1 q1
end
def SqL (K:Yb) (H:Hp) (a:Yt) (xs:List V):Prop :=
 Rd H a (.lst xs) \/
  ∃ (o:Obj) (its:Array Value) (n:Nat),K.lookup a=some o/\o.cls=.type "list" /\ o.dict=none/\o.data=.seq its n/\its.size<=sizeLine/\zX xs its.toList
def SqT (K:Yb) (H:Hp) (a:Yt) (xs:List V):Prop :=
 Rd H a (.tup xs) \/
  ∃ (o:Obj) (its:Array Value) (n:Nat),K.lookup a=some o/\o.cls=.type "tuple" /\ o.data=.seq its n/\its.size<=sizeLine/\zX xs its.toList
noncomputable def cG:Value->Option V
 |.none=>some .non
 |.bool b=>some (.bl b)
 |.int i _=>some (.int i)
 |.str x _=>some (.str x)
 |.bytes b _=>some (.byt b)
 |.float b _=>some (.flt b)
 |.ref a=>some (.ref a)
 |.type n=>some (.ty n)
 |_=>none
def zm.abs {x:V} {u:Yu} (r:zm x u):cG u=some x:=by
 cases x with
 |non=>cases r;rfl
 |bl _=>cases r;rfl
 |int _=>obtain ⟨t,rfl⟩:=r;rfl
 |str _=>obtain ⟨t,rfl⟩:=r;rfl
 |byt _=>obtain ⟨t,rfl⟩:=r;rfl
 |flt _=>obtain ⟨t,rfl⟩:=r;rfl
 |ref _=>cases r;rfl
 |ty _=>cases r;rfl
def zm.inj {x y:V} {u:Yu} (r:zm x u) (q:zm y u):x=y:=CH (r.abs.symm.trans q.abs)
def zX.inj:∀ {xs ys:List V} {us:Yf},zX xs us->zX ys us->xs=ys
 |_,_,_,.nil,.nil=>rfl
 |_,_,_,.cons r t,.cons r' t'=>by rw[r.inj r',zX.inj t t']
section
variable {X:Cx} {zB:Yd} {Y:St} {H:Hp} {s:Yl} {a:Yt} {xs ys:List V}
def SqL.of {K:Yb} (h:H a=some (.lst xs)):SqL K H a xs:=.inl (.inl h)
def SqT.of {K:Yb} (h:H a=some (.tup xs)):SqT K H a xs:=.inl (.inl h)
def Inv.list (I:Inv X zB Y H s) (h:SqL X.K H a xs):∃ its:List Value,zX xs its/\PlainL s.heap a its.toArray/\xs.length<=sizeLine:=by
 rcases h with h|⟨o,its,n,hk,hc,hd,hs,hz,r⟩
 .obtain ⟨z,its,n,r,e⟩:=h.ok I.hok;exact ⟨its,r,⟨_,n,e,rfl,rfl,rfl⟩,z⟩
 .refine ⟨its.toList,r,⟨o,n,I.kIn a o hk,hc,hd,by simpa using hs⟩,?_⟩;have e:=r.length;simp only[Bn]at e;omega
def Inv.tuple (I:Inv X zB Y H s) (h:SqT X.K H a xs):∃ its:List Value,zX xs its/\IsTup s.heap a its.toArray/\xs.length<=sizeLine:=by
 rcases h with h|⟨o,its,n,hk,hc,hs,hz,r⟩
 .obtain ⟨z,its,r,p⟩:=h.ok I.hok;exact ⟨its,r,p.tup,z⟩
 .refine ⟨its.toList,r,⟨o,I.kIn a o hk,hc,n,by simpa using hs⟩,?_⟩;have e:=r.length;simp only[Bn]at e;omega
def Inv.list_inj (I:Inv X zB Y H s) (h:SqL X.K H a xs) (h':SqL X.K H a ys):xs=ys:=by
 obtain ⟨its,r,⟨o,n,e,_,_,d⟩,_⟩:=I.list h;obtain ⟨its',r',⟨o',n',e',_,_,d'⟩,_⟩:=I.list h';rw[e]at e';cases e';rw[d]at d';injection d' with d1 _
 have:its=its':=by simpa using Bv Array.toList d1
 subst this;exact r.inj r'
def Inv.tuple_inj (I:Inv X zB Y H s) (h:SqT X.K H a xs) (h':SqT X.K H a ys):xs=ys:=by
 obtain ⟨its,r,⟨o,e,_,n,d⟩,_⟩:=I.tuple h;obtain ⟨its',r',⟨o',e',_,n',d'⟩,_⟩:=I.tuple h';rw[e]at e';cases e';rw[d]at d';injection d' with d1 _
 have:its=its':=by simpa using Bv Array.toList d1
 subst this;exact r.inj r'
end
noncomputable abbrev Cx.wish (X:Cx) (E:Yc):Cx:={ X with xe:=E }
noncomputable abbrev Cx.nox (X:Cx):Cx:=X.wish λ_ _=>False
def Cx.Ok.wish {X:Cx} (ok:X.Ok) (E:Yc):(X.wish E).Ok :=
 ⟨ok.mod,ok.kind,ok.glob,ok.blt,ok.above,ok.inj,ok.has,ok.cab,ok.hd,ok.frames,ok.stk,ok.exf,ok.bs,ok.bsz,ok.noex,ok.exfs,ok.funs,ok.frf⟩
def Cx.Ok.unwish {X:Cx} {E:Yc} (ok:(X.wish E).Ok):X.Ok :=
 ⟨ok.mod,ok.kind,ok.glob,ok.blt,ok.above,ok.inj,ok.has,ok.cab,ok.hd,ok.frames,ok.stk,ok.exf,ok.bs,ok.bsz,ok.noex,ok.exfs,ok.funs,ok.frf⟩
section
variable {X:Cx} {zB:Yd} {Y:St} {H:Hp} {s:Yl} {E:Yc}
def Inv.wish (I:Inv X zB Y H s) (E:Yc):Inv (X.wish E) zB Y H s:=⟨I.ok.wish E,I.os,I.bare,I.base,I.loc,I.cell,I.free,I.freeC,I.pin,I.hok,I.len⟩
def Inv.unwish (I:Inv (X.wish E) zB Y H s):Inv X zB Y H s:=⟨I.ok.unwish,I.os,I.bare,I.base,I.loc,I.cell,I.free,I.freeC,I.pin,I.hok,I.len⟩
def SP.unwish {D:Ends} {f:Flow} {s':Yl} (h:SP (X.wish E) zB D f s'):SP X zB D f s':=by
 cases f with
 |next=>obtain ⟨Y',H',I,q⟩:=h;exact ⟨Y',H',I.unwish,q⟩
 |brk=>obtain ⟨Y',H',I,q⟩:=h;exact ⟨Y',H',I.unwish,q⟩
 |cont=>obtain ⟨Y',H',I,q⟩:=h;exact ⟨Y',H',I.unwish,q⟩
 |ret u=>obtain ⟨v,Y',H',I,r,q⟩:=h;exact ⟨v,Y',H',I.unwish,r,q⟩
def PSs.nox {st:Yy} {t:TS} (h:PSs X.nox st t):PSs X st t:=λzB s Y H D I hw=>
 AX (h zB s Y H D (I.wish _) hw) (λ_ _ q=>q.unwish) λ_ _ z=>False.elim z
end
section
variable {X:Cx} {st:Stmt} {rest:Yy} {t u:TS} {e:Expr} {te:TE} {pos:Pos}
noncomputable def X5:TS:=λD Y H=>D.nx Y H
noncomputable def XZ (t u:TS):TS:=λD Y H=>t { D with nx:=u D } Y H
def Zd:PSs X [] X5:=λ_ _ Y H _ I h=>wpAny_execs_nil ⟨Y,H,I,h⟩
def cS (h1:PS X st t) (h2:PSs X rest u):PSs X (st::rest) (XZ t u):=by
 intro zB s Y H D I h;refine wpAny_execs_cons (thn (h1 zB s Y H { D with nx:=u D } I h) λf s1 q=>?_);cases f with
 |next=>
  obtain ⟨Y',H',I',q⟩:=q;exact h2 zB s1 Y' H' D I' q
 |ret v=>exact q
 |brk=>exact q
 |cont=>exact q
def gR (h1:PS X st t):PSs X [st] t:=by
 intro zB s Y H D I h;refine wpAny_execs_cons (thn (h1 zB s Y H D I h) λf s1 q=>?_);cases f with
 |next=>exact wpAny_execs_nil q
 |ret v=>exact q
 |brk=>exact q
 |cont=>exact q
def Inv.quiet {zB:Yd} {Y:St} {H:Hp} {s:Yl} (I:Inv X zB Y H s):interactive X.env=false:=by simp[interactive,I.ok.kind]
noncomputable def RM (te:TE):TS:=λD Y H=>te Y H λ_ H1=>D.nx Y H1
def bG (he:PE X e te) (hs:swapsWith e none pos.line X.env=pure false:=by rfl):PS X (.Expr e pos) (RM te):=by
 intro zB s Y H D I h;exact wpAny_Expr_any (thn (he zB s Y H _ I h) λv s1 ⟨x,H1,I1,r1,q1⟩=>⟨Y,H1,I1,q1⟩) I.quiet hs
noncomputable def Y4 (te:TE):TS:=λD Y H=>te Y H D.rt
def Ub (he:PE X e te):PS X (.Return (some e) pos) (Y4 te):=by
 intro zB s Y H D I h;exact wpAny_Return_some (thn (he zB s Y H _ I h) λv s1 ⟨x,H1,I1,r1,q1⟩=>⟨x,Y,H1,I1,r1,q1⟩)
noncomputable def YH (c:TT) (t u:TS):TS:=λD Y H=>c Y H λb H1=>if b=true then t D Y H1 else u D Y H1
def eI {c:Expr} {a b:Yy} {tc:TT} (hc:PT X c tc) (ha:PSs X a t) (hb:PSs X b u):PS X (.If c a b pos) (YH tc t u):=by
 intro zB s Y H D I h;refine wpAny_If (thn (hc zB s Y H _ I h) λd s1 ⟨H1,I1,q1⟩=>?_);cases d with
 |true=>exact ha zB s1 Y H1 D I1 q1
 |false=>exact hb zB s1 Y H1 D I1 q1
end
noncomputable abbrev TG:=V->St->Hp->(St->Hp->Prop)->Prop
noncomputable abbrev TGs:=List V->St->Hp->(St->Hp->Prop)->Prop
def PG (X:Cx) (target:Expr) (t:TG):Prop :=
 ∀ (zB:Yd) (s:Yl) (Y:St) (H:Hp) (v:V) (u:Yu) (Q:St->Hp->Prop),Inv X zB Y H s->zm v u->t v Y H Q ->
  wpAny (model X.prog X.w) X.A (assign target X.env u) (λ_ s'=>∃ Y' H',Inv X zB Y' H' s'/\Q Y' H') X.xe s
def PGs (X:Cx) (ts:Yi) (t:TGs):Prop :=
 ∀ (zB:Yd) (s:Yl) (Y:St) (H:Hp) (vs:List V) (us:Yf) (Q:St->Hp->Prop),Inv X zB Y H s->zX vs us->t vs Y H Q ->
  wpAny (model X.prog X.w) X.A (assignInOrder ((assignEach ts X.env).map (·.2)) us) (λ_ s'=>∃ Y' H',Inv X zB Y' H' s'/\Q Y' H') X.xe s
noncomputable abbrev Kj:=V->V->V->Hp->(Hp->Prop)->Prop
def Qs (X:Cx) (t:Kj):Prop :=
 ∀ (zB:Yd) (s:Yl) (Y:St) (H:Hp) (o i v:V) (ov iv u:Yu) (Q:Hp->Prop),Inv X zB Y H s->zm o ov->zm i iv->zm v u->t o i v H Q ->
  wpAny (model X.prog X.w) X.A (setItem ov iv u) (λ_ s'=>∃ H',Inv X zB Y H' s'/\Q H') X.xe s
section
variable {X:Cx} {pos:Pos}
noncomputable def Ea (i:Nat):TG:=λv Y H Q=>Q (Y.set i (some v)) H
def Qp {i:Nat} {x:Str} (hN:X.N.Nodup) (hi:X.N[i]?=some x) (hx:Loc X.env.scope x) (hf:X.fn x=true\/X.env.scope.names.lookup x=some .local:=by first|exact .inl rfl|exact .inr rfl|assumption):PG X (.Name x pos) (Ea i):=by
 intro zB s Y H v u Q I r h;exact wpAny_assign_Name (QF I hN hi hx r (λs' I'=>⟨_,H,I',h⟩) hf)
noncomputable def N6:TGs:=λvs Y H Q=>vs=[]/\Q Y H
noncomputable def KG (t:TG) (u:TGs):TGs:=λvs Y H Q=>∃ v r,vs=v::r/\t v Y H λY' H'=>u r Y' H' Q
def Rm:PGs X [] N6:=by
 intro zB s Y H vs us Q I r h;obtain ⟨e,h⟩:=h;subst e;cases r;exact assignInOrder_nil ⟨Y,H,I,h⟩
def aQ {e:Expr} {es:Yi} {t:TG} {u:TGs} (h1:PG X e t) (h2:PGs X es u)
  (hs:(assignEach (e::es) X.env).map (·.2)=assign e X.env::(assignEach es X.env).map (·.2):=by rfl):PGs X (e::es) (KG t u):=by
 intro zB s Y H vs us Q I r h;obtain ⟨v,vr,e1,h⟩:=h;subst e1;cases r with
 |cons r rr=>
  rw[hs];refine assignInOrder_cons (thn (h1 zB s Y H _ _ _ I r h) λ_ s1 ⟨σ1,H1,I1,q1⟩=>?_);exact h2 zB s1 σ1 H1 _ _ Q I1 rr q1
noncomputable def Pa (K:Yb) (n:Nat) (t:TGs):TG:=λv Y H Q=>∃ a xs,v=.ref a/\SqT K H a xs/\xs.length=n/\t xs Y H Q
def Tq {es:Yi} {k:Nat} {t:TGs} {n:Nat} (hc:X.calm=true) (h:PGs X es t)
  (hn:(assignEach es X.env).length=n:=by rfl) (hst:(assignEach es X.env).findIdx? (·.1)=none:=by rfl):PG X (.Tuple es k pos) (Pa X.K n t):=by
 intro zB s Y H v u Q I r hw;obtain ⟨a,xs,e1,hq,hl,hw⟩:=hw;subst e1;cases r;obtain ⟨its,rv,ht,hz⟩:=I.tuple hq;refine assign_Tuple_tuple (I.ok.hd hc) ht (by simp[hn,<-hl,rv.length]) hst λh' hx=>?_;have I1:Inv X zB Y H { s with heap:=h' }:=I.kept (t':=s.toks) λb o e=>hx b o (Ap (AH e)) e;exact h zB _ Y H xs _ Q I1 (by simpa using rv) hw
noncomputable def RB (to ti:TE) (t:Kj):TG:=λv Y H Q=>to Y H λo H1=>ti Y H1 λi H2=>t o i v H2 λH3=>Q Y H3
def bX {o i:Expr} {to ti:TE} {t:Kj} (ho:PE X o to) (hi:PE X i ti) (hs:Qs X t)
  (ha:∀ v,assign (.Subscript o i pos) X.env v=(do
   let ov <- holding [v] (eval o X.env);let iv <- holding [v,ov] (eval i X.env);standAt pos;holding [v,ov,iv] (setItem ov iv v);release [v,ov,iv] []):=by intro _;rfl):PG X (.Subscript o i pos) (RB to ti t):=by
 intro zB s Y H v u Q I r h;rw[ha];refine AA (C7 (thn (ho zB s Y H _ I h) λov s1 ⟨x,H1,I1,r1,q1⟩=>?_));refine AA (C7 (thn (hi zB s1 Y H1 _ I1 q1) λiv s2 ⟨y,H2,I2,r2,q2⟩=>?_));refine AA (DM (AA (C7 (thn (hs zB s2 Y H2 x y v ov iv u _ I2 r1 r2 r q2) λ_ s3 ⟨H3,I3,q3⟩=>?_))));exact wpAny_release ⟨Y,H3,I3,q3⟩
noncomputable def Ip (te:TE) (g:TG):TS:=λD Y H=>te Y H λx H1=>g x Y H1 D.nx
def S7 {tg e:Expr} {te:TE} {g:TG} (he:PE X e te) (hg:PG X tg g) (hs:swapsWithSole [tg] e pos.line X.env=pure false:=by rfl) (hw:swappedStores [tg] e X.env=pure none:=by rfl)
  (h1:(assignEach [tg] X.env).map (·.2)=[assign tg X.env]:=by rfl):PS X (.Assign [tg] e pos) (Ip te g):=by
 intro zB s Y H D I h;refine wpAny_Assign_stores (thn (he zB s Y H _ I h) λv s1 ⟨x,H1,I1,r1,q1⟩=>?_) hs hw;rw[h1];exact thn (hg zB s1 Y H1 x v _ I1 r1 q1) λ_ s2 q=>q
def cB {i:Nat} {x:Str} {e:Expr} {te:TE} {pos':Pos} (hN:X.N.Nodup) (hi:X.N[i]?=some x) (hx:Loc X.env.scope x) (he:PE X e te) (hs:swapsWith e (some (.Name x pos')) pos.line X.env=pure false:=by rfl) (hf:X.fn x=true\/X.env.scope.names.lookup x=some .local:=by first|exact .inl rfl|exact .inr rfl|assumption) :
  PS X (.Assign [.Name x pos'] e pos) (Ip te (Ea i)):=by
 intro zB s Y H D I h;refine wpAny_Assign_Name (thn (he zB s Y H _ I h) λv s1 ⟨y,H1,I1,r1,q1⟩=>?_) hs;exact QF I1 hN hi hx r1 (λs2 I2=>⟨_,H1,I2,q1⟩) hf
noncomputable def NV (c:TT) (tb:TS):TS:=λD Y H=>∃ W:Nat->St->Hp->Prop,(∃ m,W m Y H) /\ ∀ m Y H,W m Y H ->
 c Y H λb H1=>if b=true then ∃ N:St->Hp->Prop,(∀ Y' H',N Y' H' -> ∃ m',m'<m/\W m' Y' H')/\tb { D with nx:=N,ct:=N,bk:=D.nx } Y H1 else D.nx Y H1
def SQ {c:Expr} {body:Yy} {tc:TT} {tb:TS} (hp:PassesOwn (model X.prog X.w) X.A X.env X.xe) (hc:PT X c tc) (hb:PSs X body tb):PS X (.While c body [] pos) (NV tc tb):=by
 intro zB s Y H D I h;obtain ⟨W,⟨m0,w0⟩,turn⟩:=h;refine wpAny_While (codeAny_whileLoop (λn s'=>∃ Y' H',Inv X zB Y' H' s'/\W n Y' H') ?_ m0 ⟨Y,H,I,w0⟩);rintro n s1 ⟨σ1,H1,I1,w1⟩;refine wpAny_passesOwn hp (thn (hc zB s1 σ1 H1 _ I1 (turn n σ1 H1 w1)) λb s2 ⟨H2,I2,q2⟩=>?_);cases b with
 |true=>
  obtain ⟨N,hN,q2⟩:=q2;rw[AB rfl];refine wpAny_passesOwn hp (thn (hb zB s2 σ1 H2 _ I2 q2) λf s3 q3=>?_);cases f with
  |next=>
   obtain ⟨σ3,H3,I3,n3⟩:=q3;obtain ⟨m',hm,w3⟩:=hN σ3 H3 n3;exact ⟨m',hm,σ3,H3,I3,w3⟩
  |cont=>
   obtain ⟨σ3,H3,I3,n3⟩:=q3;obtain ⟨m',hm,w3⟩:=hN σ3 H3 n3;exact ⟨m',hm,σ3,H3,I3,w3⟩
  |brk=>exact q3
  |ret v=>exact q3
 |false=>
  rw[AD Ay];exact wpAny_execs_nil ⟨σ1,H2,I2,q2⟩
end
structure It where
 go:Nat->Hp->Prop
 yld:Nat->Hp->V->Hp->Prop
 stop:Nat->Hp->Prop
def Bh (X:Cx) (zB:Yd) (H:Hp) (b:Yt):Prop :=
 H b=none/\b≠X.env.locals/\b∉X.fs/\(b∈X.ex\/X.s₀.heap.objs.size<=b)/\(∀ x c,X.env.cells.lookup x=some c->c≠b) /\ ∀ p∈X.pn++zB,p.1≠b
def Inv.fpOk {X:Cx} {zB:Yd} {Y:St} {H H':Hp} {s:Yl} {b:Yt} (I:Inv X zB Y H s) (hb:s.heap.objs.size<=b) (hn:H' b=none):Bh X zB H' b:=by
 refine ⟨hn,Nat.ne_of_gt (Ax I.lt hb),I.nofs hb,.inr (BA I.sz hb),λx c e z=>?_,λp hp z=>?_⟩
 .obtain ⟨v,q⟩:=I.cell x c e;exact absurd (Ax q.lt (by rw[z];exact hb)) (Bq _)
 .exact absurd (Ax (AH (I.pin p hp).1) (by rw[z];exact hb)) (Bq _)
structure Turn (P:Ym) (w:Yo) (K:Yb) (tg:Expr) (J:It) (fp:Yg) (it:Yt) (tn:Nat->Heap->Prop):Prop where
 mem:it∈fp
 obj:∀ i h,tn i h -> ∀ b∈fp,∃ o,h.get? b=some o /\ ∀ v,o.data≠.cell v
 keep:∀ i h h',tn i h->(∀ b∈fp,∀ o,h.get? b=some o->h'.get? b=some o)->tn i h'
 item:∀ (X:Cx),X.prog=P->X.w=w->X.K=K->X.calm=true -> ∀ (i:Nat) (zB:Yd) (s:Yl) (Y:St) (H:Hp) (E:Yc),Inv X zB Y H s->(∀ b∈fp,Bh X zB H b)->tn i s.heap->J.go i H ->
  wpAny (model P w) X.A (pyNext (.ref it)) (λr s1=>∃ u,r=some u /\
   wpAny (model P w) X.A (letOwnedTupleGo tg (.ref it) u) (λ_ s2=>∃ x H',Inv X zB Y H' s2/\zm x u/\J.yld i H x H'/\tn (i+1) s2.heap /\ ∀ b∈fp,H' b=none) E s1) E s
 done:∀ (X:Cx),X.prog=P->X.w=w->X.K=K->X.calm=true -> ∀ (i:Nat) (zB:Yd) (s:Yl) (Y:St) (H:Hp) (E:Yc),Inv X zB Y H s->(∀ b∈fp,Bh X zB H b)->tn i s.heap->J.stop i H ->
  wpAny (model P w) X.A (pyNext (.ref it)) (λr s1=>r=none/\Inv X zB Y H s1) E s
 self:∀ (A:Yn) (i:Nat) (s:Yl) (Q:Yc) (E:Yc),tn i s.heap->Q (.ref it) s->wpAny (model P w) A (pyIter (.ref it)) Q E s
noncomputable abbrev TI:=St->Hp->(It->Hp->Prop)->Prop
def PIE (X:Cx) (zB:Yd) (Y:St) (tg:Expr) (R:It->Hp->Prop) (itv:Yu) (s2:Yl):Prop :=
 ∃ (it:Yt) (fp:Yg) (tn:Nat->Heap->Prop) (J:It) (H':Hp),itv=.ref it/\Inv X zB Y H' s2/\Turn X.prog X.w X.K tg J fp it tn/\tn 0 s2.heap/\(∀ b∈fp,Bh X zB H' b)/\R J H'
def PI (X:Cx) (tg iter:Expr) (wi:TI):Prop :=
  ∀ (zB:Yd) (s:Yl) (Y:St) (H:Hp) (R:It->Hp->Prop),Inv X zB Y H s->wi Y H R ->
    wpAny (model X.prog X.w) X.A (eval iter X.env) (λv s1=>wpAny (model X.prog X.w) X.A (pyIter v) (PIE X zB Y tg R) X.xe s1) X.xe s
def Kp {M:Model} {A:Yn} {E:Yc} {s:Yl} {tg:Expr} {it:Yt} {u:Yu} {o:Obj} {n:String} {vs:Yp} {Q:Unit->Shared->Prop} (ho:s.heap.get? it=some o) (hc:o.cls=.type n) (hd:o.data=.fields vs)
    (hn:["enumerate", "zip", "dict_itemiterator", "dict_reverseitemiterator", "odict_iterator", "itertools.zip_longest", "itertools.pairwise"].contains n=false) (hQ:Q () s):wpAny M A (letOwnedTupleGo tg (.ref it) u) Q E s:=by
  unfold letOwnedTupleGo
  cases tg <;> first
    |exact AE hQ
    | (cases u <;> first
        |exact AE hQ
        | (refine AA (wpAny_load ho ?_)
           rw[hc,hd];show wpAny M A (if (["enumerate", "zip", "dict_itemiterator", "dict_reverseitemiterator", "odict_iterator", "itertools.zip_longest", "itertools.pairwise"].contains n&&vs[0]?==some (rawInt _))=true then _ else _) Q E s;rw[AD (by intro h;rw[hn,Bool.false_and]at h;cases h)];exact AE hQ))
noncomputable def Itl (K:Yb) (a:Yt):It :=
 ⟨λi H=>∃ xs x,SqL K H a xs/\xs[i]?=some x,λi H x H'=>H'=H /\ ∀ xs,SqL K H a xs->xs[i]?=some x,λi H=>∃ xs,SqL K H a xs/\xs.length<=i⟩
noncomputable def Itt (K:Yb) (a:Yt):It :=
 ⟨λi H=>∃ xs x,SqT K H a xs/\xs[i]?=some x,λi H x H'=>H'=H /\ ∀ xs,SqT K H a xs->xs[i]?=some x,λi H=>∃ xs,SqT K H a xs/\xs.length<=i⟩
noncomputable def Itr (lo:Int) (n:Nat):It:=⟨λi _=>i<n,λi H x H'=>H'=H/\x=.int (lo+i),λi _=>n<=i⟩
def Tn {P:Ym} {w:Yo} {K:Yb} {tg:Expr} (a it:Yt):Turn P w K tg (Itl K a) [it] it (λi h=>h.IsListIter it a i) where
 mem:=by simp
 obj:=λi h st b hb=>by
  have e:b=it:=by simpa using hb
  subst e;obtain ⟨o,e,c,d⟩:=st;exact ⟨o,e,λv z=>by rw[d]at z;cases z⟩
 keep:=λi h h' st k=>st.at λo e=>k it (by simp) o e;item:=by
  intro X hP hw hK hc i zB s Y H E I hf st hg;subst hP hw hK;obtain ⟨xs,x,hq,hx⟩:=hg;obtain ⟨its,rv,p,hz⟩:=I.list hq;obtain ⟨u,hu,ru⟩:=rv.get hx;obtain ⟨f0,f1,f2,f3,f4,f5⟩:=hf it (by simp);refine wpAny_pyNext_list_item st p.isList (x:=u) (by simpa using hu) λh' st' sb=>?_;have I1:Inv X zB Y H { s with heap:=h' }:=I.turned (t':=s.toks) (λb o hb e=>(sb.2 b hb).trans e) f0 f1 f3 f4 f5;obtain ⟨o,e,c,d⟩:=id st';exact ⟨u,rfl,Kp (s:={ s with heap:=h' }) e c d (by decide) ⟨x,H,I1,ru,⟨rfl,λys hy=>by rw[I.list_inj hy hq];exact hx⟩,st',λb hb=>(hf b hb).1⟩⟩
 done:=by
  intro X hP hw hK hc i zB s Y H E I hf st hg;subst hP hw hK;obtain ⟨xs,hq,hx⟩:=hg;obtain ⟨its,rv,p,hz⟩:=I.list hq;obtain ⟨f0,f1,f2,f3,f4,f5⟩:=hf it (by simp);have hl:=rv.length;exact wpAny_pyNext_list_end (I.ok.hd hc) st p.isList (by simp;omega) λh' eb=>⟨rfl,I.turned (t':=s.toks) (λb o hb e=>eb b o hb e) f0 f1 f3 f4 f5⟩
 self:=λ_ _ _ _ _ st h=>wpAny_pyIter_listiter st h
def Zv {P:Ym} {w:Yo} {K:Yb} {tg:Expr} (a it:Yt):Turn P w K tg (Itt K a) [it] it (λi h=>h.IsTupleIter it a i) where
 mem:=by simp
 obj:=λi h st b hb=>by
  have e:b=it:=by simpa using hb
  subst e;obtain ⟨o,e,c,d⟩:=st;exact ⟨o,e,λv z=>by rw[d]at z;cases z⟩
 keep:=λi h h' st k=>st.at λo e=>k it (by simp) o e;item:=by
  intro X hP hw hK hc i zB s Y H E I hf st hg;subst hP hw hK;obtain ⟨xs,x,hq,hx⟩:=hg;obtain ⟨its,rv,p,hz⟩:=I.tuple hq;obtain ⟨u,hu,ru⟩:=rv.get hx;obtain ⟨f0,f1,f2,f3,f4,f5⟩:=hf it (by simp);refine wpAny_pyNext_tuple_item st (show s.heap.IsTuple a its.toArray from p) (x:=u) (by simpa using hu) λh' st' sb=>?_;have I1:Inv X zB Y H { s with heap:=h' }:=I.turned (t':=s.toks) (λb o hb e=>(sb.2 b hb).trans e) f0 f1 f3 f4 f5;obtain ⟨o,e,c,d⟩:=id st';exact ⟨u,rfl,Kp (s:={ s with heap:=h' }) e c d (by decide) ⟨x,H,I1,ru,⟨rfl,λys hy=>by rw[I.tuple_inj hy hq];exact hx⟩,st',λb hb=>(hf b hb).1⟩⟩
 done:=by
  intro X hP hw hK hc i zB s Y H E I hf st hg;subst hP hw hK;obtain ⟨xs,hq,hx⟩:=hg;obtain ⟨its,rv,p,hz⟩:=I.tuple hq;obtain ⟨f0,f1,f2,f3,f4,f5⟩:=hf it (by simp);have hl:=rv.length;exact wpAny_pyNext_tuple_end (I.ok.hd hc) st (show s.heap.IsTuple a its.toArray from p) (by simp;omega) λh' eb=>⟨rfl,I.turned (t':=s.toks) (λb o hb e=>eb b o hb e) f0 f1 f3 f4 f5⟩
 self:=λ_ _ _ _ _ st h=>wpAny_pyIter_tupleiter st h
def Zg {P:Ym} {w:Yo} {K:Yb} {tg:Expr} (it:Yt) (lo:Int) (n:Nat):Turn P w K tg (Itr lo n) [it] it (λi h=>IsRangeIter h it (lo+(i:Nat)*1) ((n:Int)-(i:Nat)) 1) where
 mem:=by simp
 obj:=λi h st b hb=>by
  have e:b=it:=by simpa using hb
  subst e;exact ⟨_,st,λv z=>by
   have z':Data.fields _=Data.cell v:=z;cases z'⟩
 keep:=λi h h' st k=>k it (by simp) _ st;item:=by
  intro X hP hw hK hc i zB s Y H E I hf st hg;subst hP hw hK;obtain ⟨f0,f1,f2,f3,f4,f5⟩:=hf it (by simp);have W:=Walks.range (prog:=X.prog) (w:=X.w) (I.ok.hd hc) it lo 1 n;refine W.item i s _ _ hg st λv h' tk hv st' kk=>?_;obtain ⟨t,rfl⟩:=hv;have I1:Inv X zB Y H { s with heap:=h',toks:=tk }:=I.turned (λb o hb e=>kk b o (by simpa using hb) e) f0 f1 f3 f4 f5;refine ⟨_,rfl,Kp (s:={ s with heap:=h',toks:=tk }) (n := "range_iterator") st' rfl rfl (by decide) ⟨.int (lo+i),H,I1,⟨t,?_⟩,⟨rfl,rfl⟩,st',λb hb=>(hf b hb).1⟩⟩;rw[Int.mul_one]
 done:=by
  intro X hP hw hK hc i zB s Y H E I hf st hg;subst hP hw hK;obtain ⟨f0,f1,f2,f3,f4,f5⟩:=hf it (by simp);exact wpAny_pyNext_range_end (I.ok.hd hc) st (by have:n<=i:=hg;omega) λh' eb=>⟨rfl,I.turned (t':=s.toks) (λb o hb e=>eb b o hb e) f0 f1 f3 f4 f5⟩
 self:=λ_ _ _ _ _ st h=>wpAny_pyIter_rangeiter st h
section
variable {X:Cx} {tg:Expr}
def SJ {zB:Yd} {Y:St} {H:Hp} {s:Yl} {R:It->Hp->Prop} {E:Yc} {lo hi:Int} {t u v:Tok} {tk:Nat} (I:Inv X zB Y H s) (h1 : -(2 ^ 62)<=lo) (h2:lo<2 ^ 62) (h3 : -(2 ^ 62)<=hi) (h4:hi<2 ^ 62)
  (q:R (Itr lo (hi-lo).toNat) H):wpAny (model X.prog X.w) X.A (pyIter (.ref s.heap.objs.size)) (PIE X zB Y tg R) E { s with heap:=s.heap.push { cls:=.type "range", data:=.fields #[.int lo t,.int hi u,.int 1 v] },toks:=tk }:=by
 refine wpAny_pyIter_range (IsRange.new ..) (small_one h1 h2 h3 h4) ?_;have I1:Inv X zB Y H { s with heap:=s.heap.push { cls:=.type "range", data:=.fields #[.int lo t,.int hi u,.int 1 v] },toks:=tk }:=I.kept λb o e=>AJ _ e
 refine ⟨(s.heap.push { cls:=.type "range", data:=.fields #[.int lo t,.int hi u,.int 1 v] }).objs.size,[(s.heap.push { cls:=.type "range", data:=.fields #[.int lo t,.int hi u,.int 1 v] }).objs.size],_,_,H,rfl,
  I1.kept (t':=tk) λb o e=>AJ _ e,Zg _ lo (hi-lo).toNat,?_,λb hb=>?_,q⟩
 .have e1:lo+((0:Nat):Int)*1=lo:=by simp
  have e2:(((hi-lo).toNat:Nat):Int)-((0:Nat):Int)=Builtin.Range.rangeSize lo hi 1:=by rw[rangeSize_one];split <;> omega
  show IsRangeIter _ _ (lo+((0:Nat):Int)*1) ((((hi-lo).toNat:Nat):Int)-((0:Nat):Int)) 1;rw[e1,e2];exact Aj _ rfl
 .have e:b=(s.heap.push { cls:=.type "range", data:=.fields #[.int lo t,.int hi u,.int 1 v] }).objs.size:=by simpa using hb
  subst e;exact I1.fpOk (AG _) (I1.hok.fresh (AG _))
noncomputable def TM (ta:TA):TI:=λY H R=>ta Y H λvs H1=>∃ j:Int,vs=[.int j] /\ -(2 ^ 62)<=j/\j<2 ^ 62/\R (Itr 0 j.toNat) H1
def Wz {a:Expr} {ta:TA} {p pos:Pos} (hg:Gl X "range") (hm:X.mg "range" = none) (ha:PA X [a] ta) (hs:starEach [a] X.env=[(false,eval a X.env)]:=by rfl):PI X tg (.Call (.Name "range" p) [a] [] pos) (TM ta):=by
 intro zB s Y H R I h;refine Call_ (GU I hg hm boot_range (PyProof.Rows.callWith_type1 (thn (ha pos zB s Y H _ I h) λus s1 ⟨vs,H1,I1,r1,q1⟩=>?_) hs rfl));obtain ⟨j,e,q1,q2,q⟩:=q1;subst e;cases r1 with
 |cons r rr=>
  cases rr;obtain ⟨t,rfl⟩:=r;exact call_range_1 (SJ I1 (by omega) (by omega) q1 q2 (by simpa using q))
noncomputable def Qb (wi:TI) (g:TG) (tb:TS):TS:=λD Y H=>wi Y H λJ H1=>∃ W:Nat->Nat->St->Hp->Prop,(∃ m,W 0 m Y H1) /\ ∀ i m Y H,W i m Y H ->
 (J.stop i H/\D.nx Y H)\/(J.go i H /\ ∃ N:St->Hp->Prop,(∀ Y' H',N Y' H' -> ∃ m',m'<m/\W (i+1) m' Y' H') /\ ∀ x H',J.yld i H x H'->g x Y H' λσ2 H2=>tb { D with nx:=N,ct:=N,bk:=D.nx } σ2 H2)
noncomputable def Ef (fp:Yg) (h:Heap):List (Addr × Obj):=fp.filterMap λb=>(h.get? b).map λo=>(b,o)
def EA {fp:Yg} {h:Heap} {b:Yt} {o:Obj} (hb:b∈fp) (e:h.get? b=some o):(b,o)∈Ef fp h:=List.mem_filterMap.mpr ⟨b,hb,by rw[e];rfl⟩
def QC {fp:Yg} {h:Heap} {p:Addr × Obj} (hp:p∈Ef fp h):p.1∈fp/\h.get? p.1=some p.2:=by
 obtain ⟨b,hb,e⟩:=List.mem_filterMap.mp hp;cases q:h.get? b with
 |none=>rw[q]at e;cases e
 |some o=>
  rw[q]at e;have e':(b,o)=p:=CH e;subst e';exact ⟨hb,q⟩
def Inv.pinned {zB:Yd} {Y:St} {H:Hp} {s:Yl} {fp:Yg} (I:Inv X zB Y H s) (hf:∀ b∈fp,Bh X zB H b) (ho:∀ b∈fp,∃ o,s.heap.get? b=some o /\ ∀ v,o.data≠.cell v):Inv X (zB++Ef fp s.heap) Y H s :=
 I.pins_of λp hp=>(AS.mp hp).elim (λz=>I.pin p (Ar _ z)) λz=>by
  obtain ⟨hb,e⟩:=QC z;obtain ⟨f0,f1,f2,_⟩:=hf p.1 hb;obtain ⟨o,e',d⟩:=ho p.1 hb;rw[e]at e';cases e';exact ⟨e,f0,f1,f2,d⟩
def Inv.unpinned {zB pl:Yd} {Y:St} {H:Hp} {s:Yl} (I:Inv X (zB++pl) Y H s):Inv X zB Y H s:=I.pins_of λp hp=>I.pin p (Ar _ (Cr _ hp))
def WY {iter:Expr} {body:Yy} {wi:TI} {g:TG} {tb:TS} {pos:Pos} (hp:PassesOwn (model X.prog X.w) X.A X.env X.xe) (hc:X.calm=true) (hi:PI X tg iter wi) (hg:PG X tg g) (hb:PSs X body tb)
  (hs:∀ x,foldedSetIterable iter X.env x=pure x:=by intro _;rfl):PS X (.For tg iter body [] pos) (Qb wi g tb):=by
 intro zB s Y H D I h;refine wpAny_For (thn (hi zB s Y H _ I h) λv s1 h1=>thn h1 λitv s2 h2=>?_) hs;obtain ⟨it,fp,tn,J,H2,e,I2,T,st2,f2,W,⟨m0,w0⟩,turn⟩:=h2;subst e;have stat:∀ {H':Hp},(∀ b∈fp,H' b=none) -> ∀ b∈fp,Bh X zB H' b:=λhn b hb=>⟨hn b hb,(f2 b hb).2⟩;refine codeAny_forLoop_any (λn s'=>∃ i Y' H',Inv X zB Y' H' s'/\tn i s'.heap/\(∀ b∈fp,H' b=none)/\W i n Y' H') ?_ m0 ⟨0,Y,H2,I2,st2,λb hb=>(f2 b hb).1,w0⟩;rintro n s3 ⟨i,σ3,H3,I3,st3,fr3,w3⟩;rcases turn i n σ3 H3 w3 with ⟨stop,qn⟩|⟨go,N,hN,step⟩
 .refine wpAny_passesOwn hp (thn (T.done X rfl rfl rfl hc i zB s3 σ3 H3 X.xe I3 (stat fr3) st3 stop) λr s4 ⟨hr,I4⟩=>?_);subst hr;exact wpAny_execs_nil ⟨σ3,H3,I4,qn⟩
 .refine wpAny_passesOwn hp (thn (T.item X rfl rfl rfl hc i zB s3 σ3 H3 X.xe I3 (stat fr3) st3 go) λr s4 ⟨u,hr,h4⟩=>?_);subst hr;refine wpAny_passesOwn hp (thn h4 λ_ s5 ⟨x,H5,I5,r5,y5,st5,fr5⟩=>?_);have I5':=I5.pinned (stat fr5) (T.obj _ _ st5);refine wpAny_passesOwn hp (thn (hg _ s5 σ3 H5 x u _ I5' r5 (step x H5 y5)) λ_ s6 ⟨σ6,H6,I6,q6⟩=>?_);refine wpAny_passesOwn hp (thn (hb _ s6 σ6 H6 _ I6 q6) λf s7 q7=>?_);have again:∀ {σ7:St} {H7:Hp},Inv X (zB++Ef fp s5.heap) σ7 H7 s7->N σ7 H7 -> ∃ m,m<n /\ ∃ i Y' H',Inv X zB Y' H' s7/\tn i s7.heap/\(∀ b∈fp,H' b=none)/\W i m Y' H':=λ{σ7 H7} I7 n7=>by
   obtain ⟨m',hm,w7⟩:=hN σ7 H7 n7;refine ⟨m',hm,i+1,σ7,H7,I7.unpinned,T.keep _ _ _ st5 λb hb o e=>(I7.pin (b,o) (Ar _ (Ar _ (EA hb e)))).1,λb hb=>?_,w7⟩;obtain ⟨o,e,d⟩:=T.obj _ _ st5 b hb;exact (I7.pin (b,o) (Ar _ (Ar _ (EA hb e)))).2.1
  cases f with
  |next=>obtain ⟨σ7,H7,I7,n7⟩:=q7;exact again I7 n7
  |cont=>obtain ⟨σ7,H7,I7,n7⟩:=q7;exact again I7 n7
  |brk=>obtain ⟨σ7,H7,I7,q7⟩:=q7;exact ⟨σ7,H7,I7.unpinned,q7⟩
  |ret v=>obtain ⟨x7,σ7,H7,I7,r7,q7⟩:=q7;exact ⟨x7,σ7,H7,I7.unpinned,r7,q7⟩
end
noncomputable abbrev R2:=V->V->Hp->VK->Prop
def OpR (X:Cx) (f:Y2) (r:R2):Prop :=
 ∀ (zB:Yd) (s:Yl) (Y:St) (H:Hp) (x y:V) (v u:Yu) (Q:VK),Inv X zB Y H s->zm x v->zm y u->r x y H Q ->
  wpAny (model X.prog X.w) X.A (f v u) (EP X zB Y Q) X.xe s
def UnR (X:Cx) (f:Value->Sem Value) (r:V->Hp->VK->Prop):Prop :=
 ∀ (zB:Yd) (s:Yl) (Y:St) (H:Hp) (x:V) (v:Yu) (Q:VK),Inv X zB Y H s->zm x v->r x H Q ->
  wpAny (model X.prog X.w) X.A (f v) (EP X zB Y Q) X.xe s
def Cm (X:Cx) (f:Yu) (r:List V->Hp->VK->Prop):Prop :=
 ∀ (zB:Yd) (s:Yl) (Y:St) (H:Hp) (xs:List V) (us:Yf) (Q:VK),Inv X zB Y H s->zX xs us->r xs H Q ->
  wpAny (model X.prog X.w) X.A (call f us) (EP X zB Y Q) X.xe s
noncomputable def tOp (r:R2) (ta tb:TE):TE:=λY H Q=>ta Y H λx H1=>tb Y H1 λy H2=>r x y H2 Q
noncomputable def tUn (r:V->Hp->VK->Prop) (ta:TE):TE:=λY H Q=>ta Y H λx H1=>r x H1 Q
noncomputable def rI (C:Int->Int->Prop) (g:Int->Int->V):R2:=λx y H Q=>∃ i j,x=.int i/\y=.int j/\C i j/\Q (g i j) H
noncomputable def rI0 (g:Int->Int->V):R2:=λx y H Q=>∃ i j,x=.int i/\y=.int j/\Q (g i j) H
def rU (g:Int->V):V->Hp->VK->Prop:=λx H Q=>∃ i,x=.int i/\Q (g i) H
section
variable {X:Cx} {a b c:Expr} {ta tb tc:TE} {pos:Pos}
def KS (ha:PE X a ta) (hb:PE X b tb) {zB:Yd} {s:Yl} {Y:St} {H:Hp} {R:V->V->Hp->Prop} (I:Inv X zB Y H s)
  (h:ta Y H λx H1=>tb Y H1 λy H2=>R x y H2) {Q:Yc} {f:Y2}
  (hf:∀ v u s2 x y H2,Inv X zB Y H2 s2->zm x v->zm y u->R x y H2->wpAny (model X.prog X.w) X.A (f v u) Q X.xe s2) :
  wpAny (model X.prog X.w) X.A (eval a X.env) (λv s₁=>wpAny (model X.prog X.w) X.A (eval b X.env) (λu s₂=>wpAny (model X.prog X.w) X.A (f v u) Q X.xe s₂) X.xe s₁) X.xe s:=by
 refine thn (ha zB s Y H _ I h) λv s1 ⟨x,H1,I1,r1,q1⟩=>?_;refine thn (hb zB s1 Y H1 _ I1 q1) λu s2 ⟨y,H2,I2,r2,q2⟩=>?_;exact hf v u s2 x y H2 I2 r1 r2 q2
def UI {op:Operator} {r:R2} (ho:OpR X (binaryOp op) r) (ha:PE X a ta) (hb:PE X b tb):PE X (.BinOp a op b pos) (tOp r ta tb):=by
 intro zB s Y H Q I h;exact wpAny_BinOp (KS ha hb I h λv u s2 x y H2 I2 rx ry q=>ho zB s2 Y H2 x y v u Q I2 rx ry q)
def Wu {op:UnaryOp} {r:V->Hp->VK->Prop} (ho:UnR X (unaryOp op) r) (ha:PE X a ta):PE X (.UnaryOp op a pos) (tUn r ta):=by
 intro zB s Y H Q I h;exact UnaryOp_ (thn (ha zB s Y H _ I h) λv s1 ⟨x,H1,I1,r1,q1⟩=>ho zB s1 Y H1 x v Q I1 r1 q1)
def opI {f:Y2} {C:Int->Int->Prop} {g:Int->Int->Int}
  (rule:∀ (i j:Int) (t u:Tok) (s:Yl) (Q:Yc) (E:Yc),C i j->Q (.int (g i j) s.toks) { s with toks:=s.toks+1 }->wpAny (model X.prog X.w) X.A (f (.int i t) (.int j u)) Q E s) :
  OpR X f (rI C λi j=> .int (g i j)):=by
 intro zB s Y H x y v u Q I rx ry h;obtain ⟨i,j,rfl,rfl,hc,q⟩:=h;obtain ⟨t,rfl⟩:=rx;obtain ⟨t',rfl⟩:=ry;exact rule i j t t' s _ _ hc ⟨.int (g i j),H,I.tok _,⟨_,rfl⟩,q⟩
def NC {f:Y2} {g:Int->Int->Int}
  (rule:∀ (i j:Int) (t u:Tok) (s:Yl) (Q:Yc) (E:Yc),Q (.int (g i j) s.toks) { s with toks:=s.toks+1 }->wpAny (model X.prog X.w) X.A (f (.int i t) (.int j u)) Q E s) :
  OpR X f (rI0 λi j=> .int (g i j)):=by
 intro zB s Y H x y v u Q I rx ry h;obtain ⟨i,j,rfl,rfl,q⟩:=h;obtain ⟨t,rfl⟩:=rx;obtain ⟨t',rfl⟩:=ry;exact rule i j t t' s _ _ ⟨.int (g i j),H,I.tok _,⟨_,rfl⟩,q⟩
def Jn {f:Y2} {g:Int->Int->Bool}
  (rule:∀ (i j:Int) (t u:Tok) (s:Yl) (Q:Yc) (E:Yc),Q (.bool (g i j)) s->wpAny (model X.prog X.w) X.A (f (.int i t) (.int j u)) Q E s) :
  OpR X f (rI0 λi j=> .bl (g i j)):=by
 intro zB s Y H x y v u Q I rx ry h;obtain ⟨i,j,rfl,rfl,q⟩:=h;obtain ⟨t,rfl⟩:=rx;obtain ⟨t',rfl⟩:=ry;exact rule i j t t' s _ _ ⟨.bl (g i j),H,I,rfl,q⟩
def Se (i j:Int):Prop:=0<j/\j<1073741824
def T3 (i j:Int):Prop:=0<=j/\j<=1000000/\i.natAbs<2 ^ 64
def LU (i j:Int):Prop:=(-(2 ^ 64)<i/\i<2 ^ 64)\/(-(2 ^ 64)<j/\j<2 ^ 64)
def LU.ok {i j:Int} (h:LU i j):IntMulOk i j:=by
 rcases h with ⟨h1,h2⟩|⟨h1,h2⟩
 .exact .of_left (intBits_le_64 h1 h2)
 .exact .of_right (intBits_le_64 h1 h2)
def TV:OpR X (binaryOp .Add) (rI0 λi j=> .int (i+j)):=NC λ_ _ _ _ _ _ _ q=>add_int q
def Xl:OpR X (binaryOp .Sub) (rI0 λi j=> .int (i-j)):=NC λ_ _ _ _ _ _ _ q=>sub_int q
def Xy:OpR X (binaryOp .Mult) (rI LU λi j=> .int (i*j)):=opI λ_ _ _ _ _ _ _ hc q=>mul_int q hc.ok
def dR:OpR X (binaryOp .FloorDiv) (rI Se λi j=> .int (i / j)):=opI λi j _ _ _ _ _ hc q=>by
 have h1:(0:Int)<j:=hc.1;have h2:j<1073741824:=hc.2;exact floordiv_int (by omega) (by rw[Int.fdiv_eq_ediv_of_nonneg i (by omega)];exact q) (.inl (PyProof.noPylong_small (by omega)))
def fT:OpR X (binaryOp .Mod) (rI (λ_ j=>0<j) λi j=> .int (i % j)):=opI λi j _ _ _ _ _ hc q=>by
 have h1:(0:Int)<j:=hc;exact mod_int' (by omega) (by rw[Int.fmod_eq_emod_of_nonneg i (by omega)];exact q)
def ZO:OpR X (binaryOp .Pow) (rI T3 λi j=> .int (i ^ j.toNat)):=opI λ_ _ _ _ _ _ _ hc q=>pow_int_small hc.1 hc.2.1 hc.2.2 q
def unI {f:Value->Sem Value} {g:Int->Int}
  (rule:∀ (i:Int) (t:Tok) (s:Yl) (Q:Yc) (E:Yc),Q (.int (g i) s.toks) { s with toks:=s.toks+1 }->wpAny (model X.prog X.w) X.A (f (.int i t)) Q E s) :
  UnR X f (rU λi=> .int (g i)):=by
 intro zB s Y H x v Q I rx h;obtain ⟨i,rfl,q⟩:=h;obtain ⟨t,rfl⟩:=rx;exact rule i t s _ _ ⟨.int (g i),H,I.tok _,⟨_,rfl⟩,q⟩
def cN:UnR X (unaryOp .USub) (rU λi=> .int (-i)):=unI λ_ _ _ _ _ q=>neg_int q
end
noncomputable def JW:V->V->Bool
 |.non,.non=>true|.non,.int _=>true|.int _,.non=>true|.non,.bl _=>true|.bl _,.non=>true|.non,.str _=>true|.str _,.non=>true
 |.int _,.int _=>true|.bl _,.bl _=>true|.str _,.str _=>true|.byt _,.byt _=>true
 |.int _,.str _=>true|.str _,.int _=>true|.bl _,.str _=>true|.str _,.bl _=>true
 |_,_=>false
noncomputable def rEq:R2:=λx y H Q=>JW x y=true/\Q (.bl (decide (x=y))) H
noncomputable def rNe:R2:=λx y H Q=>JW x y=true/\Q (.bl (!decide (x=y))) H
def OB {i j:Int}:decide (V.int i=V.int j)=(i==j):=by
 rw[En];simp
def PH {i j:Bool}:decide (V.bl i=V.bl j)=(i==j):=by
 rw[En];simp
def Ng {i j:Str}:decide (V.str i=V.str j)=(i==j):=by
 rw[En];simp
def QH {i j:Array UInt8}:decide (V.byt i=V.byt j)=(i.toList==j.toList):=by
 rw[En];cases i;cases j;simp
section
variable {X:Cx} {a b c:Expr} {ta tb tc:TE} {pos:Pos}
def Aw {zB:Yd} {Y:St} {H:Hp} {s:Yl} {Q:VK} {k k':Bool} (I:Inv X zB Y H s) (q:Q (.bl k) H) (e:k=k'):EP X zB Y Q (.bool k') s:=by
 subst e;exact ⟨.bl k,H,I,rfl,q⟩
def OJ:OpR X (compareOp .Eq) rEq:=by
 intro zB s Y H x y v u Q I rx ry h;obtain ⟨hs,q⟩:=h;cases x with
 |non=>
  cases rx;cases y with
  |non=>cases ry;exact PySem.EqNone.eq_none_none (Aw I q (by simp))
  |bl j=>cases ry;exact PySem.EqNone.eq_none_bool (Aw I q (by simp))
  |int j=>obtain ⟨t',rfl⟩:=ry;exact PySem.EqNone.eq_none_int (Aw I q (by simp))
  |str j=>obtain ⟨t',rfl⟩:=ry;exact PySem.EqNone.eq_none_str (Aw I q (by simp))
  |_=>exact absurd (show false=true from hs) Ay
 |bl i=>
  cases rx;cases y with
  |non=>cases ry;exact PySem.EqNone.eq_bool_none (Aw I q (by simp))
  |bl j=>cases ry;exact eq_bool (Aw I q PH)
  |str j=>obtain ⟨t',rfl⟩:=ry;exact PySem.EqMixed.eq_bool_str (Aw I q (by simp))
  |_=>exact absurd (show false=true from hs) Ay
 |int i=>
  obtain ⟨t,rfl⟩:=rx;cases y with
  |non=>cases ry;exact PySem.EqNone.eq_int_none (Aw I q (by simp))
  |int j=>obtain ⟨t',rfl⟩:=ry;exact eq_int (Aw I q OB)
  |str j=>obtain ⟨t',rfl⟩:=ry;exact PySem.EqMixed.eq_int_str (Aw I q (by simp))
  |_=>exact absurd (show false=true from hs) Ay
 |str i=>
  obtain ⟨t,rfl⟩:=rx;cases y with
  |non=>cases ry;exact PySem.EqNone.eq_str_none (Aw I q (by simp))
  |bl j=>cases ry;exact PySem.EqMixed.eq_str_bool (Aw I q (by simp))
  |int j=>obtain ⟨t',rfl⟩:=ry;exact PySem.EqMixed.eq_str_int (Aw I q (by simp))
  |str j=>obtain ⟨t',rfl⟩:=ry;exact eq_str (Aw I q Ng)
  |_=>exact absurd (show false=true from hs) Ay
 |byt i=>
  obtain ⟨t,rfl⟩:=rx;cases y with
  |byt j=>obtain ⟨t',rfl⟩:=ry;exact PySem.W.eq_bytes (Aw I q QH)
  |_=>exact absurd (show false=true from hs) Ay
 |_=>cases y <;> exact absurd (show false=true from hs) Ay
def VR:OpR X (compareOp .NotEq) rNe:=by
 intro zB s Y H x y v u Q I rx ry h;obtain ⟨hs,q⟩:=h;cases x with
 |non=>
  cases rx;cases y with
  |non=>cases ry;exact PySem.EqNone.ne_none_none (Aw I q (by simp))
  |bl j=>cases ry;exact PySem.EqNone.ne_none_bool (Aw I q (by simp))
  |int j=>obtain ⟨t',rfl⟩:=ry;exact PySem.EqNone.ne_none_int (Aw I q (by simp))
  |str j=>obtain ⟨t',rfl⟩:=ry;exact PySem.EqNone.ne_none_str (Aw I q (by simp))
  |_=>exact absurd (show false=true from hs) Ay
 |bl i=>
  cases rx;cases y with
  |non=>cases ry;exact PySem.EqNone.ne_bool_none (Aw I q (by simp))
  |bl j=>cases ry;exact ne_bool (Aw I q (Bv not PH))
  |str j=>obtain ⟨t',rfl⟩:=ry;exact PySem.EqMixed.ne_bool_str (Aw I q (by simp))
  |_=>exact absurd (show false=true from hs) Ay
 |int i=>
  obtain ⟨t,rfl⟩:=rx;cases y with
  |non=>cases ry;exact PySem.EqNone.ne_int_none (Aw I q (by simp))
  |int j=>obtain ⟨t',rfl⟩:=ry;exact ne_int (Aw I q (Bv not OB))
  |str j=>obtain ⟨t',rfl⟩:=ry;exact PySem.EqMixed.ne_int_str (Aw I q (by simp))
  |_=>exact absurd (show false=true from hs) Ay
 |str i=>
  obtain ⟨t,rfl⟩:=rx;cases y with
  |non=>cases ry;exact PySem.EqNone.ne_str_none (Aw I q (by simp))
  |bl j=>cases ry;exact PySem.EqMixed.ne_str_bool (Aw I q (by simp))
  |int j=>obtain ⟨t',rfl⟩:=ry;exact PySem.EqMixed.ne_str_int (Aw I q (by simp))
  |str j=>obtain ⟨t',rfl⟩:=ry;exact ne_str (Aw I q (Bv not Ng))
  |_=>exact absurd (show false=true from hs) Ay
 |byt i=>
  obtain ⟨t,rfl⟩:=rx;cases y with
  |byt j=>obtain ⟨t',rfl⟩:=ry;exact PySem.W.ne_bytes (Aw I q (Bv not QH))
  |_=>exact absurd (show false=true from hs) Ay
 |_=>cases y <;> exact absurd (show false=true from hs) Ay
def LG:OpR X (compareOp .Lt) (rI0 λi j=> .bl (decide (i<j))):=Jn λ_ _ _ _ _ _ _ q=>lt_int q
def OP:OpR X (compareOp .LtE) (rI0 λi j=> .bl (decide (i<=j))):=Jn λ_ _ _ _ _ _ _ q=>le_int q
def aA:OpR X (compareOp .Gt) (rI0 λi j=> .bl (decide (j<i))):=Jn λ_ _ _ _ _ _ _ q=>gt_int q
def OpR.or {f:Y2} {r r':R2} (h:OpR X f r) (h':OpR X f r'):OpR X f (λx y H Q=>r x y H Q\/r' x y H Q):=by
 intro zB s Y H x y v u Q I rx ry q;rcases q with q|q
 .exact h zB s Y H x y v u Q I rx ry q
 .exact h' zB s Y H x y v u Q I rx ry q
def F0 (b:Expr) {op:CmpOp} (h:op≠.In:=by decide) (h2:op≠.NotIn:=by decide):behindInMarks op b=false:=by
 have e1:(op==CmpOp.In)=false:=by cases op <;> first|rfl|exact absurd rfl h
 have e2:(op==CmpOp.NotIn)=false:=by cases op <;> first|rfl|exact absurd rfl h2
 cases b <;> simp[behindInMarks,e1,e2]
def aW {op:CmpOp} {r:R2} (ho:OpR X (compareOp op) r) (ha:PE X a ta) (hb:PE X b tb) (hm:behindInMarks op b=false):PE X (.Compare a [op] [b] pos) (tOp r ta tb):=by
 intro zB s Y H Q I h;exact wpAny_Compare1 (KS ha hb I h λv u s2 x y H2 I2 rx ry q=>ho zB s2 Y H2 x y v u Q I2 rx ry q) hm
noncomputable def Ij (t:TE):TT:=λY H Q=>t Y H λx H'=>∃ k,x=.bl k/\Q k H'
def gM {op:CmpOp} {r:R2} (ho:OpR X (compareOp op) r) (ha:PE X a ta) (hb:PE X b tb) (hm:behindInMarks op b=false):PT X (.Compare a [op] [b] pos) (Ij (tOp r ta tb)):=by
 intro zB s Y H Q I h;refine wpAny_isTrue_Compare1 (thn (ha zB s Y H _ I h) λv s1 ⟨x,H1,I1,r1,q1⟩=>thn (hb zB s1 Y H1 _ I1 q1) λu s2 ⟨y,H2,I2,r2,q2⟩=>
  thn (ho zB s2 Y H2 x y v u _ I2 r1 r2 q2) λc s3 ⟨z,H3,I3,r3,k,e,q3⟩=>?_) hm
 subst e;cases r3;exact Ff ⟨H3,I3,q3⟩
noncomputable def QJ (r r':R2) (ta tb tc:TE):TE:=λY H Q=>ta Y H λx H1=>tb Y H1 λy H2=>r x y H2 λz H3=>∃ k,z=.bl k /\
 (if k=true then tc Y H3 λw' H4=>r' y w' H4 Q else Q (.bl false) H3)
def Wv {op op':CmpOp} {r r':R2} (ho:OpR X (compareOp op) r) (ho':OpR X (compareOp op') r') (ha:PE X a ta) (hb:PE X b tb) (hc:PE X c tc)
  (hm:lastMarks [op,op'] [b,c]=false:=by with_unfolding_all rfl):PE X (.Compare a [op,op'] [b,c] pos) (QJ r r' ta tb tc):=by
 intro zB s Y H Q I h;refine Compare_chain (thn (ha zB s Y H _ I h) λv s1 ⟨x,H1,I1,r1,q1⟩=>chain_link (thn (hb zB s1 Y H1 _ I1 q1) λu s2 ⟨y,H2,I2,r2,q2⟩=>
  thn (ho zB s2 Y H2 x y v u _ I2 r1 r2 q2) λd s3 ⟨z,H3,I3,r3,k,e,q3⟩=>?_)) hm
 subst e;cases r3;refine Ff ?_;cases k with
 |false=>exact ite_ff ⟨.bl false,H3,I3,rfl,q3⟩
 |true=>exact ite_tt (chain_last (thn (hc zB s3 Y H3 _ I3 q3) λw' s4 ⟨z',H4,I4,r4,q4⟩=>ho' zB s4 Y H4 y z' u w' Q I4 r2 r4 q4))
def Hf:(sizeLine:Nat)<2 ^ 63:=by rw[sizeLine_eq];decide
def Eu {x:V} {us:Yf} (r:zX [x] us):∃ u,us=[u]/\zm x u:=by
 cases r with
 |cons r1 r2=>cases r2;exact ⟨_,rfl,r1⟩
def Sf {x y:V} {us:Yf} (r:zX [x,y] us):∃ u w',us=[u,w']/\zm x u/\zm y w':=by
 cases r with
 |cons r1 r2=>
  cases r2 with
  |cons r3 r4=>cases r4;exact ⟨_,_,rfl,r1,r3⟩
def RY (hc:X.calm=true):Cm X (.builtin "min") (λxs H Q=>∃ i j,xs=[.int i,.int j]/\Q (.int (if j<i then j else i)) H):=by
 intro zB s Y H xs us Q I r h;obtain ⟨i,j,rfl,q⟩:=h;obtain ⟨u,w',rfl,⟨t,rfl⟩,⟨t',rfl⟩⟩:=Sf r;refine min_two_ints (I.ok.hd hc) λh' tk k=>⟨_,H,I.kept k,?_,q⟩;by_cases hj:j<i
 .rw[AB hj,AB hj];exact ⟨_,rfl⟩
 .rw[AD hj,AD hj];exact ⟨_,rfl⟩
def Vv:Cm X (.type "int") (λxs H Q=>(∃ i,xs=[.int i]/\Q (.int i) H) \/ ∃ k,xs=[.bl k]/\Q (.int (if k then 1 else 0)) H):=by
 intro zB s Y H xs us Q I r h;rcases h with ⟨i,rfl,q⟩|⟨k,rfl,q⟩
 .obtain ⟨u,rfl,t,rfl⟩:=Eu r;exact call_int_int ⟨.int i,H,I,⟨_,rfl⟩,q⟩
 .obtain ⟨u,rfl,r1⟩:=Eu r;cases r1;exact call_int_bool ⟨.int (if k then 1 else 0),H,I.tok _,⟨_,rfl⟩,q⟩
end
structure ObjM (h:Heap) (x dx C:Yt) (mA:Yh):Prop where
 obj:h.get? x=some (PySem.W.instObj C dx)
 ns:h.Ns1 dx mA
 ne:dx≠x
def aN {h:Heap} {dx:Yt} {mA:Yh} (n:h.Ns1 dx mA):∃ od,h.get? dx=some od /\ ∀ name,PySem.W.lookIn name od=some (mA name):=by
 obtain ⟨o,es,ep,ho,hd,hk,_,hm⟩:=n;refine ⟨o,ho,λname=>?_⟩;have e:=hm name;unfold nsFind findBy at e;rw[<-Array.find?_toList]at e;unfold PySem.W.lookIn;rw[hd];dsimp only;split
 .rename_i y q;rw[q]at e;exact Bv some e
 .rename_i q;rw[q]at e;have a:es.toList.any (·.refKey)=false:=by
   rw[List.any_eq_false];intro y hy;obtain ⟨z,t,hkey⟩:=hk y (Array.mem_toList_iff.mp hy);simp[DictEntry.refKey,hkey]
  have a':¬ es.toList.any (·.refKey)=true:=by rw[a];exact Ay
  rw[AD a'];exact Bv some e
def ObjM.look {h:Heap} {x dx C:Yt} {mA:Yh} (I:ObjM h x dx C mA):∃ od,PySem.W.InstAt h x (PySem.W.instObj C dx) C (some od) /\ ∀ name,PySem.W.lookIn name od=some (mA name) :=
 let ⟨od,ho,hl⟩:=aN I.ns
 ⟨od,⟨I.obj,rfl,rfl,ho⟩,hl⟩
def DI.some_of {v:V} {o:Option Value} (r:DI (some v) o):∃ u,o=some u/\zm v u:=by
 cases o with
 |none=>exact (show False from r).elim
 |some u=>exact ⟨u,rfl,r⟩
section
variable {P:Ym} {w:Yo} {H H':Hp} {h h':Heap} {a C dx:Yt} {fs fs':List (Str × V)}
def eG (hok:HOk P w H h) (e:H a=some (.ins C dx fs)):∃ mA,ObjM h a dx C mA/\(∀ f,DI (fs.lookup f) (mA f))/\PySem.Within mA (fs.map (·.1))/\fs.length<=1000/\H dx=some (.own a):=by
 obtain ⟨d,z,ne,ob,mA,n,r,q⟩:=(show Aq P w H h a (.ins C dx fs)from hok a _ e);exact ⟨mA,⟨ob,n,ne⟩,r,q,z,d⟩
end
structure Cls (K:Yb) (C:Yt):Prop where
 pg:PySem.W.plainGet K C Str.empty=true
 hd:PySem.W.hasDictIn K C=true
 po:PySem.W.plainOver K C=true
 sa:PySem.W.findIn K (.ref C) "__setattr__" = some (some (.builtin "object.__setattr__"))
def Cls.get {K:Yb} {C:Yt} (c:Cls K C) (f:Str):PySem.W.plainGet K C f=true:=c.pg
section
variable {X:Cx} {zB:Yd} {Y:St} {H:Hp} {s:Yl} {A:Yn} {E:Yc} {Q:Yc} {c:Yu} {b:Bool}
set_option genInjectivity true in
inductive TyOf (K:Yb) (H:Hp):V->Value->Prop where
 |non:TyOf K H .non (.type "NoneType")
 |bl (x:Bool):TyOf K H (.bl x) (.type "bool")
 |int (i:Int):TyOf K H (.int i) (.type "int")
 |str (x:Str):TyOf K H (.str x) (.type "str")
 |flt (x:UInt64):TyOf K H (.flt x) (.type "float")
 |lst {a:Addr} {xs:List V} (e:H a=some (.lst xs)):TyOf K H (.ref a) (.type "list")
 |frz {a:Addr} {o:Obj} {xs:List V} (e:H a=some (.frz o (.lst xs))):TyOf K H (.ref a) (.type "list")
 |tup {a:Addr} {xs:List V} (e:H a=some (.tup xs)):TyOf K H (.ref a) (.type "tuple")
 |dK {a:Addr} {kvs:List (Key × V)} (e:H a=some (.dK kvs)):TyOf K H (.ref a) (.type "dict")
 |dT {a:Addr} {kvs:List (List Key × V)} (e:H a=some (.dT kvs)):TyOf K H (.ref a) (.type "dict")
 |ins {a C dx:Addr} {fs:List (Str × V)} (e:H a=some (.ins C dx fs)) (cl:Cls K C) (ha:PySem.W.findIn K (.ref C) "__class__" = some (some (.builtin "object.__class__")))
   (hn:PySem.W.specialIn K (.builtin "object.__class__") "__get__" = some (some (.builtin "getset_descriptor.__get__"))) (htk:PySem.W.takesIn K (.builtin "object.__class__")=some true)
   (hm:PySem.W.mroIn K C (.type "object")=some true):TyOf K H (.ref a) (.ref C)
def Y7 {x:V} {u t:Yu} (I:Inv X zB Y H s) (rx:zm x u) (ty:TyOf X.K H x t) (e:PySem.W.kitOne X.K t c=some b) (h:∀ tk,Q (.bool b) { s with toks:=tk }) :
  wpAny (model X.prog X.w) A (call (.builtin "isinstance") [u,c]) Q E s:=by
 cases ty with
 |non=>cases (show u=Value.none from rx);exact Du PySem.W.kitx_none I.kIn True.intro e (λz=>nomatch z) h
 |bl y=>cases (show u=Value.bool y from rx);exact Du PySem.W.kitx_bool I.kIn True.intro e (λz=>nomatch z) h
 |int i=>obtain ⟨t,q⟩:=(show ∃ t,u=Value.int i t from rx);cases q;exact Du PySem.W.kitx_int I.kIn True.intro e (λz=>nomatch z) h
 |str y=>obtain ⟨t,q⟩:=(show ∃ t,u=Value.str y t from rx);cases q;exact Du PySem.W.kitx_str I.kIn True.intro e (λz=>nomatch z) h
 |flt y=>obtain ⟨t,q⟩:=(show ∃ t,u=Value.float y t from rx);cases q;exact Du PySem.W.kitx_float I.kIn True.intro e (λz=>nomatch z) h
 | @lst a xs ea=>
  cases (show u=Value.ref a from rx);obtain ⟨_,_,n,_,h1⟩:=(show Aq X.prog X.w H s.heap a (.lst xs)from I.hok a _ ea);exact Du PySem.W.kitx_list I.kIn ⟨_,h1,rfl⟩ e (λz=>nomatch z) h
 | @frz a ob xs ea=>
  cases (show u=Value.ref a from rx);obtain ⟨_,_,_,n,_,h1⟩:=(show Aq X.prog X.w H s.heap a (.frz ob (.lst xs))from I.hok a _ ea);exact Du PySem.W.kitx_list I.kIn ⟨_,h1,rfl⟩ e (λz=>nomatch z) h
 | @tup a xs ea=>
  cases (show u=Value.ref a from rx);obtain ⟨_,_,_,p⟩:=(show Aq X.prog X.w H s.heap a (.tup xs)from I.hok a _ ea);obtain ⟨o,h1,h2,_⟩:=p;exact Du PySem.W.kitx_tuple I.kIn ⟨o,h1,h2⟩ e (λz=>nomatch z) h
 | @dK a kvs ea=>
  cases (show u=Value.ref a from rx);obtain ⟨_,_,vs,_,p⟩:=(show Aq X.prog X.w H s.heap a (.dK kvs)from I.hok a _ ea);obtain ⟨o,es,ep,h1,h2,_⟩:=p;exact Du PySem.W.kitx_dict I.kIn ⟨o,h1,h2.1⟩ e (λz=>nomatch z) h
 | @dT a kvs ea=>
  cases (show u=Value.ref a from rx);obtain ⟨_,_,xs,_,o,es,ep,h1,h2,_⟩:=(show Aq X.prog X.w H s.heap a (.dT kvs)from I.hok a _ ea);exact Du PySem.W.kitx_dict I.kIn ⟨o,h1,h2.1⟩ e (λz=>nomatch z) h
 | @ins a C dx fs ea cl ha hn htk hm=>
  cases (show u=Value.ref a from rx);obtain ⟨mA,O,_⟩:=eG I.hok ea;obtain ⟨od,J,_⟩:=O.look;exact Du (PySem.W.kitx_own (cl.get _) cl.hd ha hn htk hm) I.kIn J e (λz=>nomatch z) h
end
structure Room (k:Nat) (A:Yn):Prop where
 hd:A.handled=none
 dp:A.depth+3*k+5<recursionLimit
 un:A.units+16*k+200<cLine
def Room.mono {j k:Nat} {A:Yn} (r:Room k A) (h:j<=k):Room j A:=⟨r.hd,by have:=r.dp;omega,by have:=r.un;omega⟩
def Room.deeper {k:Nat} {A:Yn} (r:Room (k+1) A) (env:Env):Room k (A.deeper env) :=
 ⟨r.hd,by have:=r.dp;show A.depth+1+3*k+5<_;omega,by have:=r.un;show A.units+3+16*k+200<_;omega⟩
def Room.depth {k:Nat} {A:Yn} (r:Room k A):A.depth<recursionLimit:=by have:=r.dp;omega
def Room.units {k:Nat} {A:Yn} (r:Room k A):A.units+64<cLine:=by have:=r.un;omega
def Room.units0 {k:Nat} {A:Yn} (r:Room k A):A.units<cLine:=by have:=r.un;omega
noncomputable def S6:TA:=λ_ H Q=>Q [] H
noncomputable def Tc (ta:TE) (tr:TA):TA:=λY H Q=>ta Y H λx H1=>tr Y H1 λxs H2=>Q (x::xs) H2
section
variable {X:Cx} {e:Expr} {es:Yi} {te:TE} {t:TA} {pos:Pos}
def HW:PA X [] S6:=λ_ _ _ _ H Q I h=>Calls.spliced_nil ⟨[],H,I,.nil,h⟩
def Gm (ha:PE X e te) (hr:PA X es t) (hs:starEach (e::es) X.env=(false,eval e X.env)::starEach es X.env:=by rfl):PA X (e::es) (Tc te t):=by
 intro pos zB s Y H Q I h;rw[hs];show wpAny _ _ (spliced ((false,eval e X.env)::backTo pos (starEach es X.env))) _ _ s;refine Calls.spliced_cons (thn (ha zB s Y H _ I h) λu s1 ⟨x,H1,I1,r1,q1⟩=>?_);exact thn (hr pos zB s1 Y H1 _ I1 q1) λus s2 ⟨xs,H2,I2,r2,q2⟩=>⟨x::xs,H2,I2,.cons r1 r2,q2⟩
noncomputable def Ua (t:TA):TE:=λY H Q=>t Y H λxs H1=>xs.length<=sizeLine /\ ∀ p,H1 p=none->Q (.ref p) (upd H1 p (.tup xs))
noncomputable def Ru (t:TA):TE:=λY H Q=>t Y H λxs H1=>xs.length<=sizeLine /\ ∀ p,H1 p=none->Q (.ref p) (upd H1 p (.lst xs))
def fP {x1} (h:PA X es t):PE X (.Tuple es x1 pos) (Ua t):=by
 intro zB s Y H Q I hq;refine wpAny_Tuple_spliced (thn (h pos zB s Y H _ I hq) λus s1 ⟨xs,H1,I1,r,z,q⟩=>⟨by rw[<-r.length];exact z,?_⟩);have hf:H1 s1.heap.objs.size=none:=I1.hok.fresh (AG _);refine ⟨.ref s1.heap.objs.size,upd H1 s1.heap.objs.size (.tup xs),I1.laid (t':=s1.toks) (λb u e=>AJ _ e) (AG _) ?_,rfl,q _ hf⟩;exact ⟨z,us,r,⟨_,Aj _ rfl,rfl,⟨_,rfl⟩,rfl⟩⟩
def ZQ (h:PA X es t):PE X (.List es pos) (Ru t):=by
 intro zB s Y H Q I hq;refine wpAny_List_spliced (thn (h pos zB s Y H _ I hq) λus s1 ⟨xs,H1,I1,r,z,q⟩=>⟨by rw[<-r.length];exact z,?_⟩);have hf:H1 s1.heap.objs.size=none:=I1.hok.fresh (AG _);refine ⟨.ref s1.heap.objs.size,upd H1 s1.heap.objs.size (.lst xs),I1.laid (t':=s1.toks) (λb u e=>AJ _ e) (AG _) ?_,rfl,q _ hf⟩;exact ⟨z,us,0,r,Aj _ rfl⟩
end
noncomputable abbrev Sp:=List V->Hp->VK->XK->Prop
noncomputable abbrev CXT:=List Env->Hp->Shared->XK->Value->Shared->Prop
structure Env0 (P:Ym) (w:Yo) (K:Yb) (mg:Yh) (base:Heap) (A:Yn) (outer:List Env) (s:Yl) (H:Hp):Prop where
 frames:A.frames=some outer
 mod:Mod K mg base
 bs:∀ b o,base.get? b=some o->s.heap.get? b=some o/\H b=none
 bsz:base.objs.size<=s.heap.objs.size
 funs:s.heap.FunFrames base outer
 frf:∀ b∈frs outer,H b=none
 hok:HOk P w H s.heap
 bare:AllBare s.gens
def CE (outer:List Env) (P:Ym) (w:Yo) (H:Hp) (s:Yl) (Q:VK) (u:Yu) (s':Yl):Prop :=
 ∃ v H',s'.os=s.os/\AllBare s'.gens/\Un (frs outer) [] H H' s.heap s'.heap/\HOk P w H' s'.heap/\zm v u/\Q v H'
def CR (CX:CXT) (outer:List Env) (P:Ym) (w:Yo) (H:Hp) (s:Yl) (Q:VK) (E:XK) (r:Result) (s':Yl):Prop :=
 match r with
 |.ok (.ret u)=>CE outer P w H s Q u s'
 |.ok _=>False
 |.error e=>CX outer H s E e s'
structure FnOk (P:Ym) (w:Yo) (K:Yb) (mg:Yh) (base:Heap) (CX:CXT) (k:Nat) (f:Yt) (fd:Yz) (ps:Yk) (sp:Sp):Prop where
 len:∀ vs H Q E,sp vs H Q E->vs.length=ps.length
 run:∀ (A:Yn) (outer:List Env) (s:Yl) (H:Hp) (args:Args) (us:Yf) (vs:List V) (Q:VK) (E:XK),Room k A->Env0 P w K mg base A outer s H->BindsTo s fd args (ps.zip us)->zX vs us->sp vs H Q E ->
  codeAny (model P w) A (.call (.ref f) args) (CR CX outer P w H s Q E) s
def FnOk.imp {P:Ym} {w:Yo} {K:Yb} {mg:Yh} {base:Heap} {CX:CXT} {k:Nat} {f:Yt} {fd:Yz} {ps:Yk} {sp sp':Sp} (F:FnOk P w K mg base CX k f fd ps sp)
  (h:∀ vs H Q E,sp' vs H Q E->sp vs H Q E):FnOk P w K mg base CX k f fd ps sp' :=
 ⟨λvs H Q E q=>F.len vs H Q E (h _ _ _ _ q),λA outer s H args us vs Q E hr he hb hv hs=>F.run A outer s H args us vs Q E hr he hb hv (h _ _ _ _ hs)⟩
section
variable {X:Cx} {zB:Yd} {Y:St} {H:Hp} {s s':Yl}
def Inv.env0 (I:Inv X zB Y H s):Env0 X.prog X.w X.K X.mg X.base X.A X.stack s H :=
 ⟨I.ok.frames,I.ok.mod,I.bs,BA I.ok.bsz I.sz,I.stack,I.stkFree,I.hok,I.bare⟩
def Inv.after {Q:VK} {u:Yu} (I:Inv X zB Y H s) (h:CE X.stack X.prog X.w H s Q u s'):EP X zB Y Q u s':=by
 obtain ⟨v,H',os,bare,un,hok,r,q⟩:=h;obtain ⟨hh,g,d,t,os'⟩:=s';obtain rfl:os'=s.os:=os;exact ⟨v,H',I.call (h':=hh) (g':=g) (d':=d) (t':=t) (ch:=[]) un hok bare (λb z=>absurd z (by simp)),r,q⟩
end
noncomputable def Xv (sp:Sp) (dvs:List V) (E:XK) (t:TA):TE:=λY H Q=>t Y H λvs H1=>sp (vs++dvs) H1 Q E
def Fy (K:Yb) (fd:Yz) (ps:Yk) (ds:Yf):Prop :=
 ∀ (s:Yl) (us:Yf),K.In s.heap->(us++ds).length=ps.length->BindsTo s fd ⟨us,[]⟩ (ps.zip (us++ds))
def Fy.all {K:Yb} {fd:Yz} {ps:Yk} (h:∀ us:List Value,us.length=ps.length->bindArgs fd ⟨us,[]⟩=pure (ps.zip us)):Fy K fd ps []:=λs us _ hl=>by
 rw[By]at hl ⊢;exact .of_eq (h us hl)
def MF (CX:CXT) (X:Cx) (E:XK):Prop:=∀ (zB:Yd) (Y:St) (H:Hp) (s:Yl) (e:Yu) (s':Yl),Inv X zB Y H s->CX X.stack H s E e s'->X.xe e s'
section
variable {X:Cx} {CX:CXT} {k:Nat} {f C:Yt} {fd:Yz} {ps:Yk} {sp:Sp} {dvs:List V} {ds:Yf} {E:XK} {x m:Str} {p pos apos:Pos} {e o:Expr} {es:Yi} {ta:TE} {t:TA}
def Zy {zB:Yd} {Y:St} {H:Hp} {s:Yl} {Q:VK} {us:Yf} {vs:List V} (F:FnOk X.prog X.w X.K X.mg X.base CX k f fd ps sp) (hr:Room k X.A) (hb:Fy X.K fd ps ds) (hd:zX dvs ds) (hx:MF CX X E)
  (I:Inv X zB Y H s) (r:zX vs us) (h:sp (vs++dvs) H Q E):wpAny (model X.prog X.w) X.A (call (.ref f) us) (EP X zB Y Q) X.xe s:=by
 have r2:zX (vs++dvs) (us++ds):=r.append hd;have hl:(us++ds).length=ps.length:=by rw[<-r2.length];exact F.len _ _ _ _ h
 refine wpAny_call (codeAny_mono (F.run X.A X.stack s H ⟨us,[]⟩ (us++ds) (vs++dvs) Q E hr I.env0 (hb s us I.kIn hl) r2 h) λr s' hq=>?_);cases r with
 |error e=>exact hx zB Y H s e s' I hq
 |ok fl=>
  cases fl with
  |ret u=>exact I.after hq
  |next=>exact False.elim hq
  |brk=>exact False.elim hq
  |cont=>exact False.elim hq
def Te (F:FnOk X.prog X.w X.K X.mg X.base CX k f fd ps sp) (hr:Room k X.A) (hg:Gl X x) (hm:X.mg x=some (.ref f)) (hk:PySem.W.keepIn X.K (.ref f)=true) (hb:Fy X.K fd ps ds) (hd:zX dvs ds) (hx:MF CX X E)
  (ha:PA X (e::es) t) (hdb:(x==("__debug__" : Str))=false:=by decide) (he:starEach (e::es) X.env=(false,eval e X.env)::starEach es X.env:=by rfl) (hpl:(backTo pos (starEach es X.env)).any (·.1)=false:=by rfl) :
  PE X (.Call (.Name x p) (e::es) [] pos) (Xv sp dvs E t):=by
 intro zB s Y H Q I h;refine wpAny_Call_Name_kw (cA I hg hm ?_ hdb);refine PySem.W.callWith_K (h₀:=X.base) I.ok.mod.kin hk (thn (ha pos zB s Y H _ I h) λus s1 ⟨vs,H1,I1,r,q⟩=>⟨I1.kIn,?_⟩) he hpl;exact Zy F hr hb hd hx I1 r q
end
structure FnScope (N P:Yk) (sc:Y0):Prop where
 kind:sc.kind=.function
 co:sc.isCoroutine=false
 gen:sc.isGenerator=false
 nd:N.Nodup
 pre:N.take P.length=P
 par:∀ x∈P,sc.names.lookup x=some .local\/sc.names.lookup x=some .cell
 nofree:∀ y∈sc.names,y.2≠.free
theorem Oz {kindOf:Str->Option NameKind} {x:Str}:∀ {binds:List (Str × Value)} {m:Yh},(∀ v,(x,v)∉binds)->bindL kindOf binds m x=m x
 |[],_,_=>rfl
 | (n,v)::r,m,h=>by
  unfold bindL;rw[Oz λw hw=>h w (BS _ hw)];split
  .have:x≠n:=by rintro rfl;exact h v Ah
   simp[this]
  .rfl
theorem NW {kindOf:Str->Option NameKind} {x:Str}:∀ {binds:List (Str × Value)} {m:Yh},(∀ v,(x,v)∉binds)->bindC kindOf binds m x=m x
 |[],_,_=>rfl
 | (n,v)::r,m,h=>by
  unfold bindC;rw[NW λw hw=>h w (BS _ hw)];split
  .rfl
  .have:x≠n:=by rintro rfl;exact h v Ah
   simp[this]
theorem NB {kindOf:Str->Option NameKind} {x:Str} {v:Yu}:∀ {P:Yk} {vs:Yf} {i:Nat} {m:Yh},P.Nodup->P[i]?=some x->vs[i]?=some v->kindOf x=some .local ->
  bindL kindOf (P.zip vs) m x=some v
 |[],_,_,_,_,h,_,_=>by simp at h
 |_::_,[],_,_,_,_,h,_=>by simp at h
 |p::P,w::vs,0,m,nd,h1,h2,hk=>by
  simp at h1 h2;subst h1;subst h2;show bindL kindOf ((p,w)::P.zip vs) m p=_;unfold bindL;rw[Oz λv hv=>(List.nodup_cons.mp nd).1 (List.of_mem_zip hv).1,AB hk];simp
 |p::P,w::vs,i+1,m,nd,h1,h2,hk=>by
  show bindL kindOf ((p,w)::P.zip vs) m x=_;unfold bindL;exact NB (i:=i) (List.nodup_cons.mp nd).2 (by simpa using h1) (by simpa using h2) hk
theorem Oc {kindOf:Str->Option NameKind} {x:Str} {v:Yu}:∀ {P:Yk} {vs:Yf} {i:Nat} {m:Yh},P.Nodup->P[i]?=some x->vs[i]?=some v->kindOf x≠some .local ->
  bindC kindOf (P.zip vs) m x=some v
 |[],_,_,_,_,h,_,_=>by simp at h
 |_::_,[],_,_,_,_,h,_=>by simp at h
 |p::P,w::vs,0,m,nd,h1,h2,hk=>by
  simp at h1 h2;subst h1;subst h2;show bindC kindOf ((p,w)::P.zip vs) m p=_;unfold bindC;rw[NW λv hv=>(List.nodup_cons.mp nd).1 (List.of_mem_zip hv).1,AD hk];simp
 |p::P,w::vs,i+1,m,nd,h1,h2,hk=>by
  show bindC kindOf ((p,w)::P.zip vs) m x=_;unfold bindC;exact Oc (i:=i) (List.nodup_cons.mp nd).2 (by simpa using h1) (by simpa using h2) hk
noncomputable def EX (N:Yk) (vs:List V):St:=vs.map some++List.replicate (N.length-vs.length) none
noncomputable def GJ (CX:CXT) (P:Ym) (w:Yo) (K:Yb) (mg:Yh) (base:Heap) (N:Yk) (qual:Str) (scope:Y0) (f:Yt) (cd:Yu) (A:Yn) (outer:List Env) (s:Yl) (H:Hp) (E:XK):Cx where
 prog:=P
 w:=w
 K:=K
 mg:=mg
 base:=base
 A:=A.deeper (envOfC qual scope s.heap.objs.size f cd)
 N:=N
 s₀:=s
 H₀:=H
 env:=envOfC qual scope s.heap.objs.size f cd
 outer:=outer
 stack:=envOfC qual scope s.heap.objs.size f cd::outer
 ex:=[]
 calm:=true
 fn:=λ_=>true
 pn:=[]
 xe:=λe s'=>wpAny (model P w) (A.deeper (envOfC qual scope s.heap.objs.size f cd)) (leaving (envOfC qual scope s.heap.objs.size f cd) e) (λ_ s''=>CX outer H s E e s'') (λe' s''=>CX outer H s E e' s'') s'
def Kr {sc:Y0} {n:Nat} {x:Str} (h:sc.names.lookup x=some .cell):∃ c,(cellsFrom n sc.names []).lookup x=some c:=by
 have q:=PySem.W.cellsFrom_some sc.names n [] (.inl h);exact Option.isSome_iff_exists.mp q
def Sa {CX:CXT} {P:Ym} {w:Yo} {K:Yb} {mg:Yh} {base:Heap} {N ps:Yk} {qual:Str} {scope:Y0} {f:Yt} {cd:Yu} {A:Yn} {outer:List Env} {s s1:Yl} {H:Hp} {E:XK} {us:Yf} {vs:List V}
  (S:FnScope N ps scope) (hd:A.handled=none) (e0:Env0 P w K mg base A outer s H) (hl:vs.length=ps.length) (r:zX vs us)
  (x:InCallC s s.heap.objs.size (bindL (envOfC qual scope s.heap.objs.size f cd).kindOf (ps.zip us) λ_=>none) (cellsFrom (s.heap.objs.size+1) scope.names []) (bindC (envOfC qual scope s.heap.objs.size f cd).kindOf (ps.zip us) λ_=>none) s1) :
  Inv (GJ CX P w K mg base N qual scope f cd A outer s H E) [] (EX N vs) H s1:=by
 have hpl:ps.length<=N.length:=by have:=Bv List.length S.pre;rw[BF]at this;omega
 obtain ⟨h1,tk,rfl,hk⟩:=x.done;have noA:∀ b:Addr,b∉(GJ CX P w K mg base N qual scope f cd A outer s H E).ex:=λb z=>absurd (show b∈([]:List Addr)from z) (by simp)
 refine ⟨⟨e0.mod,S.kind,rfl,rfl,AG _,λy z c h1 h2=>?_,λy hy=>?_,λy c _ h=>?_,λ_=>hd,Around.frames_deeper e0.frames,.inr ⟨rfl,rfl⟩,λb z=>absurd z (noA b),e0.bs,e0.bsz,λb _ _=>noA b,λb z=>absurd z (noA b),e0.funs,e0.frf⟩,
  rfl,e0.bare,Un.kept hk,⟨_,x.toInCall.ns,λi y v h1 h2 h3=>?_⟩,λy c h=>⟨_,x.cell y c h⟩,e0.hok.fresh (AG _),λy c h=>?_,λp hp=>absurd (show p∈([]:List (Addr × Obj))from hp) (by simp),e0.hok.kept hk,?_⟩
 .exact name_of_addr x.apart (DH h1) (DH h2)
 .have hy:scope.names.lookup y=some .cell\/scope.names.lookup y=some .free:=hy;rcases hy with hy|hy
  .exact Kr hy
  .exact absurd rfl (S.nofree _ (DH hy))
 .exact Dd (x.above y c (DH h))
 .have hi:i<vs.length:=by
   unfold EX at h2;by_cases hi:i<vs.length
   .exact hi
   .rw[EG (by simpa using hi)]at h2;rw[List.getElem?_replicate]at h2;split at h2 <;> cases h2
  have ha:vs[i]?=some v:=by
   unfold EX at h2;rw[Ai (by simpa using hi),Af]at h2;cases e:vs[i]? with
   |none=>rw[e]at h2;cases h2
   |some a=>rw[e]at h2;cases h2;rfl
  obtain ⟨u,hu,rv⟩:=r.get ha;have hp:ps[i]?=some y:=by
   rw[<-S.pre,List.getElem?_take_of_lt (by omega)];exact h1
  have ndP:ps.Nodup:=by rw[<-S.pre];exact S.nd.sublist (List.take_sublist _ _)
  refine ⟨u,rv,?_⟩;rcases S.par y (Bd hp)with k|k
  .exact .inl ⟨k,NB ndP hp hu k⟩
  .obtain ⟨c,e⟩:=Kr (n:=s.heap.objs.size+1) k;refine .inr ⟨.inl k,c,e,?_⟩;have q:=x.cell y c e;rw[Oc ndP hp hu (by show scope.names.lookup y≠_;rw[k];decide)]at q;exact q
 .exact e0.hok.fresh (Dd (x.above y c (DH h)))
 .unfold EX;show _=N.length;rw[AN,AF,List.length_replicate];omega
def Vq {CX:CXT} {P:Ym} {w:Yo} {K:Yb} {mg:Yh} {base:Heap} {k:Nat} {f:Yt} {name qual:Str} {params:Arguments} {body:Yy} {scope:Y0} {dV kV doc pm cdv ct oc:Yu} {an od:Option Addr}
  {osl:Array (Option Value)} {N ps:Yk} {sp:Sp} (lk:K.lookup f=some ⟨oc,od,.func (PySem.W.fnOf name qual params body scope dV kV doc pm an cdv ct),osl⟩) (hcd:PySem.W.codeIn K cdv qual=true) (S:FnScope N ps scope)
  (len:∀ vs H Q E,sp vs H Q E->vs.length=ps.length)
  (hbody:∀ (A:Yn) (outer:List Env) (s:Yl) (H:Hp) (vs:List V) (Q:VK) (E:XK),Room k (A.deeper (envOfC qual scope s.heap.objs.size f cdv))->sp vs H Q E ->
   ∃ t,PSs (GJ CX P w K mg base N qual scope f cdv A outer s H E) body t/\t { nx:=λ_ H'=>Q .non H',rt:=Q } (EX N vs) H) :
  FnOk P w K mg base CX (k+1) f (PySem.W.fnOf name qual params body scope dV kV doc pm an cdv ct) ps sp:=by
 refine ⟨len,λA outer s H args us vs Q E hr e0 hb r hsp=>?_⟩;have hl:=len _ _ _ _ hsp;have KX:K.In s.heap:=e0.mod.kin.keeps λb o e=>(e0.bs b o e).1;have lim:s.heap.NoLimit:=e0.mod.nolimit.keeps λb o e=>(e0.bs b o e).1;have hkind:∀ y∈ps.zip us,scope.names.lookup y.1=some .local\/(scope.names.lookup y.1=some .cell/\((cellsFrom (s.heap.objs.size+1) scope.names []).lookup y.1).isSome=true):=λ⟨n,v⟩ hy=>by
  rcases S.par n (List.of_mem_zip hy).1 with q|q
  .exact .inl q
  .exact .inr ⟨q,PySem.W.cellsFrom_some _ _ _ (.inl q)⟩
 refine codeAny_call_function hr.depth (KX _ _ lk) rfl S.co S.gen rfl (PySem.W.codeRec_of KX hcd) (hb _ _ _ _ ?_);refine wpAny_newFunctionEnv_cells S.kind hkind λenv he s1 x=>?_;subst he;refine ⟨lim.keeps x.toInCall.keep,codeAny_func ?_⟩;obtain ⟨t,ht,hq⟩:=hbody A outer s H vs Q E (hr.deeper _) hsp;have I:Inv (GJ CX P w K mg base N qual scope f cdv A outer s H E) [] (EX N vs) H s1:=Sa S hr.hd e0 hl r x;refine AX (ht [] s1 (EX N vs) H _ I hq) (λfl s' hs=>?_) λe s' hs=>hs;have fin:∀ {Y':St} {H':Hp} {v:V} {u:Yu},Inv (GJ CX P w K mg base N qual scope f cdv A outer s H E) [] Y' H' s'->zm v u->Q v H'->CE outer P w H s Q u s' :=
  λ{Y' H' v u} J rv q=>⟨v,H',J.os,J.bare,J.base,J.hok,rv,q⟩
 cases fl with
 |ret u=>
  obtain ⟨v,Y',H',J,rv,q⟩:=hs;exact fin J rv q
 |next=>
  obtain ⟨Y',H',J,q⟩:=hs;exact fin (v:=V.non) (u:=Value.none) J rfl q
 |brk=>
  obtain ⟨_,_,_,q⟩:=hs;exact False.elim q
 |cont=>
  obtain ⟨_,_,_,q⟩:=hs;exact False.elim q
section
variable {X:Cx} {x:Str} {p pos:Pos} {e:Expr} {es:Yi} {t:TA} {id T:String} {r:List V->Hp->VK->Prop}
noncomputable def tCB (r:List V->Hp->VK->Prop) (t:TA):TE:=λY H Q=>t Y H λvs H1=>r vs H1 Q
def Qv (hc:Cm X (.builtin id) r) (hg:Gl X x) (hm:X.mg x=none) (hv:bootBuiltins x=some (.builtin id)) (ha:PA X (e::es) t) (hn:x ≠ "__name__" := by decide) (hdb:(x==("__debug__" : Str))=false:=by decide)
  (he:starEach (e::es) X.env=(false,eval e X.env)::starEach es X.env:=by rfl) (hpl:(backTo pos (starEach es X.env)).any (·.1)=false:=by rfl):PE X (.Call (.Name x p) (e::es) [] pos) (tCB r t):=by
 intro zB s Y H Q I h;refine wpAny_Call_Name_kw (GU I hg hm hv ?_ hn hdb);exact PyProof.Rows.callWith_builtin1 (thn (ha pos zB s Y H _ I h) λus s1 ⟨vs,H1,I1,r1,q1⟩=>hc zB s1 Y H1 vs us Q I1 r1 q1) he hpl
def ME (hc:Cm X (.type T) r) (hg:Gl X x) (hm:X.mg x=none) (hv:bootBuiltins x=some (.type T)) (ha:PA X (e::es) t) (hn:x ≠ "__name__" := by decide) (hdb:(x==("__debug__" : Str))=false:=by decide)
  (he:starEach (e::es) X.env=(false,eval e X.env)::starEach es X.env:=by rfl) (hpl:(backTo pos (starEach es X.env)).any (·.1)=false:=by rfl):PE X (.Call (.Name x p) (e::es) [] pos) (tCB r t):=by
 intro zB s Y H Q I h;refine wpAny_Call_Name_kw (GU I hg hm hv ?_ hn hdb);exact PyProof.Rows.callWith_type1 (thn (ha pos zB s Y H _ I h) λus s1 ⟨vs,H1,I1,r1,q1⟩=>hc zB s1 Y H1 vs us Q I1 r1 q1) he hpl
end
end L2
namespace HT
open PySem PyProof.Rows
section
variable {prog:Ym} {w:Yo} {A:Yn} {E:Yc} {s:Yl}
def TR {t b:Yt} {vs ws:Yf} {Q:Yc} (ht:IsTup s.heap t vs.toArray) (hb:IsTup s.heap b ws.toArray) (hv:vs≠[])
  (h1:ws=[]->Q (.ref t) s) (h2:ws≠[]->Q (.ref s.heap.objs.size) { s with heap:=s.heap.push { cls:=.type "tuple", data:=.seq (vs++ws).toArray } })
  (hsz:vs.length+ws.length<=sizeLine):wpAny (model prog w) A (binaryOp .Add (.ref t) (.ref b)) Q E s:=by
 obtain ⟨⟨cls,dd,data,sl⟩,ho,hc,n,hd⟩:=id ht;obtain ⟨⟨cls2,dd2,data2,sl2⟩,ho2,hc2,n2,hd2⟩:=id hb;simp only at hc hd hc2 hd2;subst hc hd hc2 hd2;have e:vs.toArray++ws.toArray=(vs++ws).toArray:=by simp
 by_cases hw:ws=[]
 .exact concat_meets ⟨_,ho,rfl⟩ ⟨_,ho2,rfl⟩ noFill_tuple_add seq_tuple_add PySem.F.slot_tuple_add PySem.F.entry_tuple_add (PySem.F.args_tuple_add_2 _ _)
   (tuple_addW1 t b vs.toArray ws.toArray n n2 dd dd2 sl sl2 (by simpa using hv) (by simp[hw])) ⟨ho,ho2,h1 hw⟩
 .refine concat_meets ⟨_,ho,rfl⟩ ⟨_,ho2,rfl⟩ noFill_tuple_add seq_tuple_add PySem.F.slot_tuple_add PySem.F.entry_tuple_add (PySem.F.args_tuple_add_2 _ _)
   (tuple_addW2 t b vs.toArray ws.toArray n n2 dd dd2 sl sl2 (by simpa using hv) (by simpa using hw) (by rw[AW,AW];exact hsz)) ⟨ho,ho2,?_⟩
  rw[e];exact h2 hw
noncomputable def sIx (n d:Nat):Option Int->Nat
 |none=>d
 |some v=>if v<0 then (v+(n:Int)).toNat else min v.toNat n
def Kl (n d:Nat):sIx n d none=d:=rfl
def IY (n d k:Nat):sIx n d (some (k:Int))=min k n:=by
 show (if (k:Int)<0 then ((k:Int)+(n:Int)).toNat else min (k:Int).toNat n)=min k n;rw[AD (by omega),CK]
def Y3 (n d:Nat) (hd:d<=n) (o:Ys):sIx n d o<=n:=by
 cases o with
 |none=>exact hd
 |some v=>
  show (if v<0 then (v+(n:Int)).toNat else min v.toNat n)<=n;by_cases hv:v<0
  .rw[AB hv];omega
  .rw[AD hv];exact Nat.min_le_right _ _
def PU (v:Int) (n d:Nat):(if v<0 then max (v+(n:Int)) 0 else min v (n:Int))=((sIx n d (some v):Nat):Int):=by
 show (if v<0 then max (v+(n:Int)) 0 else min v (n:Int))=(((if v<0 then (v+(n:Int)).toNat else min v.toNat n):Nat):Int);by_cases hv:v<0
 .simp only[AB hv];omega
 .simp only[AD hv];omega
def ZR (lo hi:Ys) (n:Nat):Builtin.Slice.sliceAdjust lo hi 1 (n:Int)=(((sIx n 0 lo:Nat):Int),((sIx n n hi:Nat):Int)):=by
 have h1:¬ ((1:Int)<0):=by omega
 unfold Builtin.Slice.sliceAdjust;simp only[h1,if_false];refine Prod.ext ?_ ?_
 .cases lo with
  |none=>rfl
  |some v=>exact PU v n 0
 .cases hi with
  |none=>rfl
  |some v=>exact PU v n n
def Q2 (i j:Nat):Builtin.Slice.slicePlaces (i:Int) (j:Int) 1=j-i:=by
 unfold Builtin.Slice.slicePlaces;have h1:(1:Int)>0:=by omega
 simp only[h1,if_true,Int.ediv_one];split <;> omega
def PM {v:Yu} {o:Ys} {Q:Option Int->Shared->Prop} (p:IsPart v o) (h:Q o s):wpAny (model prog w) A (Builtin.Slice.slicePartIndex v) Q E s:=by
 cases p with
 |none=>exact slicePart_none h
 |int i t=>exact slicePart_int h
def Ol {sl:Yt} {vl vu:Yu} {lo hi:Ys} {n:Nat} {Q:Int × Int × Nat->Shared->Prop} (hs:s.heap.IsSliceOf sl vl vu .none) (pl:IsPart vl lo) (pu:IsPart vu hi)
  (h:Q (((sIx n 0 lo:Nat):Int),1,sIx n n hi-sIx n 0 lo) s):wpAny (model prog w) A (Builtin.Slice.sliceApplied (.ref sl) (pure (n:Int))) Q E s:=by
 obtain ⟨os,hos,hcs,hds⟩:=id hs;unfold Builtin.Slice.sliceApplied Builtin.Slice.sliceFields;refine AA (AA (Cb hos hds (x:=vl) rfl (AA (Cb hos hds (x:=vu) rfl (AA (Cb hos hds (x:=.none) rfl (AE ?_)))))));refine AA (slicePart_none ?_);show wpAny _ _ (if ((1:Int)==0)=true then _ else _) _ _ s;rw[AD (by decide)];refine AA (PM pl (AA (PM pu (AA (AE ?_)))));show wpAny _ _ (match Builtin.Slice.sliceAdjust lo hi 1 (n:Int) with|(lo,hi)=>pure (lo,(1:Int),Builtin.Slice.slicePlaces lo hi 1)) _ _ s;rw[ZR lo hi n];show wpAny _ _ (pure (((sIx n 0 lo:Nat):Int),(1:Int),Builtin.Slice.slicePlaces ((sIx n 0 lo:Nat):Int) ((sIx n n hi:Nat):Int) 1)) _ _ s;rw[Q2];exact AE h
def dM (xs:Yp) (i k:Nat):((List.range k).filterMap λ(m:Nat)=>xs[((i:Int)+(m:Int)*1).toNat]?).toArray=((xs.toList.drop i).take k).toArray:=by
 have e:(λ(m:Nat)=>xs[((i:Int)+(m:Int)*1).toNat]?)=λm=>xs[i+m]?:=by
  funext m;have:((i:Int)+(m:Int)*1).toNat=i+m:=by omega
  rw[this]
 rw[e];have:=pick_run xs i k;rw[List.filterMap_map]at this;have e2:((λx=>xs[x]?)∘λx=>i+x)=λm=>xs[i+m]?:=rfl;rw[e2]at this;rw[this]
def Ww {t sl:Yt} {items:Yp} {vl vu:Yu} {lo hi:Ys} {Q:Yc} (ht:IsTup s.heap t items) (hs:s.heap.IsSliceOf sl vl vu .none) (pl:IsPart vl lo) (pu:IsPart vu hi)
  (hw:¬ (sIx items.size 0 lo=0/\sIx items.size items.size hi=items.size))
  (h:Q (.ref s.heap.objs.size) { s with heap:=s.heap.push { cls:=.type "tuple", data:=.seq ((items.toList.drop (sIx items.size 0 lo)).take (sIx items.size items.size hi-sIx items.size 0 lo)).toArray } })
  (hsz:items.size<=sizeLine):wpAny (model prog w) A (getItem (.ref t) (.ref sl)) Q E s:=by
 have htake:sizeOk (.seq ((items.toList.drop (sIx items.size 0 lo)).take (sIx items.size items.size hi-sIx items.size 0 lo)).toArray):=by
  show ((items.toList.drop (sIx items.size 0 lo)).take (sIx items.size items.size hi-sIx items.size 0 lo)).toArray.size<=sizeLine;rw[AW,BF,EW,Bn];omega
 have hj:sIx items.size items.size hi<=items.size:=Y3 _ _ (AG _) hi;obtain ⟨os,hos,hcs,hds⟩:=id hs;have hTs:s.TypeIs (.ref sl) "slice" := ⟨os,hos,hcs⟩;unfold getItem;try with_reducible refine C7 ?_
 first|refine AA (AE ?_)|skip
 refine AA (wpAny_sequenceKey ht.typeIs (by decide) ?_)
 refine AA (Dq (name:=Str.ofString "__getitem__") ht.typeIs Gn
  (CO Gn ht.typeIs entry_tuple_getitem ?_ (args_tuple_getitem _ _)))
 show wpAny _ _ (Builtin.Tuple.tupleItemsOf (.ref t) >>= _) _ _ s;refine AA (tupleItemsOf_ ht ?_);refine AA (wpAny_typeOf hTs ?_);rw[AB (by decide)];refine AA (Ol hs pl pu ?_);have hno:¬ ((((sIx items.size 0 lo:Nat):Int)==0&&(1:Int)==1&&(sIx items.size items.size hi-sIx items.size 0 lo)==items.size)=true):=by
  intro q;rw[Am,Am]at q;have q1:((sIx items.size 0 lo:Nat):Int)=0:=eq_of_beq q.1.1;have q2:sIx items.size items.size hi-sIx items.size 0 lo=items.size:=eq_of_beq q.2;exact hw ⟨by omega,by omega⟩
 show wpAny _ _ (if (((sIx items.size 0 lo:Nat):Int)==0&&(1:Int)==1&&(sIx items.size items.size hi-sIx items.size 0 lo)==items.size)=true then _ else _) _ _ s;rw[AD hno,dM]
 first
  |exact AA (m:=Builtin.Tuple.tupleExact _) (CI (AE ⟨_,rfl,AE h⟩) htake)
  |exact AA (m:=Builtin.Tuple.tupleExact _) (CI (AA (AE (AE ⟨_,rfl,AE h⟩))) htake)
  |exact AA (AA (m:=Builtin.Tuple.tupleExact _) (CI (AE (AE ⟨_,rfl,AE h⟩)) htake))
  |exact AA (AA (m:=Builtin.Tuple.tupleExact _) (CI (AE ⟨_,rfl,AE h⟩) htake))
end
end HT
namespace L2
noncomputable abbrev TO:=St->Hp->(Option Int->Hp->Prop)->Prop
def PO (X:Cx) (e:Option Expr) (t:TO):Prop :=
 ∀ (zB:Yd) (s:Yl) (Y:St) (H:Hp) (Q:Option Int->Hp->Prop),Inv X zB Y H s->t Y H Q ->
  wpAny (model X.prog X.w) X.A (evalPart e X.env) (λu s'=>∃ o H',Inv X zB Y H' s'/\IsPart u o/\Q o H') X.xe s
noncomputable def Ry:TO:=λ_ H Q=>Q none H
noncomputable def cK (t:TE):TO:=λY H Q=>t Y H λx H1=>∃ i,x=.int i/\Q (some i) H1
section
variable {X:Cx} {e:Expr} {te:TE} {lo hi:Option Expr} {tl th:TO} {pos p2:Pos}
def aT:PO X none Ry:=by
 intro zB s Y H Q I h;rw[evalPart_none];exact AE ⟨none,H,I,.none,h⟩
def V6 (h:PE X e te):PO X (some e) (cK te):=by
 intro zB s Y H Q I hw;rw[evalPart_some];refine thn (h zB s Y H _ I hw) λu s1 ⟨x,H1,I1,r1,q1⟩=>?_;obtain ⟨i,rfl,q⟩:=q1;obtain ⟨t,rfl⟩:=r1;exact ⟨some i,H1,I1,.int i t,q⟩
def SlR (X:Cx) (r:V->Option Int->Option Int->Hp->VK->Prop):Prop :=
 ∀ (zB:Yd) (s:Yl) (Y:St) (H:Hp) (x:V) (v vl vu:Yu) (lo hi:Ys) (sl:Yt) (Q:VK),Inv X zB Y H s->zm x v->s.heap.IsSliceOf sl vl vu .none->IsPart vl lo->IsPart vu hi->r x lo hi H Q ->
  ∃ T id,typeLookup (.type T) "__getitem__" = pure (some (.builtin id))/\s.TypeIs v T/\wpAny (model X.prog X.w) X.A (getItem v (.ref sl)) (EP X zB Y Q) X.xe s
def SlR.or {r r':V->Option Int->Option Int->Hp->VK->Prop} (h:SlR X r) (h':SlR X r'):SlR X (λx lo hi H Q=>r x lo hi H Q\/r' x lo hi H Q):=by
 intro zB s Y H x v vl vu lo hi sl Q I rx hs pl pu q;rcases q with q|q
 .exact h zB s Y H x v vl vu lo hi sl Q I rx hs pl pu q
 .exact h' zB s Y H x v vl vu lo hi sl Q I rx hs pl pu q
noncomputable def tSl (r:V->Option Int->Option Int->Hp->VK->Prop) (te:TE) (tl th:TO):TE:=λY H Q=>te Y H λx H1=>tl Y H1 λl H2=>th Y H2 λu H3=>r x l u H3 Q
def b8 {r:V->Option Int->Option Int->Hp->VK->Prop} (hr:SlR X r) (he:PE X e te) (hl:PO X lo tl) (hu:PO X hi th):PE X (.Subscript e (.Slice lo hi none p2) pos) (tSl r te tl th):=by
 intro zB s Y H Q I h;refine Subscript_ (thn (he zB s Y H _ I h) λv s1 ⟨x,H1,I1,r1,q1⟩=>?_);refine wpAny_Slice (thn (hl zB s1 Y H1 _ I1 q1) λvl s2 ⟨l,H2,I2,pl,q2⟩=>thn (hu zB s2 Y H2 _ I2 q2) λvu s3 ⟨u,H3,I3,pu,q3⟩=>?_);rw[evalPart_none];refine AE ?_;have I4:Inv X zB Y H3 { s3 with heap:=s3.heap.push { cls:=.type "slice", data:=.fields #[vl,vu,.none] } }:=I3.kept (t':=s3.toks) λb ob q=>AJ _ q;obtain ⟨T,id,hT,ht,hg⟩:=hr zB { s3 with heap:=s3.heap.push { cls:=.type "slice", data:=.fields #[vl,vu,.none] } } Y H3 x v vl vu l u s3.heap.objs.size Q I4 r1 (Heap.IsSliceOf.new ..) pl pu q3;show wpAny (model X.prog X.w) X.A (subscriptTail e (.Slice lo hi none p2) v (.ref s3.heap.objs.size)) (EP X zB Y Q) X.xe { s3 with heap:=s3.heap.push { cls:=.type "slice", data:=.fields #[vl,vu,.none] } };exact tail_any (ops:=[.ref s3.heap.objs.size,v]) ht hT hg (by with_unfolding_all rfl)
noncomputable def Fe (xs:List V) (lo hi:Ys):List V:=(xs.drop (HT.sIx xs.length 0 lo)).take (HT.sIx xs.length xs.length hi-HT.sIx xs.length 0 lo)
def O9 (xs:List V) (lo hi:Ys):(Fe xs lo hi).length<=xs.length:=by
 unfold Fe;rw[BF,EW];omega
def ZW (K:Yb):V->Option Int->Option Int->Hp->VK->Prop:=λx lo hi H Q=>∃ a xs,x=.ref a/\SqT K H a xs /\
 ¬ (HT.sIx xs.length 0 lo=0/\HT.sIx xs.length xs.length hi=xs.length) /\ ∀ p,H p=none->Q (.ref p) (upd H p (.tup (Fe xs lo hi)))
def WV:SlR X (ZW X.K):=by
 intro zB s Y H x v vl vu lo hi sl Q I rx hs pl pu h;obtain ⟨a,xs,rfl,hx,hw,q⟩:=h;cases rx;obtain ⟨its,r,ht,hz⟩:=I.tuple hx;have hlen:its.toArray.size=xs.length:=by rw[AW];exact r.length.symm
 refine ⟨"tuple", _,Gn.lookup,ht.typeIs,?_⟩;refine HT.Ww ht hs pl pu (by rw[hlen];exact hw) ?_ (by rw[hlen];exact hz);rw[hlen];refine ⟨.ref s.heap.objs.size,_,I.laid (t':=s.toks) (o:=.tup (Fe xs lo hi)) (λb ob q=>AJ _ q) (AG _) ?_,rfl,q _ (I.hok.fresh (AG _))⟩;exact ⟨BA (O9 xs lo hi) hz,_,(r.drop (HT.sIx xs.length 0 lo)).take (HT.sIx xs.length xs.length hi-HT.sIx xs.length 0 lo),DR.new _ _⟩
noncomputable def Nt (K:Yb):R2:=λx y H Q=>∃ a b xs ys,x=.ref a/\y=.ref b/\SqT K H a xs/\SqT K H b ys/\xs≠[]/\xs.length+ys.length<=sizeLine /\
 (ys=[]->Q (.ref a) H)/\(ys≠[] -> ∀ p,H p=none->Q (.ref p) (upd H p (.tup (xs++ys))))
def zX.nil_iff {xs:List V} {us:Yf} (r:zX xs us):us=[] ↔ xs=[]:=by
 cases r with
 |nil=>simp
 |cons _ _=>simp
def Rq:OpR X (binaryOp .Add) (Nt X.K):=by
 intro zB s Y H x y v u Q I rx ry h;obtain ⟨a,b,xs,ys,rfl,rfl,ha,hb,hx,hz,q1,q2⟩:=h;cases rx;cases ry;obtain ⟨its,r1,p1,_⟩:=I.tuple ha;obtain ⟨its2,r2,p2,_⟩:=I.tuple hb;refine HT.TR p1 p2 (λz=>hx (r1.nil_iff.mp z)) (λz=>⟨.ref a,H,I,rfl,q1 (r2.nil_iff.mp z)⟩) (λz=>?_) (by rw[<-r1.length,<-r2.length];exact hz);refine ⟨.ref s.heap.objs.size,_,I.laid (t':=s.toks) (o:=.tup (xs++ys)) (λb ob q=>AJ _ q) (AG _) ?_,rfl,q2 (λw=>z (r2.nil_iff.mpr w)) _ (I.hok.fresh (AG _))⟩;exact ⟨by rw[AN];exact hz,_,r1.append r2,DR.new _ _⟩
end
noncomputable def ixN (n:Nat) (i:Int):Option Nat:=if 0<=i then (if i<n then some i.toNat else none) else if -(n:Int)<=i then some (i+n).toNat else none
noncomputable def atI {α:Type} (xs:List α) (i:Int):Option α:=(ixN xs.length i).bind λj=>xs[j]?
def KC {n:Nat} {i:Int} {j:Nat} (h:ixN n i=some j):seqIndex? i n=some j/\j<n /\ -(n:Int)<=i/\i<n:=by
 unfold ixN at h;by_cases h0:0<=i
 .rw[AB h0]at h;by_cases h1:i<n
  .rw[AB h1]at h;have e:i.toNat=j:=CH h;exact ⟨by rw[seqIndex_of h0 h1,e],by omega,by omega,h1⟩
  .rw[AD h1]at h;cases h
 .rw[AD h0]at h;by_cases h1 : -(n:Int)<=i
  .rw[AB h1]at h;have e:(i+n).toNat=j:=CH h;exact ⟨by rw[seqIndex_neg (by omega) h1,e],by omega,h1,by omega⟩
  .rw[AD h1]at h;cases h
def K0 {α:Type} {xs:List α} {i:Int} {v:α} (h:atI xs i=some v):∃ j,seqIndex? i xs.length=some j/\xs[j]?=some v/\j<xs.length /\ -(xs.length:Int)<=i/\i<xs.length:=by
 unfold atI at h;cases e:ixN xs.length i with
 |none=>rw[e]at h;cases h
 |some j=>
  rw[e]at h;obtain ⟨h1,h2,h3,h4⟩:=KC e;exact ⟨j,h1,h,h2,h3,h4⟩
def C6 {α:Type} {xs:List α} {j:Nat} {v:α} (h:xs[j]?=some v):atI xs (j:Int)=some v:=by
 have hj:j<xs.length:=(AI.mp h).1;have e:ixN xs.length (j:Int)=some j:=by
  unfold ixN;rw[AB (by omega),AB (by omega)];simp
 unfold atI;rw[e];exact h
def PX (b:Expr):Prop:=∀ o i,subscripted b false o i=operate [o,i] (getItem o i)
def IxR (X:Cx) (r:R2):Prop :=
 ∀ (value slice:Expr) (zB:Yd) (s:Yl) (Y:St) (H:Hp) (x y:V) (v u:Yu) (Q:VK),Inv X zB Y H s->zm x v->zm y u->r x y H Q ->
  subscripted slice false v u=operate [v,u] (getItem v u)->wpAny (model X.prog X.w) X.A (subscriptTail value slice v u) (EP X zB Y Q) X.xe s
def MtR (X:Cx) (id:String) (r:V->List V->Hp->VK->Prop):Prop :=
 ∀ (zB:Yd) (s:Yl) (Y:St) (H:Hp) (x:V) (xs:List V) (v:Yu) (us:Yf) (Q:VK),Inv X zB Y H s->zm x v->zX xs us->r x xs H Q ->
  wpAny (model X.prog X.w) X.A (call (.builtin id) (v::us)) (EP X zB Y Q) X.xe s
section
variable {X:Cx} {a b:Expr} {ta tb:TE} {pos:Pos}
def IxR.or {r r':R2} (h:IxR X r) (h':IxR X r'):IxR X (λx y H Q=>r x y H Q\/r' x y H Q):=by
 intro value slice zB s Y H x y v u Q I rx ry q hs;rcases q with q|q
 .exact h value slice zB s Y H x y v u Q I rx ry q hs
 .exact h' value slice zB s Y H x y v u Q I rx ry q hs
def dS {r:R2} (hr:IxR X r) (ha:PE X a ta) (hb:PE X b tb) (hs:PX b):PE X (.Subscript a b pos) (tOp r ta tb):=by
 intro zB s Y H Q I h;exact Subscript_ (KS ha hb I h λv u s2 x y H2 I2 rx ry q=>hr a b zB s2 Y H2 x y v u Q I2 rx ry q (hs _ _))
noncomputable def Qh (K:Yb):R2:=λx y H Q=>∃ p xs i v,x=.ref p/\y=.int i/\SqL K H p xs/\atI xs i=some v/\Q v H
noncomputable def NG (K:Yb):R2:=λx y H Q=>∃ p xs i v,x=.ref p/\y=.int i/\SqT K H p xs/\atI xs i=some v/\Q v H
noncomputable def Qi:R2:=λx y H Q=>∃ z i c,x=.str z/\y=.int i/\z.length<=sizeLine/\atI z.cps.toList i=some c/\Q (.str ⟨#[c]⟩) H
def VB:IxR X (Qh X.K):=by
 intro value slice zB s Y H x y v u Q I rx ry h hs;obtain ⟨p,xs,i,z,rfl,rfl,hq,he,q⟩:=h;cases rx;obtain ⟨t,rfl⟩:=ry;obtain ⟨its,r,pl,hz⟩:=I.list hq;obtain ⟨j,h1,h2,h3,h4,h5⟩:=K0 he;obtain ⟨w,ew,rw'⟩:=r.get h2;have hl:=r.length;have hn:=Hf;have fin:EP X zB Y Q w s:=⟨z,H,I,rw',q⟩;by_cases h0:0<=i
 .have hj:i.toNat=j:=by
   rw[seqIndex_of h0 h5]at h1;exact CH h1
  exact item_listR pl.isList h0 (by omega) (by rw[hj];simpa using ew) fin hs
 .have hj:(i+(its.toArray.size:Int)).toNat=j:=by
   rw[seqIndex_neg (by omega) h4]at h1;rw[AW,<-hl];exact CH h1
  exact subscriptTail_builtinR (x:=w) pl.isList.typeIs slot_list_getitem.lookup
   (wpAny_getItem_list_neg (Q:=λr s'=>r=w/\EP X zB Y Q r s') pl.isList (by omega) (by rw[AW] <;> omega) (by omega) (by rw[hj];simpa using ew) ⟨rfl,fin⟩) hs
def fL:IxR X (NG X.K):=by
 intro value slice zB s Y H x y v u Q I rx ry h hs;obtain ⟨p,xs,i,z,rfl,rfl,hq,he,q⟩:=h;cases rx;obtain ⟨t,rfl⟩:=ry;obtain ⟨its,r,pl,hz⟩:=I.tuple hq;obtain ⟨j,h1,h2,h3,h4,h5⟩:=K0 he;obtain ⟨w,ew,rw'⟩:=r.get h2;have hl:=r.length;have hn:=Hf;have fin:EP X zB Y Q w s:=⟨z,H,I,rw',q⟩
 exact subscriptTail_builtinR (x:=w) pl.typeIs slot_tuple_getitem.lookup
  (getItem_tuple (j:=j) (Q:=λr s'=>r=w/\EP X zB Y Q r s') pl (by omega) (by omega) (by rw[AW,<-hl];exact h1) (by simpa using ew) ⟨rfl,fin⟩) hs
def W0:IxR X Qi:=by
 intro value slice zB s Y H x y v u Q I rx ry h hs;obtain ⟨z,i,c,rfl,rfl,hz,he,q⟩:=h;obtain ⟨t,rfl⟩:=rx;obtain ⟨t',rfl⟩:=ry;obtain ⟨j,h1,h2,h3,h4,h5⟩:=K0 he;have hl:z.cps.toList.length=z.length:=by simp[Str.length]
 rw[hl]at h1 h4 h5;have hn:=Hf;exact tail_any (typeIs_str s z t) slot_str_getitem.lookup (getItem_str (c:=c) (by
  have e1:decide (i < -(2 ^ 63:Int))=false:=AM (by omega);have e2:decide (i≥2 ^ 63)=false:=AM (by omega);rw[e1,e2,Bool.or_false]) (by rw[h1];simpa using h2) ⟨.str ⟨#[c]⟩,H,I.tok _,⟨_,rfl⟩,q⟩) hs
noncomputable def rIx (K:Yb):R2:=λx y H Q=>Qh K x y H Q\/NG K x y H Q\/Qi x y H Q
def eT:IxR X (rIx X.K):=VB.or (fL.or W0)
def RP (its:List Value) (n j:Nat) (u:Value):Obj.mapSeq (·.setIfInBounds j u) { cls:=.type "list", data:=.seq its.toArray n }={ cls:=.type "list", data:=.seq (its.set j u).toArray n }:=by
 simp[Obj.mapSeq]
def Inv.lst {zB:Yd} {Y:St} {H:Hp} {s:Yl} {p:Yt} {xs:List V} (I:Inv X zB Y H s) (h:H p=some (.lst xs)) :
  ∃ (its:List Value) (n:Nat),zX xs its/\s.heap.get? p=some { cls:=.type "list", data:=.seq its.toArray n }/\xs.length<=sizeLine:=by
 obtain ⟨z,its,n,r,e⟩:=I.hok p _ h;exact ⟨its,n,r,e,z⟩
def Inv.lstUpd {zB:Yd} {Y:St} {H:Hp} {s:Yl} {p:Yt} {xs ys:List V} {its its':Yf} {n n':Nat} {f:Obj->Obj} (I:Inv X zB Y H s) (h:H p=some (.lst xs))
  (ho:s.heap.get? p=some { cls:=.type "list", data:=.seq its.toArray n }) (hf:f { cls:=.type "list", data:=.seq its.toArray n }={ cls:=.type "list", data:=.seq its'.toArray n' }) (r:zX ys its') (hz:ys.length<=sizeLine) (t:Nat) :
  Inv X zB Y (upd H p (.lst ys)) { s with heap:=s.heap.update p f,toks:=t }:=by
 have e:(s.heap.update p f).get? p=some { cls:=.type "list", data:=.seq its'.toArray n' }:=by
  rw[Ej f ho (by rw[hf] <;> rfl),hf]
 refine I.write (x:=p) (e:=p) (by rw[h];trivial) (.inl rfl) (λb u hb q=>(Dz _ _ (Ne.symm hb)).trans q) ⟨_,e⟩ ?_;exact ⟨hz,its',n',r,e⟩
def Vo:V->V->V->Hp->(Hp->Prop)->Prop:=λo i v H Q=>∃ p xs k j,o=.ref p/\i=.int k/\H p=some (.lst xs)/\ixN xs.length k=some j/\Q (upd H p (.lst (xs.set j v)))
def cU:Qs X Vo:=by
 intro zB s Y H o i v ov iv u Q I ro ri rv h;obtain ⟨p,xs,k,j,rfl,rfl,hp,hj,q⟩:=h;cases ro;obtain ⟨t,rfl⟩:=ri;obtain ⟨its,n,r,ho,hz⟩:=I.lst hp;obtain ⟨h1,h2,h3,h4⟩:=KC hj;have hl:=r.length;have hn:=Hf;have I':Inv X zB Y (upd H p (.lst (xs.set j v))) { s with heap:=s.heap.update p (Obj.mapSeq (·.setIfInBounds j u)) } :=
  I.lstUpd hp ho (RP its n j u) (r.set rv j) (by rw[CP];exact hz) s.toks
 by_cases h0:0<=k
 .have hk:k.toNat=j:=by
   rw[seqIndex_of h0 h4]at h1;exact CH h1
  exact PySem.W.ki_setAt ho h0 (by omega) (by rw[AW,<-hl];exact h4) (by rw[hk];exact ⟨_,I',q⟩)
 .have hk:(k+(its.toArray.size:Int)).toNat=j:=by
   rw[seqIndex_neg (by omega) h3]at h1;rw[AW,<-hl];exact CH h1
  exact PySem.W.ki_setBack ho (by omega) (by rw[AW,<-hl];exact h3) (by omega) (by rw[hk];exact ⟨_,I',q⟩)
def Vc (lo hi:Ys) (n:Nat):(sliceBounds lo hi none n).1=((HT.sIx n 0 lo:Nat):Int)/\(sliceBounds lo hi none n).2.1=((HT.sIx n n hi:Nat):Int)/\(sliceBounds lo hi none n).2.2=1:=by
 refine ⟨?_,?_,rfl⟩
 .cases lo with
  |none=>simp[sliceBounds,HT.sIx]
  |some i=>
   simp only[sliceBounds,HT.sIx,Option.getD_none,show (1:Int)>0 by decide,if_true];by_cases h:i<0
   .simp only[h,if_true] <;> omega
   .simp only[h,if_false] <;> omega
 .cases hi with
  |none=>simp[sliceBounds,HT.sIx]
  |some i=>
   simp only[sliceBounds,HT.sIx,Option.getD_none,show (1:Int)>0 by decide,if_true];by_cases h:i<0
   .simp only[h,if_true] <;> omega
   .simp only[h,if_false] <;> omega
def W9 (its:Yf) (lo hi:Ys):slicePick its.toArray lo hi none=((its.drop (HT.sIx its.length 0 lo)).take (HT.sIx its.length its.length hi-HT.sIx its.length 0 lo)).toArray:=by
 obtain ⟨h1,h2,h3⟩:=Vc lo hi its.toArray.size;unfold slicePick;rw[h1,h2,h3];simp only[sliceRange_one,pick_run,AW] <;> rfl
def aC (K:Yb):V->Option Int->Option Int->Hp->VK->Prop:=λx lo hi H Q=>∃ a xs,x=.ref a/\SqL K H a xs /\ ∀ p,H p=none->Q (.ref p) (upd H p (.lst (Fe xs lo hi)))
def f9:SlR X (aC X.K):=by
 intro zB s Y H x v vl vu lo hi sl Q I rx hs pl pu h;obtain ⟨a,xs,rfl,hx,q⟩:=h;cases rx;obtain ⟨its,r,ht,hz⟩:=I.list hx;have hlen:=r.length;refine ⟨"list", _,slot_list_getitem.lookup,ht.isList.typeIs,?_⟩;refine wpAny_getItem_list_slice ht.isList hs pl pu .none (by simp) ?_ (by rw[AW] <;> omega);rw[W9,<-hlen];refine ⟨.ref s.heap.objs.size,_,I.laid (t':=s.toks) (o:=.lst (Fe xs lo hi)) (λb ob q=>AJ _ q) (AG _) ?_,rfl,q _ (I.hok.fresh (AG _))⟩;exact ⟨BA (O9 xs lo hi) hz,_,0,(r.drop (HT.sIx xs.length 0 lo)).take (HT.sIx xs.length xs.length hi-HT.sIx xs.length 0 lo),Aj _ rfl⟩
noncomputable def E5:V->Bool
 |.non=>true
 |.bl _=>true
 |.int _=>true
 |.str _=>true
 |_=>false
noncomputable def eqV:V->V->Bool
 |.non,.non=>true
 |.bl a,.bl b=>a==b
 |.bl a,.int b=>(if a then 1 else 0)==b
 |.int a,.bl b=>a==(if b then 1 else 0)
 |.int a,.int b=>a==b
 |.str a,.str b=>a==b
 |_,_=>false
def Sy {A:Yn} {s:Yl} {y x:V} {u v:Yu} (ry:zm y u) (rx:zm x v) (fy:E5 y=true) (fx:E5 x=true):SeqAt.EqAt A s u v (eqV y x):=by
 cases y with
 |non=>
  cases ry;cases x with
  |non=>cases rx;exact SeqAt.EqAt.same _
  |bl b=>cases rx;exact SeqAt.EqAt.none_bool b
  |int b=>obtain ⟨t,rfl⟩:=rx;exact SeqAt.EqAt.none_int b t
  |str b=>obtain ⟨t,rfl⟩:=rx;exact SeqAt.EqAt.none_str b t
  |_=>exact absurd (show false=true from fx) Ay
 |bl a=>
  cases ry;cases x with
  |non=>cases rx;exact SeqAt.EqAt.bool_none a
  |bl b=>cases rx;exact SeqAt.EqAt.bool_bool a b
  |int b=>obtain ⟨t,rfl⟩:=rx;exact SeqAt.EqAt.bool_int a b t
  |str b=>obtain ⟨t,rfl⟩:=rx;exact SeqAt.EqAt.bool_str a b t
  |_=>exact absurd (show false=true from fx) Ay
 |int a=>
  obtain ⟨t',rfl⟩:=ry;cases x with
  |non=>cases rx;exact SeqAt.EqAt.int_none a t'
  |bl b=>cases rx;exact SeqAt.EqAt.int_bool a t' b
  |int b=>obtain ⟨t,rfl⟩:=rx;exact SeqAt.EqAt.int_int a t' b t
  |str b=>obtain ⟨t,rfl⟩:=rx;exact SeqAt.EqAt.int_str a t' b t
  |_=>exact absurd (show false=true from fx) Ay
 |str a=>
  obtain ⟨t',rfl⟩:=ry;cases x with
  |non=>cases rx;exact SeqAt.EqAt.str_none a t'
  |bl b=>cases rx;exact SeqAt.EqAt.str_bool a t' b
  |int b=>obtain ⟨t,rfl⟩:=rx;exact SeqAt.EqAt.str_int a t' b t
  |str b=>obtain ⟨t,rfl⟩:=rx;exact SeqAt.EqAt.str_str a t' b t
  |_=>exact absurd (show false=true from fx) Ay
 |_=>exact absurd (show false=true from fy) Ay
noncomputable def eqU (x:V) (u:Yu):Bool:=match u with
 |.none=>eqV .non x
 |.bool b=>eqV (.bl b) x
 |.int i _=>eqV (.int i) x
 |.str z _=>eqV (.str z) x
 |_=>false
def Ot {x y:V} {u:Yu} (r:zm y u) (f:E5 y=true):eqU x u=eqV y x:=by
 cases y with
 |non=>cases r;rfl
 |bl b=>cases r;rfl
 |int i=>obtain ⟨t,rfl⟩:=r;rfl
 |str z=>obtain ⟨t,rfl⟩:=r;rfl
 |_=>exact absurd (show false=true from f) Ay
theorem Lx {x:V}:∀ {xs:List V} {us:Yf},zX xs us->xs.all E5=true->us.any (eqU x)=xs.any λy=>eqV y x
 |_,_,.nil,_=>rfl
 |y::xs,u::us,.cons r t,f=>by
  rw[D8,Am]at f;rw[List.any_cons,List.any_cons,Ot r f.1,Lx t f.2]
theorem Kk {A:Yn} {s:Yl} {x:V} {v:Yu} (rx:zm x v) (fx:E5 x=true):∀ {xs:List V} {us:Yf},zX xs us->xs.all E5=true -> ∀ u∈us,SeqAt.EqAt A s u v (eqU x u)
 |_,_,.nil,_=>λu hu=>by cases hu
 |y::xs,u::us,.cons r t,f=>λu' hu=>by
  rw[D8,Am]at f;rcases AO.mp hu with rfl|hu
  .rw[Ot r f.1];exact Sy r rx f.1 fx
  .exact Kk rx fx t f.2 u' hu
noncomputable def inV (x:V) (xs:List V):Bool:=xs.any λy=>eqV y x
noncomputable def rIn (K:Yb) (neg:Bool):R2:=λx y H Q=>∃ p xs,y=.ref p/\(SqL K H p xs\/SqT K H p xs)/\E5 x=true/\xs.all E5=true/\Q (.bl (if neg then !inV x xs else inV x xs)) H
def Uq:OpR X (compareOp .NotIn) (rIn X.K true):=by
 intro zB s Y H x y v u Q I rx ry h;obtain ⟨p,xs,rfl,hq,fx,fs,q⟩:=h;cases ry;rcases hq with hq|hq
 .obtain ⟨its,r,pl,hz⟩:=I.list hq;refine SeqAt.notIn_listAt (eqU x) pl.isList (λw hw=>Kk rx fx r fs w (by simpa using hw)) ⟨.bl _,H,I,rfl,?_⟩;rw[show its.toArray.any (eqU x)=its.any (eqU x) by simp,Lx r fs];exact q
 .obtain ⟨its,r,pl,hz⟩:=I.tuple hq;refine SeqAt.notIn_tupleAt (eqU x) pl (λw hw=>Kk rx fx r fs w (by simpa using hw)) ⟨.bl _,H,I,rfl,?_⟩;rw[show its.toArray.any (eqU x)=its.any (eqU x) by simp,Lx r fs];exact q
def V9:Cm X (.builtin "len") (λxs H Q=>∃ p ys,xs=[.ref p]/\(SqL X.K H p ys\/SqT X.K H p ys)/\Q (.int ys.length) H):=by
 intro zB s Y H xs us Q I r h;obtain ⟨p,ys,rfl,hq,q⟩:=h;obtain ⟨u,rfl,rx⟩:=Eu r;cases rx;have hn:=Hf;rcases hq with hq|hq
 .obtain ⟨its,r',pl,hz⟩:=I.list hq;have hlen:=r'.length;exact Calls.call_len_list pl.isList (by simp only[AW] <;> omega) ⟨.int ys.length,H,I.tok _,⟨s.toks+1,by rw[AW,hlen]⟩,q⟩
 .obtain ⟨its,r',pl,hz⟩:=I.tuple hq;have hlen:=r'.length;exact len_tuple pl (by simp only[AW] <;> omega) ⟨.int ys.length,H,I.tok _,⟨s.toks+1,by rw[AW,hlen]⟩,q⟩
def Vu:Cm X (.type "list") (λxs H Q=>∃ p ys,xs=[.ref p]/\(SqL X.K H p ys\/SqT X.K H p ys) /\ ∀ l,H l=none->Q (.ref l) (upd H l (.lst ys))):=by
 intro zB s Y H xs us Q I r h;obtain ⟨p,ys,rfl,hq,q⟩:=h;obtain ⟨u,rfl,rx⟩:=Eu r;cases rx
 have fin:∀ (its:Yf),zX ys its->ys.length<=sizeLine -> ∀ (h':Heap) (c':Nat),(∀ b o',s.heap.get? b=some o'->h'.get? b=some o') ->
   h'.get? s.heap.objs.size=some { cls:=.type "list", dict:=none,data:=.seq its.toArray c',slots:=#[] }->EP X zB Y Q (.ref s.heap.objs.size) { s with heap:=h' }:=λits r' hz h' c' kp e=>
  ⟨.ref s.heap.objs.size,_,I.laid (t':=s.toks) kp (AG _) (show Aq X.prog X.w _ h' _ (.lst ys)from ⟨hz,its,c',r',e⟩),rfl,q _ (I.hok.fresh (AG _))⟩
 rcases hq with hq|hq
 .obtain ⟨its,r',pl,hz⟩:=I.list hq;have hlen:=r'.length;obtain ⟨o,ho,hc,n,hd⟩:=pl.isList;exact call_list_seq p (.inl rfl) ho hc hd (λh' c' kp e=>fin its r' hz h' c' kp e) (by simp only[AW] <;> omega)
 .obtain ⟨its,r',pl,hz⟩:=I.tuple hq;have hlen:=r'.length;obtain ⟨o,ho,hc,n,hd⟩:=pl;exact call_list_seq p (.inr rfl) ho hc hd (λh' c' kp e=>fin its r' hz h' c' kp e) (by simp only[AW] <;> omega)
def eE:Cm X (.type "tuple") (λxs H Q=>∃ p ys,xs=[.ref p]/\((SqL X.K H p ys /\ ∀ l,H l=none->Q (.ref l) (upd H l (.tup ys)))\/(SqT X.K H p ys/\Q (.ref p) H))):=by
 intro zB s Y H xs us Q I r h;obtain ⟨p,ys,rfl,h⟩:=h;obtain ⟨u,rfl,rx⟩:=Eu r;cases rx;rcases h with ⟨hq,q⟩|⟨hq,q⟩
 .obtain ⟨its,r',pl,hz⟩:=I.list hq;have hlen:=r'.length;refine call_tuple_list pl.isList (λh' kp=>?_) (by simp only[AW] <;> omega);have I1:Inv X zB Y H { s with heap:=h' }:=I.kept (t':=s.toks) kp;have I2:Inv X zB Y (upd H h'.objs.size (.tup ys)) { s with heap:=h'.push { cls:=.type "tuple", data:=.seq its.toArray } } :=
   I1.laid (t':=s.toks) (λb o e=>AJ _ e) (AG _) (show Aq X.prog X.w _ _ _ (.tup ys)from ⟨hz,its,r',DR.new _ _⟩)
  exact ⟨.ref h'.objs.size,_,I2,rfl,q _ (I1.hok.fresh (AG _))⟩
 .obtain ⟨its,r',pl,hz⟩:=I.tuple hq;exact call_tuple_same pl ⟨.ref p,H,I,rfl,q⟩
def tyV (K:Yb) (T:String) (x:V) (H:Hp):Prop:=match x with
 |.str _=>T = "str"
 |.int _=>T = "int"
 |.ref p=>(T = "list" /\ ∃ xs,SqL K H p xs)\/(T = "tuple" /\ ((∃ o,K.lookup p=some o/\o.cls=.type "tuple" /\ o.dict=none) \/ ∃ xs,H p=some (.tup xs))) \/
   (T = "dict" /\ ((∃ kvs,H p=some (.dK kvs)) \/ ∃ kvs,H p=some (.dT kvs)))\/(T = "set" /\ ∃ S n,H p=some (.set S n))
 |_=>False
def Z9 {zB:Yd} {Y:St} {H:Hp} {s:Yl} {T:String} {x:V} {v:Yu} (I:Inv X zB Y H s) (r:zm x v) (ty:tyV X.K T x H) :
  s.TypeIs v T /\ ∀ a,v=.ref a -> ∃ ob,s.heap.get? a=some ob/\ob.dict=none:=by
 cases x with
 |str z=>
  obtain ⟨t,rfl⟩:=r;cases (show T = "str" from ty);exact ⟨typeIs_str s z t,λ_ e=>nomatch e⟩
 |int i=>
  obtain ⟨t,rfl⟩:=r;cases (show T = "int" from ty);exact ⟨typeIs_int s i t,λ_ e=>nomatch e⟩
 |ref p=>
  cases r;rcases ty with ⟨rfl,xs,hq⟩|⟨rfl,⟨o,hk,hc,hd⟩|⟨xs,hq⟩⟩|⟨rfl,hk⟩|⟨rfl,S,n,hk⟩
  .obtain ⟨its,_,pl,_⟩:=I.list hq;refine ⟨pl.isList.typeIs,λa e=>?_⟩;cases e;obtain ⟨o,n,e,c,hd,_⟩:=pl;exact ⟨o,e,hd⟩
  .refine ⟨⟨o,I.kIn p o hk,hc⟩,λa e=>?_⟩;cases e;exact ⟨o,I.kIn _ o hk,hd⟩
  .obtain ⟨_,its,_,o,e,c,_,hd⟩:=I.hok p _ hq;refine ⟨⟨o,e,c⟩,λa e2=>?_⟩;cases e2;exact ⟨o,e,hd⟩
  .have z:∃ o,s.heap.get? p=some o/\o.ExactDict:=by
    rcases hk with ⟨kvs,hk⟩|⟨kvs,hk⟩
    .obtain ⟨_,_,_,_,o,_,_,e,ex,_⟩:=I.hok p _ hk;exact ⟨o,e,ex⟩
    .obtain ⟨_,_,_,_,o,_,_,e,ex,_⟩:=I.hok p _ hk;exact ⟨o,e,ex⟩
   obtain ⟨o,e,ex⟩:=z;refine ⟨⟨o,e,ex.1⟩,λa e2=>?_⟩;cases e2;exact ⟨o,e,ex.2.1⟩
  .obtain ⟨o,_,_,_,e,ex,_⟩:=I.hok p _ hk;refine ⟨⟨o,e,ex.1⟩,λa e2=>?_⟩;cases e2;exact ⟨o,e,ex.2.1⟩
 |_=>exact False.elim ty
noncomputable def tBM (K:Yb) (T:String) (r:V->List V->Hp->VK->Prop) (to:TE) (t:TA):TE:=λY H Q=>to Y H λx H1=>tyV K T x H1/\t Y H1 λxs H2=>r x xs H2 Q
variable {o e:Expr} {es:Yi} {to:TE} {t:TA} {name:Str} {apos cpos:Pos} {T id:String} {r:V->List V->Hp->VK->Prop}
def Jx (pa:PlainAttrs T) (slot:Slot T name id) (hty:typeOf (.builtin id)=pure (.type "method_descriptor")) (hm:MtR X id r) (ho:PE X o to) (ha:PA X (e::es) t)
  (hbase:attributeBase o name X.env (eval o X.env)=eval o X.env:=by rfl)
  (hfew:((backTo cpos (starEach (e::es) X.env)).all (λx=> !x.1)&&(backToKw cpos (keywordEach [] X.env)).all (λx=>x.1.isSome)
   && decide ((e::es).length+([]:List Keyword).length+(if ([]:List Keyword).isEmpty then 0 else 1)<30))=true:=by rfl)
  (hline:(apos.endLine==cpos.line)=true:=by rfl) (hs:starEach (e::es) X.env=(false,eval e X.env)::starEach es X.env:=by rfl) (hplain:(backTo cpos (starEach es X.env)).any (·.1)=false:=by rfl) :
  PE X (.Call (.Attribute o name apos) (e::es) [] cpos) (tBM X.K T r to t):=by
 intro zB s Y H Q I h;refine wpAny_Call_method_late hbase hfew hline rfl (thn (ho zB s Y H _ I h) λv s1 ⟨x,H1,I1,r1,ty,q1⟩=>?_);obtain ⟨h1,h2⟩:=Z9 I1 r1 ty;refine ⟨T,id,pa,slot,hty,h1,h2,?_⟩;have hA:=ha cpos zB s1 Y H1 _ I1 q1;rw[hs]at hA ⊢;refine Calls.callWith_builtin (by show (false||(backTo cpos (starEach es X.env)).any (·.1))=false;rw[hplain] <;> rfl) (Calls.evalArgs_plain ?_);exact thn hA λus s2 ⟨vs,H2,I2,r2,q2⟩=>hm zB s2 Y H2 x vs v us Q I2 r1 r2 q2
end
def MtM (X:Cx) (id:String) (r:V->List V->Hp->VK->Prop):Prop :=
 ∀ (zB:Yd) (s:Yl) (Y:St) (H:Hp) (x:V) (xs:List V) (v:Yu) (us:Yf) (Q:VK),Inv X zB Y H s->zm x v->zX xs us->r x xs H Q ->
  wpAny (model X.prog X.w) X.A (call (.builtin id) (v::us)) (EP X zB Y Q) X.xe s
def zX.one:∀ {x:V} {us:Yf},zX [x] us -> ∃ u,us=[u]/\zm x u
 |_,_,.cons r .nil=>⟨_,rfl,r⟩
def zX.two:∀ {x y:V} {us:Yf},zX [x,y] us -> ∃ u v,us=[u,v]/\zm x u/\zm y v
 |_,_,_,.cons r (.cons q .nil)=>⟨_,_,rfl,r,q⟩
def zX.eraseIdx:∀ {xs:List V} {us:Yf} (i:Nat),zX xs us->zX (xs.eraseIdx i) (us.eraseIdx i)
 |_,_,_,.nil=> .nil
 |_,_,0,.cons _ t=>t
 |_,_,i+1,.cons r t=> .cons r (zX.eraseIdx i t)
def zX.rep {xs:List V} {us:Yf} (h:zX xs us):∀ k:Nat,zX (List.replicate k xs).flatten (List.replicate k us).flatten
 |0=> .nil
 |k+1=>by
  rw[F3,F3,C3,C3];exact zX.append h (zX.rep h k)
theorem Oe {α:Type}:∀ (l:List α) (i:Nat),(l.eraseIdx i).length<=l.length
 |[],_=>AG _
 |_::_,0=>Nat.le_succ _
 |_::r,i+1=>Nat.succ_le_succ (Oe r i)
theorem MY (its:Yf):∀ (k:Nat) (acc:Yf),
  List.foldl (λx1 x2=>x1++x2) acc.toArray (List.replicate k its.toArray)=(acc++(List.replicate k its).flatten).toArray
 |0,acc=>by simp
 |k+1,acc=>by
  have e:acc.toArray++its.toArray=(acc++its).toArray:=by simp
  have e2:(acc++its)++(List.replicate k its).flatten=acc++(List.replicate (k+1) its).flatten:=by
   rw[F3,C3,DJ]
  rw[<-e2,<-MY its k (acc++its),<-e,F3,List.foldl_cons]
section
variable {X:Cx} {zB:Yd} {Y:St} {H:Hp} {s:Yl} {l b:Yt} {xs ys zs:List V}
def Inv.lset {its its':Yf} {n:Nat} {f:Array Value->Array Value} {t':Nat} (I:Inv X zB Y H s) (hH:H l=some (.lst xs))
  (e:s.heap.get? l=some { cls:=.type "list", data:=.seq its.toArray n }) (hf:f its.toArray=its'.toArray) (hv:zX ys its') (hz:ys.length<=sizeLine) :
  Inv X zB Y (upd H l (.lst ys)) { s with heap:=s.heap.update l (Obj.mapSeq f),toks:=t' }:=by
 have q:=PySem.IsL.update e f;rw[hf]at q;refine I.write (x:=l) (e:=l) (by rw[hH];exact trivial) (.inl rfl) (λb' u hb hu=>(Dz s.heap (Obj.mapSeq f) (Ne.symm hb)).trans hu) ⟨_,q⟩ ?_;exact ⟨hz,its',_,hv,q⟩
def Inv.lnew {its:Yf} {t':Nat} (I:Inv X zB Y H s) (hv:zX ys its) (hz:ys.length<=sizeLine) :
  Inv X zB Y (upd H s.heap.objs.size (.lst ys)) { s with heap:=s.heap.push { cls:=.type "list", data:=.seq its.toArray },toks:=t' } :=
 I.laid (λ_ _ q=>AJ _ q) (AG _) ⟨hz,its,0,hv,Aj _ rfl⟩
def Inv.fresh (I:Inv X zB Y H s):H s.heap.objs.size=none:=I.hok.fresh (AG _)
def Inv.lstM (I:Inv X zB Y H s) (hH:H l=some (.lst xs)):xs.length<=sizeLine /\ ∃ (its:List Value) (n:Nat),zX xs its/\xs.length=its.length/\s.heap.get? l=some { cls:=.type "list", data:=.seq its.toArray n }:=by
 obtain ⟨z,its,n,r,e⟩:=I.hok l _ hH;exact ⟨z,its,n,r,r.length,e⟩
def gJ {n:Nat} (h:n<=sizeLine):Builtin.List.listTooLong n=false:=by
 unfold Builtin.List.listTooLong;exact AM (by omega)
end
section
variable {X:Cx}
def Mn:V->List V->Hp->VK->Prop:=λx vs H Q=>∃ l xs y,x=.ref l/\vs=[y]/\H l=some (.lst xs)/\xs.length<sizeLine/\Q .non (upd H l (.lst (xs++[y])))
def Zk:MtM X "list.append" Mn:=by
 intro zB s Y H x vs v us Q I rx rv h;obtain ⟨l,xs,y,rfl,rfl,hH,hz,q⟩:=h;cases rx;obtain ⟨u,rfl,ru⟩:=rv.one;obtain ⟨z,its,n,r,hl,e⟩:=I.lstM hH;refine call_meets F.slot_list_append ⟨_,e,rfl⟩ F.entry_list_append (F.args_list_append_2 _ _) (PySem.list_append l its.toArray n u (by rw[AW];omega)) ⟨e,?_⟩;refine ⟨.non,_,I.lset (its':=its++[u]) hH e (by simp) (r.append (.cons ru .nil)) ?_,rfl,q⟩;rw[AN,FH];omega
def NF:V->List V->Hp->VK->Prop:=λx vs H Q=>∃ l xs i k y,x=.ref l/\vs=[.int i]/\H l=some (.lst xs) /\ -(2 ^ 63)<=i/\i<2 ^ 63/\seqIndex? i xs.length=some k/\xs[k]?=some y/\Q y (upd H l (.lst (xs.eraseIdx k)))
def ZP:MtM X "list.pop" NF:=by
 intro zB s Y H x vs v us Q I rx rv h;obtain ⟨l,xs,i,k,y,rfl,rfl,hH,h1,h2,hk,hy,q⟩:=h;cases rx;obtain ⟨u,rfl,ru⟩:=rv.one;obtain ⟨t,rfl⟩:=ru;obtain ⟨z,its,n,r,hl,e⟩:=I.lstM hH;obtain ⟨w,hw,rw'⟩:=r.get hy
 refine call_meets F.slot_list_pop ⟨_,e,rfl⟩ F.entry_list_pop (F.args_list_pop_2 _ _)
  (MeetsSeq.list_pop_at l its.toArray n i t k w (fitsIndex_both h1 h2) (by rw[AW,<-hl];exact hk) (by rw[<-CC];exact hw) (by rw[AW];omega)) ⟨e,?_⟩
 refine ⟨y,_,I.lset (its':=its.eraseIdx k) hH e ?_ (r.eraseIdx k) ?_,rw',q⟩
 .show its.toArray.eraseIdxIfInBounds k=(its.eraseIdx k).toArray;rw[List.eraseIdxIfInBounds_toArray]
 .have:=Oe xs k;omega
noncomputable def Qz:R2:=λx y H Q=>∃ l b xs zs,x=.ref l/\y=.ref b/\H l=some (.lst xs)/\H b=some (.lst zs)/\xs.length+zs.length<=sizeLine /\ ∀ p,H p=none->Q (.ref p) (upd H p (.lst (xs++zs)))
def Uw:OpR X (binaryOp .Add) Qz:=by
 intro zB s Y H x y v u Q I rx ry h;obtain ⟨l,b,xs,zs,rfl,rfl,hH,hB,hz,q⟩:=h;cases rx;cases ry;obtain ⟨z,its,n,r,hl,e⟩:=I.lstM hH;obtain ⟨z2,its2,n2,r2,hl2,e2⟩:=I.lstM hB;refine PySem.P.add_list e e2 ?_ (by rw[AW,AW];omega);have ea:its.toArray++its2.toArray=(its++its2).toArray:=by simp
 rw[ea];exact ⟨.ref _,_,I.lnew (t':=s.toks) (r.append r2) (by rw[AN];omega),rfl,q _ I.fresh⟩
noncomputable def Nn:R2:=λx y H Q=>∃ l k xs,x=.ref l/\y=.int k/\H l=some (.lst xs) /\ -(2 ^ 63)<=k/\k<2 ^ 63/\xs.length*k.toNat<=sizeLine /\
 ∀ p,H p=none->Q (.ref p) (upd H p (.lst (List.replicate k.toNat xs).flatten))
def Lb {α:Type} (xs:List α) (k:Nat):(List.replicate k xs).flatten.length=k*xs.length:=by
 induction k with
 |zero=>simp
 |succ k ih=>rw[F3,C3,AN,ih,Nat.succ_mul,Nat.add_comm]
def Us:OpR X (binaryOp .Mult) Nn:=by
 intro zB s Y H x y v u Q I rx ry h;obtain ⟨l,k,xs,rfl,rfl,hH,h1,h2,hz,q⟩:=h;cases rx;obtain ⟨t,rfl⟩:=ry;obtain ⟨z,its,n,r,hl,e⟩:=I.lstM hH;have hlen:its.toArray.size*k.toNat<=sizeLine:=by rw[AW,<-hl];exact hz
 have hcap:¬ its.toArray.size*k.toNat>(2 ^ 63-1) / 8:=by
  have:(sizeLine:Nat)<=(2 ^ 63-1) / 8:=by decide
  omega
 have hfit:¬ (!Builtin.List.listFitsIndex k)=true:=by
  rw[fitsIndex_both h1 h2];exact Ay
 have hlong:¬ Builtin.List.listTooLong (its.toArray.size*k.toNat)=true:=by
  rw[gJ hlen];exact Ay
 have hnew:List.foldl (λx1 x2=>x1++x2) #[] (List.replicate (if its.toArray.isEmpty=true then 0 else k.toNat) its.toArray)=(List.replicate k.toNat its).flatten.toArray:=by
  have f0:∀ m:Nat,List.foldl (λx1 x2=>x1++x2) #[] (List.replicate m its.toArray)=(List.replicate m its).flatten.toArray:=λm=>by
   have:=MY its m [];rw[List.nil_append]at this;exact this
  rw[f0];cases its with
  |nil=>simp
  |cons a r'=>rw[AD (by simp)]
 refine wpAny_binaryOp_repeat_ref (T := "list") (U := "int") (by decide) ⟨_,e,rfl⟩ (λs'=>typeIs_int s' k t) noFill_list_mul F.fills_int_mul F.slot_int_rmul repeat_list F.slot_int_index.lookup
  (call_meets F.slot_int_rmul (typeIs_int s k t) F.entry_int_rmul (F.args_int_rmul_2 _ _) (int___rmul___int_list k t l its.toArray n)
   ⟨e,rfl,⟨_,e,rfl⟩,call_meets F.slot_list_mul ⟨_,e,rfl⟩ F.entry_list_mul (F.args_list_mul_2 _ _) (AutoListH.list___mul___list_int_3 l its.toArray n k t hfit hcap hlong) ⟨e,?_⟩⟩)
 rw[hnew];exact ⟨.ref _,_,I.lnew (t':=s.toks) (r.rep k.toNat) (by rw[Lb,Nat.mul_comm];exact hz),rfl,q _ I.fresh⟩
end
end L2
namespace Att
open PySem PySem.W PySem.Calls PyProof.Rows
def Sx {P:Params} {h:Heap}:∀ (ns:Ye) (vs:Yf),WellAll P h vs (ns.map WData.int)->IntsAre vs ns:=by
 intro ns;induction ns with
 |nil=>
  intro vs w;rw[List.map_nil]at w;cases w;exact .nil
 |cons n ns ih=>
  intro vs w;rw[AY]at w;cases w with
  |cons a b=>
   cases a;exact .cons _ _ (ih _ b)
def aS {l:OpenLaw} {n:Nat} (hn:l.most=some n) {P:Params} {h:Heap} {args:List WData} {vals:Yf}
  (hpre:l.row.toRowW.claim.pre args=true) (hwl:WellAll P h vals args) :
  ∃ a vs ns,vals=[Value.ref a]/\args=[WData.list (ns.map WData.int)]/\h.get? a=some { cls:=.type "list", data:=.seq vs.toArray }/\IntsAre vs ns/\ns.length<=n:=by
 have hsh:WShape.hasAll [] args [.list .int]=true:=(pre_splitW hpre).1;have hc:l.pre.holds [] { args:=args }=true:=(pre_splitW hpre).2;obtain ⟨d,r,rfl,h1,h2⟩:=hasAllW_cons hsh;obtain rfl:=hasAllW_nil h2;obtain ⟨xs,rfl,h3⟩:=hasW_list h1;obtain ⟨ns,rfl⟩:=items_int h3;have hlen:ns.length<=n:=by
  unfold OpenLaw.pre at hc;have h4:(WTm.not (.lt (.lit (.int (n:Int))) (.len (.arg 0)))).holds [] { args:=[.list (ns.map .int)] }=true:=by
   have h4:=(holds_andW hc).1;rw[hn]at h4;exact h4
  have h5:=condW_of h4 (w_not (w_lt w_lit (w_len_list (w_arg rfl))));rw[AF]at h5;refine Nat.le_of_not_lt λq=>?_;have q':(n:Int)<((ns.length:Nat):Int):=by omega
  first
   | (rw[AR q']at h5;exact absurd h5 (by decide))
   | (simp at h5;omega)
 cases hwl with
 |cons w1 w2=>
  cases w2;cases w1 with
  |list ho hall=>exact ⟨_,_,ns,rfl,rfl,ho,Sx ns _ hall,hlen⟩
def U3 (l:OpenLaw) (args:List WData):l.row.toRowW.claim.post args (.bool true) args=true :=
 postW_of (r:=l.row.toRowW) (X:=(true==true))
  (show WShape.has [] (.bool true) .bool=true by first|rfl|decide|simp[WShape.has,WShape.arms,WShape.armsAll])
  (show (WTm.eq .res (.lit (.bool true))).value [] { args:=args,res:=some (.bool true),after:=args }=some (.bool (true==true))from w_eq_bool (w_res rfl) w_lit) rfl
def eK {l:OpenLaw} {n:Nat} {q:Ym} {loose:Yk} {XP:(Str->Option Value)->Heap->Prop} {YP:World->Heap->Prop} {d:DefRec}
  (hn:l.most=some n) (hdf:d.params.defaults=[])
  (call:∀ (w:Yo) (s₀ s₁:Yl) (mg mb:Yh) (fa:Yt) (o:Obj) (pm cd doc:Yu) (a:Yt) (vs:Yf) (ns:Ye),
   Ground q loose [] XP w s₀ mg mb s₁.heap->YP w s₁.heap ->
   s₁.heap.get? fa=some o->o.data=.func (docDef d.name d.params d.body d.scope pm cd doc)->s₁.heap.CodeRec cd d.name->mg d.name=some (.ref fa) ->
   s₁.heap.get? a=some { cls:=.type "list", data:=.seq vs.toArray }->IntsAre vs ns->ns.length<=n->s₁.gens = #[] ->
   codeAny (model l.prog w) callerA (.call (.ref fa) ⟨[.ref a],[]⟩) (λr s'=>r=.ok (.ret (.bool true))/\OldK s₁.heap s'.heap/\s'.os=s₁.os/\AllBare s'.gens) s₁) :
  WalkO q loose XP YP l.row.toRowW d [] (λf vs=>PySem.call f vs):=by
 intro w s₀ s₁ mg mb G YY fa o pm cd doc dV kV ho hd hcd hD hmg hg args vals as hpre hlay hrd hwl hlo;obtain rfl:dV=.none:=Dflts.none hD hdf;obtain rfl:kV=.none:=Dflts.noKw hD;obtain ⟨a,vs,ns,rfl,rfl,hobj,hints,hlen⟩:=aS hn hpre hwl;refine enter_call (codeAny_mono (call w s₀ s₁ mg mb fa o pm cd doc a vs ns G YY ho (fd_plain hd) hcd hmg hobj hints hlen hg) λr s' hq=>?_);obtain ⟨rfl,h2,h3,h4⟩:=hq;exact ⟨.inl ⟨.bool true,.bool true,[],rfl,λ_=>rfl,.bool true,U3 l _,λ_=>⟨List.Pairwise.nil,λ_ hm=>(nomatch hm)⟩⟩,h2,h3,h4⟩
end Att
namespace L2
theorem Mv:∀ {vs:Yf} {ns:Ye},IntsAre vs ns->zX (ns.map V.int) vs
 |_,_,.nil=> .nil
 |_,_,.cons n t h=> .cons ⟨t,rfl⟩ (Mv h)
def IX (H:Hp):Prop:=∀ b,H b=none \/ ∃ o xs,H b=some (.frz o (.lst xs))
def Sj {P:Ym} {w:Yo} {K:Yb} {mg mb:Yh} {CX:CXT} {k:Nat} {fa a:Yt} {fd:Yz} {x:Str} {sp:Sp} {s₁:Yl} {vs:Yf} {ns:Ye}
  (KX:K.In s₁.heap) (hns:s₁.heap.Ns mainGlobals mg) (hb:s₁.heap.Ns builtinsNs mb) (hbb:∀ x:Str,x ≠ "__name__" -> mb x=bootBuiltins x) (hlim:s₁.heap.NoLimit) (hbm:BMn mg s₁.heap) (hg:s₁.gens = #[])
  (ha:s₁.heap.get? a=some { cls:=.type "list", data:=.seq vs.toArray }) (hi:IntsAre vs ns) (hl:ns.length<=sizeLine) (hr:Room k callerA)
  (F:∀ base:Heap,K.In base->base.Ns mainGlobals mg->FnOk P w K mg base CX k fa fd [x] sp) (hbind:∀ (s:Yl) (u:Yu),BindsTo s fd ⟨[u],[]⟩ [(x,u)])
  (hsp:∀ H:Hp,IX H->SqL K H a (ns.map V.int)->sp [.ref a] H (λv _=>v=.bl true) λ_ _ _=>False)
  (hCX:∀ H e s',CX [] H s₁ (λ_ _ _=>False) e s'->False) :
  codeAny (model P w) callerA (.call (.ref fa) ⟨[.ref a],[]⟩) (λr s'=>r=.ok (.ret (.bool true))/\OldK s₁.heap s'.heap/\s'.os=s₁.os/\AllBare s'.gens) s₁:=by
 have rv:=Mv hi;have lenV:=hi.length
 have core:∀ H:Hp,IX H->SqL K H a (ns.map V.int)->HOk P w H s₁.heap->(∀ b,H b≠none->b=a)->(H a≠none->K.lookup a=none) ->
   codeAny (model P w) callerA (.call (.ref fa) ⟨[.ref a],[]⟩) (λr s'=>r=.ok (.ret (.bool true))/\OldK s₁.heap s'.heap/\s'.os=s₁.os/\AllBare s'.gens) s₁:=by
  intro H hO hS hok hA hK;have base_of:∀ {b:Yt} {o:Obj},s₁.heap.get? b=some o->H b=none->(EZ s₁.heap H).get? b=some o:=λe n=>WE e n;have noA:∀ {b:Yt} {o:Obj} {es:Array DictEntry} {ep:Nat},s₁.heap.get? b=some o->o.data=.dict es ep->H b=none:=λ{b o es ep} e d=>by
   cases q:H b with
   |none=>rfl
   |some u=>
    have e':b=a:=hA b (by rw[q];simp);subst e';rw[ha]at e;cases e;have d':Data.seq vs.toArray _=Data.dict es ep:=d;cases d'
  have nsK:∀ {b:Yt} {m:Yh},s₁.heap.Ns b m->(EZ s₁.heap H).Ns b m:=λ{b m} ⟨o,es,ep,e,d,r⟩=>⟨o,es,ep,base_of e (noA e d),d,r⟩;have hKb:K.In (EZ s₁.heap H):=λb o e=>base_of (KX b o e) (by
   cases q:H b with
   |none=>rfl
   |some u=>
    have e':b=a:=hA b (by rw[q];simp);subst e';rw[hK (by rw[q];simp)]at e;cases e)
  have bmK:BMn mg (EZ s₁.heap H):=by
   obtain ⟨bm,ob,b1,b2,b3,b4⟩:=hbm;refine ⟨bm,ob,b1,b2,base_of b3 ?_,b4⟩;cases q:H bm with
   |none=>rfl
   |some u=>
    have e':bm=a:=hA bm (by rw[q];simp);subst e';rw[ha]at b3;cases b3;cases b4.2.2
  have hM:Mod K mg (EZ s₁.heap H):=⟨hKb,nsK hns,⟨mb,nsK hb,hbb⟩,let ⟨mc,h1,h2⟩:=hlim;⟨mc,nsK h1,h2⟩,bmK⟩;have e0:Env0 P w K mg (EZ s₁.heap H) callerA [] s₁ H:=⟨rfl,hM,λb o e=>fZ e,Nat.le_of_eq (V5 _ _),trivial,λb hb=>absurd (show b∈([]:List Addr)from hb) (by simp),hok,.of_eq hg⟩;refine codeAny_mono ((F _ hKb (nsK hns)).run callerA [] s₁ H ⟨[.ref a],[]⟩ [.ref a] [.ref a] _ _ hr e0 (hbind s₁ (.ref a)) (.cons rfl .nil) (hsp H hO hS)) λr s' h=>?_;cases r with
  |error e=>exact (hCX H e s' h).elim
  |ok fl=>
   cases fl with
   |next=>exact False.elim h
   |brk=>exact False.elim h
   |cont=>exact False.elim h
   |ret u=>
    obtain ⟨v,H',os,bare,un,hok',r',q⟩:=h;have q':v=.bl true:=q;subst q';obtain rfl:u=Value.bool true:=r';refine ⟨rfl,OldK.of_keep λb o e=>?_,os,bare⟩;cases q:H b with
    |none=>exact un.keep b o e q (by intro z;exact absurd (show b∈([]:List Addr)from z) (by simp)) (by simp)
    |some u=>
     rcases hO b with z|⟨ob,xs,z⟩
     .rw[q]at z;cases z
     .have z2:=un.frzs b ob _ z;obtain ⟨e1,_⟩:=hok b _ z;obtain ⟨e2,_⟩:=hok' b _ z2;rw[e]at e1;cases e1;exact e2
 cases hk:K.lookup a with
 |some o=>
  have e:=KX a o hk;rw[ha]at e;cases e;refine core (λ_=>none) (λ_=> .inl rfl) (.inr ⟨_,vs.toArray,_,hk,rfl,rfl,rfl,by rw[AW,lenV];exact hl,by simpa using rv⟩) (λb u z=>by have z':(none:Option HO)=some u:=z;cases z') (λb z=>absurd rfl z) λz=>absurd rfl z
 |none=>
  refine core (λb=>if b=a then some (.frz { cls:=.type "list", data:=.seq vs.toArray } (.lst (ns.map V.int))) else none) (λb=>?_) (.inl (.inr ⟨{ cls:=.type "list", data:=.seq vs.toArray },AB rfl⟩)) (λb u z=>?_) (λb z=>?_) λ_=>hk
  .by_cases hb:b=a
   .exact .inr ⟨_,_,AB hb⟩
   .exact .inl (AD hb)
  .by_cases hb:b=a
   .have z':=(AB hb).symm.trans z;cases z';subst hb;exact ⟨ha,by rw[AF];exact hl,vs,_,rv,ha⟩
   .have z':=(AD hb).symm.trans z;cases z'
  .by_cases hb:b=a
   .exact hb
   .exact absurd (AD hb) z
def X3 {l:PySem.W.OpenLaw} {n k:Nat} {q:Ym} {loose:Yk} {XP:(Str->Option Value)->Heap->Prop} {YP:World->Heap->Prop} {d:DefRec} {K:Params->PySem.W.Frag} {CX:World->CXT} {sp:World->Sp} {x:Str}
  (hn:l.most=some n) (hn2:n<=sizeLine) (hdf:d.params.defaults=[]) (hr:Room k callerA)
  (hY:∀ (w:Yo) (h:Heap),YP w h->(K w.params).In h)
  (F:∀ (w:Yo) (mg:Yh) (fa:Yt) (h:Heap),(K w.params).In h->h.Ns mainGlobals mg->mg d.name=some (.ref fa) ->
   ∃ fd:FuncData,(∀ (s:Yl) (u:Yu),BindsTo s fd ⟨[u],[]⟩ [(x,u)]) /\
    ∀ base:Heap,(K w.params).In base->base.Ns mainGlobals mg->FnOk l.prog w (K w.params) mg base (CX w) k fa fd [x] (sp w))
  (hsp:∀ (w:Yo) (H:Hp) (a:Yt) (ns:Ye),ns.length<=n->IX H->SqL (K w.params) H a (ns.map V.int)->sp w [.ref a] H (λv _=>v=.bl true) λ_ _ _=>False)
  (hCX:∀ (w:Yo) (H:Hp) (s:Yl) (e:Yu) (s':Yl),CX w [] H s (λ_ _ _=>False) e s'->False) :
  PySem.W.WalkO q loose XP YP l.row.toRowW d [] (λf vs=>PySem.call f vs):=by
 refine Att.eK hn hdf λw s₀ s₁ mg mb fa o pm cd doc a vs ns G YY ho hd hcd hmg hobj hints hlen hg=>?_;have KX:=hY w _ YY;obtain ⟨fd,hb,hF⟩:=F w mg fa _ KX G.T.g hmg;exact Sj KX G.T.g G.T.b G.T.builtins G.T.nolimit G.T.bmain hg hobj hints (BA hlen hn2) hr hF hb (λH hO hS=>hsp w H a ns hlen hO hS) λH e s'=>hCX w H s₁ e s'
noncomputable def Gb (s:Stmt):Arguments:=match s with
 |.FunctionDef _ a _ _ _ _ _ _ _ _=>a
 |_=>{ posonlyargs:=[],args:=[],vararg:=none,kwonlyargs:=[],kw_defaults:=[],kwarg:=none,defaults:=[] }
noncomputable def Fp (s:Stmt):List Stmt:=match s with
 |.FunctionDef _ _ b _ _ _ _ _ _ _=>b
 |_=>[]
noncomputable def zR (s:Stmt):Scope:=match s with
 |.FunctionDef _ _ _ _ _ _ sc _ _ _=>sc
 |_=>{ kind:=.function,names:=[],isGenerator:=false,isCoroutine:=false }
noncomputable abbrev CX0:CXT:=λ_ _ _ _ _ _=>False
noncomputable abbrev E0:XK:=λ_ _ _=>False
def bI {X:Cx}:MF CX0 X E0:=λ_ _ _ _ _ _ _ h=>h.elim
structure Fun (K:Yb) (x qual:Str) (st:Stmt) (f:Yt) (fd:Yz):Prop where
 ex:∃ (oc:Yu) (od:Option Addr) (kV doc pm:Yu) (an:Option Addr) (cdv ct:Yu) (osl:Array (Option Value)),
  fd=PySem.W.fnOf x qual (Gb st) (Fp st) (zR st) .none kV doc pm an cdv ct/\K.lookup f=some ⟨oc,od,.func fd,osl⟩/\PySem.W.codeIn K cdv qual=true
 kp:PySem.W.keepIn K (.ref f)=true
section
variable {P:Ym} {w:Yo} {K:Yb} {mg:Yh} {base:Heap}
def Fun.ok {x qual:Str} {st:Stmt} {f:Yt} {fd:Yz} {N ps:Yk} {k:Nat} {sp:Sp} (F:Fun K x qual st f fd) (S:FnScope N ps (zR st)) (len:∀ vs H Q E,sp vs H Q E->vs.length=ps.length)
  (hbody:∀ (cdv:Yu) (A:Yn) (outer:List Env) (s:Yl) (H:Hp) (vs:List V) (Q:VK) (E:XK),Room k (A.deeper (envOfC qual (zR st) s.heap.objs.size f cdv))->sp vs H Q E ->
   ∃ t,PSs (GJ CX0 P w K mg base N qual (zR st) f cdv A outer s H E).nox (Fp st) t/\t { nx:=λ_ H'=>Q .non H',rt:=Q } (EX N vs) H):FnOk P w K mg base CX0 (k+1) f fd ps sp:=by
 obtain ⟨oc,od,kV,doc,pm,an,cdv,ct,osl,rfl,lk,hcd⟩:=F.ex;refine Vq lk hcd S len λA outer s H vs Q E hr hsp=>?_;obtain ⟨t,h,q⟩:=hbody cdv A outer s H vs Q E hr hsp;exact ⟨t,h.nox,q⟩
def Fun.binds {x qual:Str} {st:Stmt} {f:Yt} {fd:Yz} {ps:Yk} (F:Fun K x qual st f fd)
  (h:∀ (kV doc pm:Yu) (an:Option Addr) (cdv ct:Yu) (us:Yf),us.length=ps.length->bindArgs (PySem.W.fnOf x qual (Gb st) (Fp st) (zR st) .none kV doc pm an cdv ct) ⟨us,[]⟩=pure (ps.zip us)):Fy K fd ps []:=by
 obtain ⟨oc,od,kV,doc,pm,an,cdv,ct,osl,rfl,lk,hcd⟩:=F.ex;exact .all (h kV doc pm an cdv ct)
def My {x qual:Str} {st:Stmt} {f:Yt} {oc:Yu} {od an:Option Addr} {osl:Array (Option Value)} {kV doc pm cdv ct:Yu} (l:K.lookup f=some ⟨oc,od,.func (PySem.W.fnOf x qual (Gb st) (Fp st) (zR st) .none kV doc pm an cdv ct),osl⟩)
  (c:PySem.W.codeIn K cdv qual=true) (k:PySem.W.keepIn K (.ref f)=true):Fun K x qual st f (PySem.W.fnOf x qual (Gb st) (Fp st) (zR st) .none kV doc pm an cdv ct):=⟨⟨oc,od,kV,doc,pm,an,cdv,ct,osl,rfl,l,c⟩,k⟩
end
def Gj {A:Yn} {k:Nat} (hr:Room k A):A.units+1<cLine:=Nat.lt_of_le_of_lt (Nat.add_le_add_left (by decide:1<=64) _) hr.units
section
variable {X:Cx}
def pv (i:Nat) {x:Str} {pos:Pos} (hN:X.N[i]?=some x:=by rfl) (hv:Vis X.env.scope x:=by first|exact Or.inl rfl|exact Or.inr (Or.inl rfl)|exact Or.inr (Or.inr rfl)) (hd:(x==("__debug__" : Str))=false:=by decide)
  (hcd:(x==("__classdict__" : Str))=false:=by decide):PE X (.Name x pos) (Ly i):=bU hN hv hd hcd
end
def D3 {A B:Prop} (h:B):if false=true then A else B:=by
 rw[AD Ay];exact h
def Dn {A B:Prop} (h:A):if true=true then A else B:=by
 rw[AB rfl];exact h
section
variable {κ:Type} [DecidableEq κ]
noncomputable def B0 (kvs:List (κ × V)) (k:κ):Option V:=(kvs.find? λkv=>decide (kv.1=k)).map (·.2)
noncomputable def BO (kvs:List (κ × V)) (k:κ) (v:V):List (κ × V) :=
 if (kvs.any λkv=>decide (kv.1=k))=true then kvs.map (λkv=>if kv.1=k then (kv.1,v) else kv) else kvs++[(k,v)]
def Iy {p:κ × V} {r:List (κ × V)} {k:κ} (e:p.1=k):B0 (p::r) k=some p.2:=by simp[B0,Ez,e]
def JD {p:κ × V} {r:List (κ × V)} {k:κ} (e:¬ p.1=k):B0 (p::r) k=B0 r k:=by simp[B0,Ez,e]
theorem OI (k:κ):∀ kvs:List (κ × V),(kvs.any λkv=>decide (kv.1=k))=(B0 kvs k).isSome
 |[]=>rfl
 |p::r=>by
  rw[List.any_cons];by_cases e:p.1=k
  .simp only[Iy e,AR e,Bool.true_or,Option.isSome_some]
  .rw[JD e,AM e,Bool.false_or];exact OI k r
def Ht (kvs:List (κ × V)) (k:κ) (v:V):(BO kvs k v).length<=kvs.length+1:=by
 unfold BO;split
 .rw[AF];omega
 .rw[AN,CS,D0];omega
def DI.isSome_eq (r:DI o u):o.isSome=u.isSome:=by
 cases o with
 |none=>cases u with
  |none=>rfl
  |some _=>exact (show False from r).elim
 |some _=>cases u with
  |none=>exact (show False from r).elim
  |some _=>rfl
def DI.getD (r:DI o u) (rd:zm d d'):zm (o.getD d) (u.getD d'):=by
 cases o with
 |none=>cases u with
  |none=>exact rd
  |some _=>exact (show False from r).elim
 |some _=>cases u with
  |none=>exact (show False from r).elim
  |some _=>exact r
def KV.val {kvs:List (κ × V)} {vs:List (κ × Value)} (r:KV kvs vs) (k:κ):DI (B0 kvs k) (valueAt vs k):=by
 unfold KV at r;induction r with
 |nil=>exact True.intro
 | @cons p q ps qs h t ih=>
  obtain ⟨h1,h2⟩:=h;by_cases e:p.1=k
  .have e':q.1=k:=h1.symm.trans e;have b:valueAt (q::qs) k=some q.2:=by simp[valueAt,Ez,e']
   rw[Iy e,b];exact h2
  .have e':¬ q.1=k:=λz=>e (h1.trans z);have b:valueAt (q::qs) k=valueAt qs k:=by simp[valueAt,Ez,e']
   rw[JD e,b];exact ih
def KV.any (r:KV kvs vs) (k:κ):(kvs.any λkv=>decide (kv.1=k))=vs.any λkv=>decide (kv.1=k):=by
 unfold KV at r;induction r with
 |nil=>rfl
 |cons h t ih=>rw[List.any_cons,List.any_cons,ih,h.1]
def KV.repl (r:KV kvs vs) (k:κ) (ry:zm y u) :
  KV (kvs.map λkv=>if kv.1=k then (kv.1,y) else kv) (vs.map λkv=>if kv.1=k then (kv.1,u) else kv):=by
 unfold KV at r ⊢;induction r with
 |nil=>exact .nil
 | @cons p q ps qs h t ih=>
  rw[AY,AY];refine .cons ?_ ih;obtain ⟨h1,h2⟩:=h;by_cases e:p.1=k
  .rw[AB e,AB (h1.symm.trans e)];exact ⟨h1,ry⟩
  .rw[AD e,AD (λz=>e (h1.trans z))];exact ⟨h1,h2⟩
def KV.put (r:KV kvs vs) (k:κ) (ry:zm y u):KV (BO kvs k y) (stored vs k u):=by
 unfold BO stored;rw[r.any k];by_cases e:(vs.any λkv=>decide (kv.1=k))=true
 .rw[AB e,AB e];exact r.repl k ry
 .rw[AD e,AD e];exact Paired.snoc r ⟨rfl,ry⟩
def KV.length (r:KV kvs vs):kvs.length=vs.length:=Paired.length r
end
def Fj (r:zm (kV k) u):(B8 P w).is k u=true:=by
 cases k with
 |inl i=>obtain ⟨t,e⟩:=(show ∃ t,u=Value.int i t from r);subst e;exact T8 P w i t
 |inr x=>obtain ⟨t,e⟩:=(show ∃ t,u=Value.str x t from r);subst e;exact W5 P w x t
theorem OY:∀ {ks:List Key} {us:Yf},zX (ks.map kV) us->ItemsAre (B8 P w) ks us
 |[],_,r=>by rw[List.map_nil]at r;cases r;exact .nil
 |k::ks,_,r=>by
  rw[AY]at r;cases r with
  |cons h t=>exact .cons (Fj h) (OY t)
abbrev KT (H:Hp):List (List Key × V)->List (List Key × Addr × Value)->Prop:=Paired λp q=>p.1=q.1/\H q.2.1=some (.tup (p.1.map kV))/\zm p.2 q.2.2
def KT.val {H:Hp} {kvs:List (List Key × V)} {xs:List (List Key × Addr × Value)} (r:KT H kvs xs) (k:List Key):DI (B0 kvs k) ((atKey xs k).map (·.2)):=by
 induction r with
 |nil=>exact True.intro
 | @cons p q ps qs h t ih=>
  obtain ⟨h1,_,h2⟩:=h;by_cases e:p.1=k
  .have e':q.1=k:=h1.symm.trans e;have b:atKey (q::qs) k=some q.2:=by simp[atKey,Ez,e']
   rw[Iy e,b];exact h2
  .have e':¬ q.1=k:=λz=>e (h1.trans z);have b:atKey (q::qs) k=atKey qs k:=by simp[atKey,Ez,e']
   rw[JD e,b];exact ih
def KT.repl (r:KT H kvs xs) (k:List Key) (ry:zm y u) :
  KT H (kvs.map λkv=>if kv.1=k then (kv.1,y) else kv) (xs.map (putAt k u)):=by
 induction r with
 |nil=>exact .nil
 | @cons p q ps qs h t ih=>
  rw[AY,AY];refine .cons ?_ ih;obtain ⟨h1,h2,h3⟩:=h;unfold putAt;by_cases e:p.1=k
  .rw[AB e,AB (h1.symm.trans e)];exact ⟨h1,h2,ry⟩
  .rw[AD e,AD (λz=>e (h1.trans z))];exact ⟨h1,h2,h3⟩
def KT.put (r:KT H kvs xs) (k:List Key) (hb:H b=some (.tup (k.map kV))) (ry:zm y u) :
  KT H (BO kvs k y) (storedH xs k b u):=by
 have e:(kvs.any λkv=>decide (kv.1=k))=(atKey xs k).isSome:=by
  rw[OI,(r.val k).isSome_eq,Option.isSome_map]
 unfold BO storedH;rw[e];by_cases q:(atKey xs k).isSome=true
 .rw[AB q,AB q];exact r.repl k ry
 .rw[AD q,AD q];exact Paired.snoc r ⟨rfl,hb,ry⟩
def KT.keeps (r:KT H kvs xs) (ht:∀ b ys,H b=some (.tup ys)->H' b=some (.tup ys)):KT H' kvs xs :=
 Paired.mapP r λ_ _ z=>⟨z.1,ht _ _ z.2.1,z.2.2⟩
section
variable {P:Ym} {w:Yo} {H:Hp} {h:Heap} {a:Yt}
def Qt (ok:HOk P w H h) (e:Rd H a u):Aq P w H h a u:=e.ok ok
def Ga (ok:HOk P w H h) (e:Rd H a (.dK kvs)):kvs.length<=sizeLine/\(a==sysModules)=false /\ ∃ vs,KV kvs vs/\h.DictOf (B8 P w) a vs :=
 show Aq P w H h a (.dK kvs)from Qt ok e
def MV (ok:HOk P w H h) (e:H a=some (.dK kvs)):kvs.length<=sizeLine/\(a==sysModules)=false /\ ∃ vs,KV kvs vs/\h.DictOf (B8 P w) a vs:=Ga ok (.inl e)
def GO (ok:HOk P w H h) (e:H a=some (.tup (ks.map kV))):(tupleKind (B8 P w)).is h ks a:=by
 obtain ⟨_,its,r,o,h1,h2,⟨n,h3⟩,_⟩:=(show Aq P w H h a (.tup (ks.map kV))from ok a _ e);exact ⟨o,its.toArray,n,h1,h2,h3,by simpa using OY r⟩
def GA (ok:HOk P w H h) (e:Rd H a (.dT kvs)):kvs.length<=sizeLine/\(a==sysModules)=false /\
  ∃ xs,KT H kvs xs/\h.DictOfH (tupleKind (B8 P w)) a xs:=by
 obtain ⟨z,y,xs,r,o,es,ep,h1,h2,h3,h4,h5⟩:=(show Aq P w H h a (.dT kvs)from Qt ok e);refine ⟨z,y,xs,r,o,es,ep,h1,h2,h3,h4,λx hx=>?_,h5⟩;have all:∀ {l:List (List Key × V)} {m:List (List Key × Addr × Value)},KT H l m -> ∀ x∈m,(tupleKind (B8 P w)).is h x.1 x.2.1:=by
  intro l m q;induction q with
  |nil=>intro x hx;exact nomatch hx
  | @cons p q ps qs hq t ih=>
   intro x hx;rcases AO.mp hx with e|hx
   .subst e;exact GO ok (by rw[<-hq.1];exact hq.2.1)
   .exact ih x hx
 exact all r x hx
def PQ (ok:HOk P w H h) (e:H a=some (.dT kvs)):kvs.length<=sizeLine/\(a==sysModules)=false /\
  ∃ xs,KT H kvs xs/\h.DictOfH (tupleKind (B8 P w)) a xs:=GA ok (.inl e)
end
def Bw (H:Hp) (a:Yt) (y:V) (r:Option V):Prop :=
 (∃ kvs k,Rd H a (.dK kvs)/\y=kV k/\r=B0 kvs k) \/ ∃ kvs k b,Rd H a (.dT kvs)/\y=.ref b/\H b=some (.tup (k.map kV))/\r=B0 kvs k
def DW (H:Hp) (a:Yt) (y v:V) (H':Hp):Prop :=
 (∃ kvs k,H a=some (.dK kvs)/\y=kV k/\kvs.length<sizeLine/\H'=upd H a (.dK (BO kvs k v))) \/
 ∃ kvs k b,H a=some (.dT kvs)/\y=.ref b/\H b=some (.tup (k.map kV))/\kvs.length<sizeLine/\H'=upd H a (.dT (BO kvs k v))
theorem Bw.k {H:Hp} {a:Yt} {kvs:List (Key × V)} {k:Key} (e:H a=some (.dK kvs)):Bw H a (kV k) (B0 kvs k):=.inl ⟨kvs,k,.inl e,rfl,rfl⟩
def Bw.t {k:List Key} (e:H a=some (.dT kvs)) (eb:H b=some (.tup (k.map kV))):Bw H a (.ref b) (B0 kvs k):=.inr ⟨kvs,k,b,.inl e,rfl,eb,rfl⟩
theorem DW.k {H:Hp} {a:Yt} {kvs:List (Key × V)} {k:Key} {v:V} (e:H a=some (.dK kvs)) (hl:kvs.length<sizeLine):DW H a (kV k) v (upd H a (.dK (BO kvs k v))):=.inl ⟨kvs,k,e,rfl,hl,rfl⟩
def DW.t {kvs:List (List Key × V)} {k:List Key} (e:H a=some (.dT kvs)) (eb:H b=some (.tup (k.map kV))) (hl:kvs.length<sizeLine) :
  DW H a (.ref b) v (upd H a (.dT (BO kvs k v))):=.inr ⟨kvs,k,b,e,rfl,eb,hl,rfl⟩
section
variable {X:Cx} {zB:Yd} {Y:St} {H:Hp} {s:Yl} {a:Yt} {y v:V} {u r:Yu} {o:Option V} {A:Yn} {E:Yc}
def Inv.big (I:Inv X zB Y H s):sysModules<s.heap.objs.size:=by
 have h:mainGlobals<s.heap.objs.size:=(I.mod.glob.keeps I.bk).lt;exact Nat.lt_trans (by decide) h
def Vl (hu:A.units+1<cLine) (I:Inv X zB Y H s) (g:Bw H a y (some v)) (ry:zm y u) (h:∀ w' s',Inv X zB Y H s'->zm v w'->Q w' s') :
  wpAny (model X.prog X.w) A (getItem (.ref a) u) Q E s:=by
 rcases g with ⟨kvs,k,e,ey,l⟩|⟨kvs,k,b,e,ey,eb,l⟩
 .subst ey;obtain ⟨z,hd,vs,rel,dd⟩:=Ga I.hok e;obtain ⟨w',hw,rw'⟩:=DI.some_of (v:=v) (o:=valueAt vs k) (by rw[l];exact rel.val k);exact wpAny_getItem_of (Fj ry) dd.mapOf hw (h w' _ (I.tok _) rw')
 .subst ey;cases (show u=Value.ref b from ry);obtain ⟨z,hd,xs,rel,dd⟩:=GA I.hok e;obtain ⟨w',hw,rw'⟩:=DI.some_of (v:=v) (o:=(atKey xs k).map (·.2)) (by rw[l];exact rel.val k);obtain ⟨p,hp,hp2⟩:=Option.map_eq_some_iff.mp hw;refine wpAny_getItem_heap (tupleKind_room_in1 hu) (GO I.hok eb) dd hp ?_;rw[hp2];exact h w' _ (I.tok _) rw'
def YS (hu:A.units+1<cLine) (I:Inv X zB Y H s) (g:Bw H a y o) (ry:zm y u) (h:∀ s',Inv X zB Y H s'->Q (.bool o.isSome) s') :
  wpAny (model X.prog X.w) A (compareOp .In u (.ref a)) Q E s:=by
 rcases g with ⟨kvs,k,e,ey,l⟩|⟨kvs,k,b,e,ey,eb,l⟩
 .subst ey;obtain ⟨z,hd,vs,rel,dd⟩:=Ga I.hok e;refine wpAny_in_of (Fj ry) hd dd.mapOf ?_;rw[<-(rel.val k).isSome_eq,<-l];exact h _ (I.tok _)
 .subst ey;cases (show u=Value.ref b from ry);obtain ⟨z,hd,xs,rel,dd⟩:=GA I.hok e;refine wpAny_in_heap (tupleKind_room_in1 hu) (GO I.hok eb) hd dd ?_;have q:=(rel.val k).isSome_eq;rw[Option.isSome_map]at q;rw[<-q,<-l];exact h _ (I.tok _)
def gG (hu:A.units+1<cLine) (I:Inv X zB Y H s) (g:Bw H a y o) (ry:zm y u) (h:∀ s',Inv X zB Y H s'->Q (.bool (!o.isSome)) s') :
  wpAny (model X.prog X.w) A (compareOp .NotIn u (.ref a)) Q E s:=by
 rcases g with ⟨kvs,k,e,ey,l⟩|⟨kvs,k,b,e,ey,eb,l⟩
 .subst ey;obtain ⟨z,hd,vs,rel,dd⟩:=Ga I.hok e;refine wpAny_notIn_of (Fj ry) hd dd.mapOf ?_;rw[<-(rel.val k).isSome_eq,<-l];exact h _ (I.tok _)
 .subst ey;cases (show u=Value.ref b from ry);obtain ⟨z,hd,xs,rel,dd⟩:=GA I.hok e;refine wpAny_notIn_heap (tupleKind_room_in1 hu) (GO I.hok eb) hd dd ?_;have q:=(rel.val k).isSome_eq;rw[Option.isSome_map]at q;rw[<-q,<-l];exact h _ (I.tok _)
def HV (I:Inv X zB Y H s) (mu:Mut (H a)) (hs:Heap.SameBut a s.heap h') (he:∃ q,h'.get? a=some q) (new:Aq X.prog X.w (upd H a ob) h' a ob) :
  Inv X zB Y (upd H a ob) { s with heap:=h',toks:=t' } :=
 I.write (x:=a) (e:=a) mu (.inl rfl) (λb q hb z=>(hs.2 b hb).trans z) he new
def MN (z:kvs.length<=sizeLine) (hd:(a==sysModules)=false) (rel:KV kvs vs) (dd:h'.DictOf (B8 P w) a vs) :
  Aq P w H' h' a (.dK kvs):=⟨z,hd,vs,rel,dd⟩
def Zm (hu:A.units+1<cLine) (I:Inv X zB Y H s) (g:DW H a y v H') (ry:zm y u) (rv:zm v r) (h:∀ s',Inv X zB Y H' s'->Q () s') :
  wpAny (model X.prog X.w) A (setItem (.ref a) u r) Q E s:=by
 rcases g with ⟨kvs,k,e,ey,l,eH⟩|⟨kvs,k,b,e,ey,eb,l,eH⟩
 .subst ey eH;obtain ⟨z,hd,vs,rel,dd⟩:=MV I.hok e;have hz:vs.length<=sizeLine:=by rw[<-rel.length];exact z
  have hl:(BO kvs k v).length<=sizeLine:=by have:=Ht kvs k v;omega
  refine wpAny_setItem_pairs (hsz:=hz) (Fj ry) dd λh' dd' hs=>h _ ?_;have he:∃ q,h'.get? a=some q:=let ⟨q,_,_,hq,_⟩:=dd';⟨q,hq⟩;exact HV I (by rw[e];exact True.intro) hs he (MN hl hd (rel.put k rv) dd')
 .subst ey eH;cases (show u=Value.ref b from ry);obtain ⟨z,hd,xs,rel,dd⟩:=PQ I.hok e;have hz:xs.length<=sizeLine:=by rw[<-Paired.length rel];exact z
  have hl:(BO kvs k v).length<=sizeLine:=by have:=Ht kvs k v;omega
  refine wpAny_setItem_heap (hsz:=hz) (tupleKind_room_in1 hu) (GO I.hok eb) dd λh' dd' hs=>h _ ?_;obtain ⟨q,es,ep,hq,h2,h3,h4,_,h5⟩:=dd';refine HV I (by rw[e];exact True.intro) hs ⟨q,hq⟩ ⟨hl,hd,_,(rel.put k eb rv).keeps λc ys ec=>?_,q,es,ep,hq,h2,h3,h4,h5⟩;rw[zZ (GW ec e (λz=>nomatch z))];exact ec
end
def LJ (i:Expr):Prop:=∀ ov iv,subscripted i false ov iv=operate [ov,iv] (getItem ov iv)
def aX {prog:Ym} {w:Yo} {A:Yn} {E:Yc} {s:Yl} {env:Env} {value slice:Expr} {pos:Pos} {T id:String} {Q:Yc}
  (hl:typeLookup (.type T) "__getitem__" = pure (some (.builtin id))) (hs:LJ slice)
  (h:wpAny (model prog w) A (eval value env) (λo s₁=>wpAny (model prog w) A (eval slice env) (λi s₂=>s₂.TypeIs o T/\wpAny (model prog w) A (getItem o i) Q E s₂) E s₁) E s) :
  wpAny (model prog w) A (eval (.Subscript value slice pos) env) Q E s:=by
 refine Subscript_ (AX h (λo s₁ h₁=>AX h₁ (λi s₂ h₂=>?_) λ_ _ x=>x) λ_ _ x=>x);obtain ⟨hT,h₂⟩:=h₂;unfold subscriptTail;refine AA ?_;rw[getitemInPython_of_ne hT.not_modules];refine AA (wpAny_specialOf hT hl ?_);have fin:wpAny (model prog w) A (subscripted slice false o i) (λr s₃=>wpAny (model prog w) A (letTemporaryGo value o r >>= λ_=>pure r) Q E s₃) E s₂:=by
  rw[hs o i];exact wpAny_operating (AX h₂ (λr s₃ h₃=>AA (wpAny_letTemporaryGo (AE h₃))) λ_ _ x=>x)
 first
  |exact AE (AA fin)
  |exact AA (AE (AA fin))
  |exact AA fin
def UD (I:Inv X zB Y H s) (g:Bw H a y o):s.TypeIs (.ref a) "dict" := by
 rcases g with ⟨kvs,k,e,_,_⟩|⟨kvs,k,b,e,_,_,_⟩
 .obtain ⟨_,_,vs,_,dd⟩:=Ga I.hok e;exact dd.typeIs
 .obtain ⟨_,_,xs,_,dd⟩:=GA I.hok e;exact dd.typeIs
noncomputable def Xx (td ty:TE):TE:=λY H Q=>td Y H λx H1=>ty Y H1 λy H2=>∃ a v,x=.ref a/\Bw H2 a y (some v)/\Q v H2
noncomputable def dO (ty td:TE):TE:=λY H Q=>ty Y H λy H1=>td Y H1 λx H2=>∃ a o,x=.ref a/\Bw H2 a y o/\Q (.bl o.isSome) H2
noncomputable def fU (ty td:TE):TE:=λY H Q=>ty Y H λy H1=>td Y H1 λx H2=>∃ a o,x=.ref a/\Bw H2 a y o/\Q (.bl (!o.isSome)) H2
noncomputable def VM (td ty tv:TE):TS:=λD Y H=>tv Y H λv H1=>td Y H1 λx H2=>ty Y H2 λy H3=>∃ a H4,x=.ref a/\DW H3 a y v H4/\D.nx Y H4
section
variable {X:Cx} {o i e value:Expr} {pos pos' tpos:Pos} {td ty tv:TE}
def YK (hu:X.A.units+1<cLine) (ho:PE X o td) (hi:PE X i ty) (hs:LJ i):PE X (.Subscript o i pos) (Xx td ty):=by
 intro zB s Y H Q I h;refine aX PySem.F.slot_dict_getitem.lookup hs (thn (ho zB s Y H _ I h) λu s1 ⟨x,H1,I1,rx,q1⟩=>thn (hi zB s1 Y H1 _ I1 q1) λiv s2 ⟨y,H2,I2,ry,a,v,ex,g,q2⟩=>?_);subst ex;obtain rfl:u=Value.ref a:=rx;exact ⟨UD I2 g,Vl hu I2 g ry λw' s3 I3 rw'=>⟨v,H2,I3,rw',q2⟩⟩
def XE (hu:X.A.units+1<cLine) (hi:PE X i ty) (ho:PE X o td):PC X .In i o (dO ty td):=by
 intro zB s Y H Q I h;refine thn (hi zB s Y H _ I h) λiv s1 ⟨y,H1,I1,ry,q1⟩=>thn (ho zB s1 Y H1 _ I1 q1) λu s2 ⟨x,H2,I2,rx,a,ov,ex,g,q2⟩=>?_;subst ex;obtain rfl:u=Value.ref a:=rx;exact YS hu I2 g ry λs3 I3=>⟨.bl ov.isSome,H2,I3,rfl,q2⟩
def Vb (hu:X.A.units+1<cLine) (hi:PE X i ty) (ho:PE X o td):PC X .NotIn i o (fU ty td):=by
 intro zB s Y H Q I h;refine thn (hi zB s Y H _ I h) λiv s1 ⟨y,H1,I1,ry,q1⟩=>thn (ho zB s1 Y H1 _ I1 q1) λu s2 ⟨x,H2,I2,rx,a,ov,ex,g,q2⟩=>?_;subst ex;obtain rfl:u=Value.ref a:=rx;exact gG hu I2 g ry λs3 I3=>⟨.bl (!ov.isSome),H2,I3,rfl,q2⟩
def X7 (hu:X.A.units+1<cLine) (ho:PE X o td) (hi:PE X i ty) (hv:PE X value tv) (hs:swapsWith value (some (.Subscript o i pos')) pos.line X.env=pure false) :
  PS X (.Assign [.Subscript o i pos'] value pos) (VM td ty tv):=by
 intro zB s Y H D I h;refine wpAny_Assign_Subscript (thn (hv zB s Y H _ I h) λr s1 ⟨v,H1,I1,rv,q1⟩=>thn (ho zB s1 Y H1 _ I1 q1) λu s2 ⟨x,H2,I2,rx,q2⟩=>thn (hi zB s2 Y H2 _ I2 q2) λiv s3 ⟨y,H3,I3,ry,a,H4,ex,g,q3⟩=>?_) hs;subst ex;obtain rfl:u=Value.ref a:=rx;exact Zm hu I3 g ry rv λs4 I4=>⟨Y,H4,I4,q3⟩
end
def Me (h:Heap) (hb:sysModules<h.objs.size):Aq P w H (h.push { cls:=.type "dict", data:=.dict #[] }) h.objs.size (.dK []) :=
 ⟨Ba _,beq_eq_false_iff_ne.mpr (Ne.symm (Ap hb)),[],.nil,Heap.DictOf.new h⟩
def Mx (h:Heap) (hb:sysModules<h.objs.size):Aq P w H (h.push { cls:=.type "dict", data:=.dict #[] }) h.objs.size (.dT []) :=
 ⟨Ba _,beq_eq_false_iff_ne.mpr (Ne.symm (Ap hb)),[],.nil,_,#[],0,Aj _ rfl,⟨rfl,rfl,rfl⟩,rfl,rfl,List.nodup_nil⟩
noncomputable def Vh:TE:=λ_ H Q=>∀ p,H p=none->Q (.ref p) (upd H p (.dK []))
noncomputable def Vf:TE:=λ_ H Q=>∀ p,H p=none->Q (.ref p) (upd H p (.dT []))
section
variable {X:Cx} {pos:Pos}
def UP:PE X (.Dict [] [] pos) Vh:=λzB s Y H Q I h=>
 wpAny_Dict_empty ⟨.ref s.heap.objs.size,_,I.laid (a:=s.heap.objs.size) (o:=.dK []) (t':=s.toks) (λ_ _ q=>AJ _ q) (AG _) (Me s.heap I.big),rfl,h _ (I.hok.fresh (AG _))⟩
def W8:PE X (.Dict [] [] pos) Vf:=λzB s Y H Q I h=>
 wpAny_Dict_empty ⟨.ref s.heap.objs.size,_,I.laid (a:=s.heap.objs.size) (o:=.dT []) (t':=s.toks) (λ_ _ q=>AJ _ q) (AG _) (Mx s.heap I.big),rfl,h _ (I.hok.fresh (AG _))⟩
end
def LK:List (TE × TE)->St->Hp->(List (V × V)->Hp->Prop)->Prop
 |[],_,H,Q=>Q [] H
 | (tk,tv)::r,Y,H,Q=>tk Y H λx H1=>tv Y H1 λy H2=>LK r Y H2 λps H3=>Q ((x,y)::ps) H3
abbrev VV:List (V × V)->List (Value × Value)->Prop:=Paired λp q=>zm p.1 q.1/\zm p.2 q.2
def PPs (X:Cx) (pos:Pos) (keys:List (Option Expr)) (values:Yi) (trs:List (TE × TE)):Prop :=
 ∀ (zB:Yd) (s:Yl) (Y:St) (H:Hp) (Q:List (V × V)->Hp->Prop),Inv X zB Y H s->LK trs Y H Q ->
  wpAny (model X.prog X.w) X.A (evalPairs (pairTrees keys values X.env pos)) (λvs s'=>∃ ps H',Inv X zB Y H' s'/\VV ps vs/\Q ps H') X.xe s
def Qu:PPs X pos [] [] []:=λzB s Y H Q I h=>pairTrees_nil_walk ⟨[],H,I,.nil,h⟩
def JA (hk:PE X k tk) (hv:PE X v tv) (hr:PPs X pos ks vs trs) :
  PPs X pos (some k::ks) (v::vs) ((tk,tv)::trs):=λzB s Y H Q I h=>
 pairTrees_cons_walk (thn (hk zB s Y H _ I h) λu s1 ⟨x,H1,I1,rx,q1⟩=>thn (hv zB s1 Y H1 _ I1 q1) λw2 s2 ⟨y,H2,I2,ry,q2⟩=>
  thn (hr zB s2 Y H2 _ I2 q2) λws s3 ⟨ps,H3,I3,rel,q3⟩=>⟨(x,y)::ps,H3,I3,.cons ⟨rx,ry⟩ rel,q3⟩)
noncomputable def F1 (kvs more:List (Key × V)):List (Key × V):=more.foldl (λacc kv=>BO acc kv.1 kv.2) kvs
def KV.merge:∀ {more:List (Key × V)} {rs:List (Key × Value)} {kvs:List (Key × V)} {vs:List (Key × Value)},KV more rs->KV kvs vs->KV (F1 kvs more) (merged vs rs):=by
 intro more rs kvs vs r;unfold KV at r;induction r generalizing kvs vs with
 |nil=>intro q;exact q
 | @cons p q ps qs h t ih=>
  intro r0;have e:KV (BO kvs p.1 p.2) (stored vs q.1 q.2):=by
   have:=r0.put p.1 h.2;rw[<-h.1];exact this
  exact ih e
theorem PR:∀ (more kvs:List (Key × V)),(F1 kvs more).length<=kvs.length+more.length
 |[],kvs=>by show kvs.length<=kvs.length+0;omega
 |p::r,kvs=>by
  have h1:=PR r (BO kvs p.1 p.2);have h2:=Ht kvs p.1 p.2;show (F1 (BO kvs p.1 p.2) r).length<=_;rw[CS];omega
theorem PD:∀ {kvs:List (Key × V)} {ws:List (Value × Value)},VV (kvs.map λkv=>(kV kv.1,kv.2)) ws -> ∃ rs,Carries (B8 P w) ws rs/\KV kvs rs
 |[],_,r=>by rw[List.map_nil]at r;cases r;exact ⟨[],True.intro,.nil⟩
 |p::kvs,_,r=>by
  rw[AY]at r;cases r with
  | @cons a b as bs h t=>
   obtain ⟨rs,c,q⟩:=PD (P:=P) (w:=w) t;obtain ⟨b1,b2⟩:=b;exact ⟨(p.1,b2)::rs,⟨Fj h.1,rfl,c⟩,.cons ⟨rfl,h.2⟩ q⟩
noncomputable def RH (trs:List (TE × TE)):TE:=λY H Q=>∀ p,H p=none->LK trs Y (upd H p (.dK [])) λps H2=>H2 p=some (.dK []) /\ ∃ kvs:List (Key × V),ps=kvs.map (λkv=>(kV kv.1,kv.2))/\kvs.length<=15/\Q (.ref p) (upd H2 p (.dK (F1 [] kvs)))
def Xj (h:PPs X pos keys values trs) (hall:keys.all (·.isSome)=true) (hl:keys.length=values.length) (h0:keys≠[])
  (h15:keys.length<=15):PE X (.Dict keys values pos) (RH trs):=by
 intro zB s Y H Q I q;have hn:=I.hok.fresh (AG s.heap.objs.size);have I1:=I.laid (a:=s.heap.objs.size) (o:=.dK []) (h':=s.heap.push { cls:=.type "dict", data:=.dict #[] }) (t':=s.toks) (λ_ _ q=>AJ _ q) (AG _) (Me s.heap I.big);refine wpAny_Dict_walk (knd:=B8 X.prog X.w) hall hl h0 h15 (thn (h zB _ Y _ _ I1 (q _ hn)) λws s2 ⟨ps,H2,I2,rel,e,kvs,ep,lk,q2⟩=>?_);subst ep;obtain ⟨rs,c,rk⟩:=PD (P:=X.prog) (w:=X.w) rel;obtain ⟨z,hd,vs0,r0,dd⟩:=MV I2.hok e;cases r0;refine ⟨rs,c,dd,λh' dd' hs=>⟨.ref s.heap.objs.size,_,?_,rfl,q2⟩⟩;have hz:(F1 [] kvs).length<=sizeLine:=by
  have h1:=PR kvs [];rw[D0]at h1;rw[sizeLine_eq];omega
 have he:∃ q,h'.get? s.heap.objs.size=some q:=let ⟨q,_,_,hq,_⟩:=dd';⟨q,hq⟩;exact HV I2 (by rw[e];exact True.intro) hs he (MN hz hd (rk.merge .nil) dd')
structure M2 (X:Cx) (o:Expr) (m:Str) (apos:Pos) (e f:Expr) (cpos:Pos):Prop where
 base:attributeBase o m X.env (eval o X.env)=eval o X.env
 few:((backTo cpos (starEach [e,f] X.env)).all (λx=> !x.1)&&(backToKw cpos (keywordEach [] X.env)).all (λx=>x.1.isSome)
  && decide (([e,f]:List Expr).length+([]:List Keyword).length+(if ([]:List Keyword).isEmpty then 0 else 1)<30))=true
 line:(apos.endLine==cpos.line)=true
 trees:backTo cpos (starEach [e,f] X.env)=[(false,eval e X.env),(false,eval f X.env)]
def IsD (H:Hp) (a:Yt):Prop:=(∃ kvs,Rd H a (.dK kvs)) \/ ∃ kvs,Rd H a (.dT kvs)
def aF (I:Inv X zB Y H s) (d:IsD H a) :
  s.TypeIs (.ref a) "dict" /\ (∀ b,Value.ref a=.ref b -> ∃ ob,s.heap.get? b=some ob/\ob.dict=none)/\(a==sysModules)=false:=by
 rcases d with ⟨kvs,e⟩|⟨kvs,e⟩
 .obtain ⟨_,hd,vs,_,dd⟩:=Ga I.hok e;refine ⟨dd.typeIs,λb q=>?_,hd⟩;cases q;obtain ⟨ob,_,_,h1,h2,_⟩:=dd;exact ⟨ob,h1,h2.2.1⟩
 .obtain ⟨_,hd,xs,_,dd⟩:=GA I.hok e;refine ⟨dd.typeIs,λb q=>?_,hd⟩;cases q;obtain ⟨ob,_,_,h1,h2,_⟩:=dd;exact ⟨ob,h1,h2.2.1⟩
section
variable {X:Cx} {zB:Yd} {Y:St} {H:Hp} {s:Yl} {a:Yt} {y d:V} {u r:Yu} {o:Option V} {A:Yn} {E:Yc}
def Ud (hu:A.units+1<cLine) (I:Inv X zB Y H s) (g:Bw H a y o) (ry:zm y u) (rd:zm d r) (h:∀ w' s',Inv X zB Y H s'->zm (o.getD d) w'->Q w' s') :
  wpAny (model X.prog X.w) A (call (.builtin "dict.get") [.ref a,u,r]) Q E s:=by
 rcases g with ⟨kvs,k,e,ey,l⟩|⟨kvs,k,b,e,ey,eb,l⟩
 .subst ey;obtain ⟨z,hd,vs,rel,dd⟩:=Ga I.hok e;refine call_meetsIn PySem.F.slot_dict_get dd.typeIs PySem.F.entry_dict_get (PySem.F.args_dict_get_3 _ _ _) (meets_dict_get_default (B8 X.prog X.w) a (Fj ry) hd r) ⟨_,dd.mapOf,h _ _ (I.tok _) ?_⟩;rw[l];exact (rel.val k).getD rd
 .subst ey;cases (show u=Value.ref b from ry);obtain ⟨z,hd,xs,rel,dd⟩:=GA I.hok e;refine call_meetsIn PySem.F.slot_dict_get dd.typeIs PySem.F.entry_dict_get (PySem.F.args_dict_get_3 _ _ _) (meetsH_dict_get_default (tupleKind (B8 X.prog X.w)) a b hd r) ⟨tupleKind_room_in1 hu,k,xs,GO I.hok eb,dd,h _ _ (I.tok _) ?_⟩;rw[l];exact (rel.val k).getD rd
end
noncomputable def O8 (td ty tx:TE):TE:=λY H Q=>td Y H λx H1=>∃ a,x=.ref a/\IsD H1 a/\ty Y H1 λy H2=>tx Y H2 λz H3=>∃ o,Bw H3 a y o/\Q (o.getD z) H3
section
variable {X:Cx} {o e f:Expr} {apos cpos:Pos} {td ty tx:TE}
def T6 (hu:X.A.units+1<cLine) (ho:PE X o td) (he:PE X e ty) (hf:PE X f tx) (m:M2 X o "get" apos e f cpos):PE X (.Call (.Attribute o "get" apos) [e,f] [] cpos) (O8 td ty tx):=by
 intro zB s Y H Q I h;refine wpAny_Call_method m.base m.few m.line PySem.F.plainAttrs_dict PySem.F.slot_dict_get PySem.F.type_dict_get (thn (ho zB s Y H _ I h) λu s1 ⟨x,H1,I1,rx,a,ex,d,q1⟩=>?_);subst ex;obtain rfl:u=Value.ref a:=rx;obtain ⟨t1,t2,_⟩:=aF I1 d;refine ⟨t1,t2,?_⟩;rw[m.trees];refine Calls.callWith_builtin rfl (Calls.evalArgs_plain (Calls.spliced_cons (thn (he zB s1 Y H1 _ I1 q1) λiv s2 ⟨y,H2,I2,ry,q2⟩=>
  Calls.spliced_cons (thn (hf zB s2 Y H2 _ I2 q2) λfv s3 ⟨z,H3,I3,rz,ov,g,q3⟩=>Calls.spliced_nil ?_))))
 exact Ud hu I3 g ry rz λw' s4 I4 rw'=>⟨_,H3,I4,rw',q3⟩
end
theorem F4:∀ (names:List (Str × NameKind)) (n:Nat) (acc:Yv),cellsFrom n names acc=cellsFrom n names []++acc
 |[],_,_=>rfl
 | (name,kind)::r,n,acc=>by
  unfold cellsFrom;split
  .rw[F4 r (n+1) ((name,n)::acc),F4 r (n+1) [(name,n)],DJ];rfl
  .exact F4 r n acc
theorem IC {α:Type} (x:Str):∀ (l r:List (Str × α)),(l++r).lookup x=(match l.lookup x with|some c=>some c|none=>r.lookup x)
 |[],r=>rfl
 | (k,v)::l,r=>by
  rw[List.cons_append,FC,FC];cases hb:x==k with
  |true=>rfl
  |false=>exact IC x l r
theorem LD:∀ (names:List (Str × NameKind)) (acc:Yv),
  (∀ y∈names,y.2=.free -> ∃ c,env.cells.lookup y.1=some c) ->
  (∀ x c,acc.lookup x=some c->env.cells.lookup x=some c) ->
  ∃ cl:List (Str × Addr),(forIn names acc (λ(p:Str × NameKind) (cs:Yv)=>(do
    if p.2 == .free then
     let a <- cellOf env p.1;pure (ForInStep.yield ((p.1,a)::cs))
    else pure (ForInStep.yield cs):Sem (ForInStep (List (Str × Addr))))))=pure cl /\
   (∀ x c,cl.lookup x=some c->env.cells.lookup x=some c) /\
   (∀ x,(acc.lookup x).isSome=true->(cl.lookup x).isSome=true) /\ ∀ y∈names,y.2=.free->(cl.lookup y.1).isSome=true
 |[],acc,_,ha=>⟨acc,by rw[List.forIn_nil],ha,λ_ h=>h,λ_ h=>nomatch h⟩
 | (n,k)::r,acc,hf,ha=>by
  rw[List.forIn_cons];by_cases hk:k=.free
  .subst hk;obtain ⟨c,hc⟩:=hf (n,.free) Ah rfl;have hco:cellOf env n=pure c:=by unfold cellOf;rw[hc]
   obtain ⟨cl,e,h1,h2,h3⟩:=LD r ((n,c)::acc) (λy hy=>hf y (BS _ hy)) (λx d hx=>by
    rw[FC]at hx;cases hb:x==n with
    |true=>rw[hb]at hx;cases hx;rw[beq_iff_eq.mp hb];exact hc
    |false=>rw[hb]at hx;exact ha x d hx)
   refine ⟨cl,?_,h1,λx hx=>h2 x ?_,λy hy hk=>?_⟩
   .rw[<-e];simp only[beq_self_eq_true,if_true,hco];rfl
   .rw[FC];cases hb:x==n with
    |true=>rfl
    |false=>exact hx
   .rcases AO.mp hy with z|z
    .subst z;exact h2 n (by rw[FC];simp)
    .exact h3 y z hk
  .obtain ⟨cl,e,h1,h2,h3⟩:=LD r acc (λy hy=>hf y (BS _ hy)) ha;refine ⟨cl,?_,h1,h2,λy hy hk'=>?_⟩
   .rw[<-e];have:(k==NameKind.free)=false:=by simpa using hk
    simp only[this,Dl,if_false];rfl
   .rcases AO.mp hy with z|z
    .subst z;exact absurd hk' hk
    .exact h3 y z hk'
def bN (hf:∀ y∈scope.names,y.2=.free -> ∃ c,env.cells.lookup y.1=some c) :
  ∃ cl,closureFor scope env=pure cl/\(∀ x c,cl.lookup x=some c->env.cells.lookup x=some c) /\ ∀ y∈scope.names,y.2=.free->(cl.lookup y.1).isSome=true:=by
 obtain ⟨cl,e,h1,_,h3⟩:=LD (env:=env) scope.names [] hf (λx c h=>nomatch h);refine ⟨cl,?_,h1,h3⟩;unfold closureFor;rw[show (pure cl:Sem _)=pure cl >>= pure from rfl,<-e]
def Kb
  (hQ:Q (newEnv scope s.heap.objs.size globals (cellsFrom (s.heap.objs.size+1) scope.names cl) qual none .none (some env) builtinsNs)
   { s with heap:=pushCells (s.heap.push { cls:=.type "dict", data:=.dict #[] }) scope.names }) :
  wpAny M A (newFunctionEnv scope globals cl [] qual none .none (some env)) Q E s:=by
 simp only[newFunctionEnv,Option.isSome_some,if_true];refine AA (wpAny_alloc ?_);refine AA (wpAny_layCells _ (λname kind cells=>by cases hkc:kind==NameKind.cell <;> simp[hkc]) _ _ _ _ ?_);rw[show ({ s with heap:=s.heap.push { cls:=.type "dict", data:=.dict #[] } }:Shared).heap.objs.size=s.heap.objs.size+1 from Cg ..];exact AA (AE (AE hQ))
noncomputable def zP (X:Cx) (zB:Yd) (scope:Y0) (cl:Yv) (s:Yl) (H:Hp) (fp:Yg):Cx where
 prog:=X.prog
 w:=X.w
 K:=X.K
 mg:=X.mg
 base:=X.base
 A:=X.A
 N:=X.N
 s₀:=s
 H₀:=H
 env:={ scope:=relabel scope X.env,locals:=s.heap.objs.size+1,globals:=X.env.globals,cells:=cellsFrom (s.heap.objs.size+1+1) scope.names cl,qual:=X.env.qual,func:=none,code:=X.env.code,frame:=X.env.frame,builtins:=X.env.builtins }
 outer:=X.stack
 stack:=X.stack
 ex:=fp
 fn:=λx=>decide (scope.names.lookup x=some .cell)
 calm:=X.calm
 pn:=X.pn++zB
 xe:=λ_ _=>False
theorem Gx {scope:Y0} {env:Env} (x:Str):∀ {names:List (Str × NameKind)} {k:NameKind},
  (names.map λ(n,k)=>if (k==NameKind.free&&env.scope.kind == .function&&env.kindOf n==some .cell) then (n,NameKind.cell) else (n,k)).lookup x=some k ->
  names.lookup x=some k\/(names.lookup x=some .free/\k=.cell)
 |[],_,h=>by simp at h
 | (n,k')::r,k,h=>by
  rw[AY]at h;by_cases hc:(k'==NameKind.free&&env.scope.kind == .function&&env.kindOf n==some .cell)=true
  .simp only[hc,if_true]at h;rw[FC]at h ⊢;cases hb:x==n with
   |true=>
    rw[hb]at h;simp only[Am,beq_iff_eq]at hc;exact .inr ⟨by rw[hc.1.1],(CH h).symm⟩
   |false=>rw[hb]at h;exact Gx (scope:=scope) x h
  .simp only[hc,Dl,if_false]at h;rw[FC]at h ⊢;cases hb:x==n with
   |true=>rw[hb]at h;exact .inl h
   |false=>rw[hb]at h;exact Gx (scope:=scope) x h
theorem L9:∀ (names:List (Str × NameKind)) (n:Nat) (acc:Yv) (x:Str) (c:Yt),(x,c)∈cellsFrom n names acc->(x,c)∉acc->(x,NameKind.cell)∈names
 |[],_,_,_,_,h,h'=>absurd h h'
 | (name,kind)::r,n,acc,x,c,h,h'=>by
  unfold cellsFrom at h;split at h
  .rename_i hk;by_cases e:(x,c)=(name,n)
   .cases e;rw[beq_iff_eq]at hk;subst hk;exact Ah
   .exact BS _ (L9 r _ _ x c h λz=>(AO.mp z).elim e h')
  .exact BS _ (L9 r _ _ x c h h')
structure CompScope (X:Cx) (scope:Y0):Prop where
 kind:scope.kind=.function
 names:∀ y∈scope.names,y.2=.local->scope.names.lookup y.1=some .local
 cells:∀ y∈scope.names,y.2=.cell->scope.names.lookup y.1=some .cell
 free:∀ y∈scope.names,y.2=.free->X.env.kindOf y.1=some .cell\/X.env.kindOf y.1=some .free
section
variable {X:Cx} {zB:Yd} {Y σc:St} {H:Hp} {s s4:Yl} {scope:Y0} {cl:Yv} {fp:Yg}
def Ls (S:CompScope X scope) (I:Inv X zB Y H s) (hf:∀ b∈fp,Bh X zB H b) (ho:∀ b:Nat,b∈fp->b<s.heap.objs.size)
  (c1:∀ x c,cl.lookup x=some c->X.env.cells.lookup x=some c) (c2:∀ y∈scope.names,y.2=.free->(cl.lookup y.1).isSome=true)
  (hl:σc.length=Y.length) (hσ:∀ (i:Nat) x v,X.N[i]?=some x->σc[i]?=some (some v)->(relabel scope X.env).names.lookup x≠none->scope.names.lookup x=some .free/\Y[i]?=some (some v))
  (lo:Obj) (hlo:∀ v,lo.data≠.cell v) (hfr:lo.isFreed=false)
  (h4:s4={ s with heap:=pushCells ((s.heap.push lo).push { cls:=.type "dict", data:=.dict #[] }) scope.names }) :
  Inv (zP X zB scope cl s H fp) [(s.heap.objs.size,lo)] σc H s4:=by
 subst h4;have sz1:(s.heap.push lo).objs.size=s.heap.objs.size+1:=Cg ..;have sz2:((s.heap.push lo).push { cls:=.type "dict", data:=.dict #[] }).objs.size=s.heap.objs.size+1+1:=by rw[Cg,sz1]
 have hk:∀ b o,s.heap.get? b=some o->(pushCells ((s.heap.push lo).push { cls:=.type "dict", data:=.dict #[] }) scope.names).get? b=some o:=λb o e=>
  pushCells_keeps _ _ b o (AJ _ (AJ _ e))
 have ok:=cellsFrom_ok scope.names ((s.heap.push lo).push { cls:=.type "dict", data:=.dict #[] }) (s.heap.objs.size+1+1) [] ⟨λ_ _ hm=>(nomatch hm),List.Pairwise.nil⟩ (by rw[sz2];exact AG _);rw[sz2]at ok;have look:∀ x c,(cellsFrom (s.heap.objs.size+1+1) scope.names cl).lookup x=some c->((cellsFrom (s.heap.objs.size+1+1) scope.names []).lookup x=some c)\/((cellsFrom (s.heap.objs.size+1+1) scope.names []).lookup x=none/\X.env.cells.lookup x=some c):=λx c e=>by
  rw[F4,IC]at e;cases q:(cellsFrom (s.heap.objs.size+1+1) scope.names []).lookup x with
  |some d=>rw[q]at e;exact .inl e
  |none=>rw[q]at e;exact .inr ⟨rfl,c1 x c e⟩
 have old:∀ x (c:Nat),X.env.cells.lookup x=some c->c<s.heap.objs.size:=λx c e=>let ⟨_,q⟩:=I.cell x c e;q.lt;have new:∀ x (c:Nat),(cellsFrom (s.heap.objs.size+1+1) scope.names []).lookup x=some c->s.heap.objs.size+1+1<=c:=λx c e=>(ok.empty x c (DH e)).2;have own:∀ x,scope.names.lookup x=some .cell -> ∃ c,(cellsFrom (s.heap.objs.size+1+1) scope.names []).lookup x=some c:=λx e=>Kr e;have cne:∀ x (c:Nat),(cellsFrom (s.heap.objs.size+1+1) scope.names cl).lookup x=some c->c<s.heap.objs.size\/s.heap.objs.size+1+1<=c:=λx c e=>by
  rcases look x c e with q|⟨_,q⟩
  .exact .inr (new x c q)
  .exact .inl (old x c q)
 refine ⟨⟨I.ok.mod,S.kind,I.ok.glob,I.ok.blt,Nat.le_succ _,λx y c h1 h2=>?_,λx hx=>?_,λx c hx h=>?_,I.ok.hd,I.ok.frames,.inl rfl,λb hb=>⟨?_,λx c e z=>?_⟩,I.bs,BA I.ok.bsz I.sz,λb o e hb=>?_,λb hb z=>?_,I.stack,I.stkFree⟩,
  rfl,I.bare,Un.kept hk,⟨λ_=>none,?_,λi x v h1 h2 h3=>?_⟩,λx c e=>?_,I.hok.fresh (Nat.le_succ _),λx c e=>?_,λp hp=>?_,I.hok.kept hk,hl.trans I.len⟩
 .rcases look x c h1 with a|⟨_,a⟩ <;> rcases look y c h2 with b|⟨_,b⟩
  .exact name_of_addr ok.apart (DH a) (DH b)
  .exact absurd (Nat.lt_of_le_of_lt (new x c a) (old y c b)) (by omega)
  .exact absurd (Nat.lt_of_le_of_lt (new y c b) (old x c a)) (by omega)
  .exact I.ok.inj x y c a b
 .have hx':(relabel scope X.env).names.lookup x=some .cell\/(relabel scope X.env).names.lookup x=some .free:=hx;have go:scope.names.lookup x=some .cell\/scope.names.lookup x=some .free:=by
   rcases hx' with q|q
   .rcases Gx (scope:=scope) x q with z|z
    .exact .inl z
    .exact .inr z.1
   .rcases Gx (scope:=scope) x q with z|z
    .exact .inr z
    .exact .inr z.1
  show ∃ c,(cellsFrom (s.heap.objs.size+1+1) scope.names cl).lookup x=some c;rw[F4,IC];rcases go with q|q
  .obtain ⟨c,e⟩:=own x q;exact ⟨c,by rw[e]⟩
  .cases e:(cellsFrom (s.heap.objs.size+1+1) scope.names []).lookup x with
   |some d=>exact ⟨d,rfl⟩
   |none=>exact Option.isSome_iff_exists.mp (c2 (x,.free) (DH q) rfl)
 .obtain ⟨d,e⟩:=own x (CG hx);have h':(cellsFrom (s.heap.objs.size+1+1) scope.names cl).lookup x=some c:=h;rw[F4,IC,e]at h';cases h';exact BA (BA (Nat.le_succ _) (Nat.le_succ _)) (new x _ e)
 .exact Ap (EH (ho b hb))
 .rcases look x c e with q|⟨_,q⟩
  .have a:=new x c q;rw[z]at a;exact absurd (Nat.lt_of_le_of_lt a (ho b hb)) (by omega)
  .exact (hf b hb).2.2.2.2.1 x c q z
 .rcases (hf b hb).2.2.2.1 with z|z
  .exact I.ok.noex b o e z
  .exact absurd (Ax (AH e) (BA I.ok.bsz z)) (Bq _)
 .rcases AO.mp (I.stkSub b z)with q|q
  .exact (hf b hb).2.1 q
  .exact (hf b hb).2.2.1 q
 .have q:((s.heap.push lo).push { cls:=.type "dict", data:=.dict #[] }).Ns (s.heap.push lo).objs.size (λ_=>none):=Heap.Ns.new ..;rw[sz1]at q;exact q.keeps (pushCells_keeps _ _)
 .have h3':(relabel scope X.env).names.lookup x≠none:=by
   rcases h3 with z|z|z <;> (intro q;have z':(relabel scope X.env).names.lookup x=_:=z;rw[q]at z';cases z')
  obtain ⟨fr,hv⟩:=hσ i x v h1 h2 h3';obtain ⟨m,hn,hlk⟩:=I.loc;have kx:=S.free (x,.free) (DH fr) rfl;obtain ⟨u,rv,lk⟩:=hlk i x v h1 hv (by rcases kx with z|z;exact .inr (.inl z);exact .inr (.inr z));refine ⟨u,rv,?_⟩;rcases lk with ⟨z,_⟩|⟨_,c,e,ic⟩
  .rcases kx with k|k <;> (rw[k]at z;cases z)
  .have kind:(relabel scope X.env).names.lookup x=some .cell\/(relabel scope X.env).names.lookup x=some .free:=by
    cases q:(relabel scope X.env).names.lookup x with
    |none=>exact absurd q h3'
    |some k=>
     rcases Gx (scope:=scope) x q with z|z
     .rw[fr]at z;cases z;exact .inr rfl
     .rw[z.2];exact .inl rfl
   refine .inr ⟨kind,c,?_,ic.keeps hk⟩;show (cellsFrom (s.heap.objs.size+1+1) scope.names cl).lookup x=some c;rw[F4,IC];obtain ⟨d,hd⟩:=Option.isSome_iff_exists.mp (c2 (x,.free) (DH fr) rfl);have:=c1 x d hd;rw[e]at this;cases this;have nn:(cellsFrom (s.heap.objs.size+1+1) scope.names []).lookup x=none:=by
    cases q:(cellsFrom (s.heap.objs.size+1+1) scope.names []).lookup x with
    |none=>rfl
    |some d'=>
     have z:=S.cells (x,.cell) (L9 scope.names _ [] x d' (DH q) λz=>nomatch z) rfl;rw[fr]at z;cases z
   rw[nn];exact hd
 .rcases look x c e with q|⟨_,q⟩
  .exact ⟨none,(ok.empty x c (DH q)).1⟩
  .obtain ⟨v,z⟩:=I.cell x c q;exact ⟨v,z.keeps hk⟩
 .rcases look x c e with q|⟨_,q⟩
  .exact I.hok.fresh (by have:=new x c q;omega)
  .exact I.freeC x c q
 .have hp':p∈X.pn++zB\/p=(s.heap.objs.size,lo):=by
   rcases AS.mp hp with z|z
   .exact .inl z
   .exact .inr (by simpa using z)
  rcases hp' with z|z
  .obtain ⟨e,n,ne,nf,d⟩:=I.pin p z;have lt:(p.1:Nat)<s.heap.objs.size:=AH e;refine ⟨hk _ _ e,n,?_,λq=>?_,d⟩
   .exact Ap (EH lt)
   .rcases AO.mp (I.stkSub _ q)with r|r
    .exact ne r
    .exact nf r
  .subst z;refine ⟨pushCells_keeps _ _ _ _ (AJ _ (Aj _ hfr)),I.hok.fresh (AG _),?_,λq=>?_,hlo⟩
   .show s.heap.objs.size≠s.heap.objs.size+1;omega
   .rcases AO.mp (I.stkSub _ q)with r|r
    .exact absurd I.lt (by rw[<-r];exact Bq _)
    .exact I.nofs (AG _) r
end
noncomputable def clr (own:Yj) (Y:St):St:=own.foldl (λY i=>Y.set i none) Y
theorem G9:∀ (own:Yj) (Y:St),(clr own Y).length=Y.length
 |[],_=>rfl
 |i::r,Y=>by
  show (clr r (Y.set i none)).length=_;rw[G9 r,CP]
theorem GG:∀ (own:Yj) (Y:St) (j:Nat) (v:V),(clr own Y)[j]?=some (some v)->Y[j]?=some (some v)/\j∉own
 |[],_,_,_,h=>⟨h,λz=>nomatch z⟩
 |i::r,Y,j,v,h=>by
  have h':(clr r (Y.set i none))[j]?=some (some v):=h;obtain ⟨a,b⟩:=GG r _ j v h';rw[FL]at a;split at a
  .split at a <;> cases a
  .rename_i hne;exact ⟨a,λz=>(AO.mp z).elim (λe=>hne e.symm) b⟩
def Ext (a b:St):Prop:=b.length=a.length /\ ∀ (i:Nat) v,a[i]?=some (some v)->b[i]?=some (some v)
def Ext.refl (a:St):Ext a a:=⟨rfl,λ_ _ h=>h⟩
def Ext.set (e:Ext (clr own Y) a) (h:i∈own):Ext (clr own Y) (a.set i (some v)):=by
 refine ⟨by rw[CP];exact e.1,λj u q=>?_⟩;rw[FL];split
 .rename_i z;exact absurd (z▸h) (GG own Y j u q).2
 .exact e.2 j u q
def Dt (X:Cx) (ifs:Yi) (t:TT):Prop :=
 ∀ (zB:Yd) (s:Yl) (Y:St) (H:Hp) (Q:Bool->Hp->Prop),Inv X zB Y H s->t Y H Q ->
  wpAny (model X.prog X.w) X.A (forIn ifs true λc r=>if r=true then do let ok <- isTrue c X.env (eval c X.env);pure (ForInStep.yield ok) else pure (ForInStep.yield r)) (TP X zB Y Q) X.xe s
noncomputable def UU:TT:=λ_ H Q=>Q true H
def Y8:Dt X [] UU:=λ_ _ _ H _ I h=>wpAny_tests_nil ⟨H,I,h⟩
def Xn (h:PT X c t):Dt X [c] t:=λzB s Y H Q I hq=>wpAny_tests_one (h zB s Y H Q I hq)
section
variable {prog:Ym} {w:Yo} {A:Yn} {E:Yc} {R:Yx} {s:Yl}
def Tz (I:Nat->Shared->Prop)
  (turn:∀ n s,I n s->wpAny (model prog w) A (pyNext it) (λr s₁=>match r with
   |none=>R (.ok .next) s₁
   |some v=>wpAny (model prog w) A (letOwnedTupleGo target it v) (λ_ s₁'=>wpAny (model prog w) A (assign target env v) (λ_ s₂=>
     wpAny (model prog w) A (forIn ifs true λc r=>if r=true then do let ok <- isTrue c env (eval c env);pure (ForInStep.yield ok) else pure (ForInStep.yield r)) (λok s₃=>
      if ok=true then wpAny (model prog w) A (eval elt env) (λx s₄=>
       wpAny (model prog w) A (call (.builtin "list.append") [acc,x]) (λ_ s₅=>∃ m,m<n/\I m s₅) (λ_ _=>False) s₄) (λ_ _=>False) s₃
      else ∃ m,m<n/\I m s₃) (λ_ _=>False) s₂) (λ_ _=>False) s₁') (λ_ _=>False) s₁) (λ_ _=>False) s)
  (n:Nat) (h:I n s) :
  codeAny (model prog w) A (.compLoop (.ListComp elt [⟨target,iter,ifs,0⟩] scope pos) 0 it acc env) R s:=by
 refine codeAny_loop rfl I (λn s hI=>?_) n h;show wpAny _ A ((compTurn (.ListComp elt [⟨target,iter,ifs,0⟩] scope pos) 0 it acc env).onRaise (λx=>do noteFrame x env;theTreesLotGoes x)) _ _ s;refine wpAny_noted ?_;rw[compTurn_list];refine AA (DM (AA (AX (turn n s hI) (λr s₁ h₁=>?_) λ_ _ h'=>h'.elim)));cases r with
 |none=>exact AE h₁
 |some v=>
  refine AA (AX h₁ (λ_ s₁' h₁'=>?_) λ_ _ h'=>h'.elim);refine AA (AX h₁' (λ_ s₂ h₂=>AA (AX h₂ (λok s₃ h₃=>?_) λ_ _ h'=>h'.elim)) λ_ _ h'=>h'.elim);cases ok with
  |false=>exact AE ⟨rfl,h₃⟩
  |true=>
   exact AA (AA (AX h₃ (λx s₄ h₄=>AA (AX h₄ (λ_ s₅ h₅=>AE (AE ⟨rfl,h₅⟩)) λ_ _ h'=>h'.elim)) λ_ _ h'=>h'.elim))
end
noncomputable def J4 (own:Yj) (wi:TI) (g:TG) (tc:TT) (te:TE):TE:=λY H Q=>wi Y H λJ H1=>∃ W:Nat->Nat->List V->Hp->Prop,(∃ m,W 0 m [] H1) /\ ∀ i m ys H,W i m ys H ->
 (J.stop i H/\ys.length<=sizeLine /\ ∀ D,H D=none->Q (.ref D) (upd H D (.lst ys))) \/
 (J.go i H /\ ∀ x H',J.yld i H x H'->g x (clr own Y) H' λσ2 H2=>Ext (clr own Y) σ2/\tc σ2 H2 λb H3=>
  if b=true then te σ2 H3 λv H4=>ys.length<sizeLine /\ ∃ m',m'<m/\W (i+1) m' (ys++[v]) H4 else ∃ m',m'<m/\W (i+1) m' ys H3)
noncomputable abbrev zj (its:List Value) (n:Nat):Obj:={ cls:=.type "list", data:=.seq its.toArray n }
section
variable {X:Cx} {zB:Yd} {Y:St} {H:Hp} {s:Yl}
def Inv.repin (I:Inv X (pl++[(D,o)]) Y H s) (hpl:∀ p∈X.pn++pl,p.1≠D) (hs:Heap.SameBut D s.heap h') (hD:X.s₀.heap.objs.size<=D) (hc:∀ x c,X.env.cells.lookup x=some c->c≠D)
  (e:h'.get? D=some o') (hn:∀ v,o'.data≠.cell v):Inv X (pl++[(D,o')]) Y H { s with heap:=h' }:=by
 obtain ⟨e0,n0,ne0,nf0,d0⟩:=I.pin (D,o) (by simp);have I1:Inv X pl Y H s:=I.pins_of λp hp=>I.pin p (by simp[hp]);have I2:Inv X pl Y H { s with heap:=h' }:=I1.turned (t':=s.toks) (it:=D) (λb u hb q=>hs.extBut b u hb q) n0 ne0 (.inr hD) hc hpl;exact I2.pins_of λp hp=>by
  rcases AS.mp hp with z|z
  .exact I2.pin p (Ar _ z)
  .have:p=(D,o'):=by simpa using z
   subst this;exact ⟨e,n0,ne0,nf0,hn⟩
end
section
variable {X:Cx} {zB:Yd} {Y:St} {H:Hp} {s:Yl} {scope:Y0} {cl:Yv} {fp:Yg} {it:Yt} {tn:Nat->Heap->Prop} {J:It} {tg elt iter:Expr} {ifs:Yi} {pos:Pos}
 {own:Yj} {g:TG} {tc:TT} {te:TE} {E:Yc}
structure CompIn (X:Cx) (scope:Y0) (own:Yj):Prop where
 sc:CompScope X scope
 nm:∀ (i:Nat) x,X.N[i]?=some x->i∈own\/scope.names.lookup x=none\/scope.names.lookup x=some .free
def Jz (x:Str) (h:scope.names.lookup x=none):(relabel scope env).names.lookup x=none:=by
 cases q:(relabel scope env).names.lookup x with
 |none=>rfl
 |some k=>
  rcases Gx (scope:=scope) x q with z|z
  .rw[h]at z;cases z
  .rw[h]at z;cases z.1
def N7 (C:CompIn X scope own) (hcalm:X.calm=true) (I:Inv X zB Y H s) (T:Turn X.prog X.w X.K tg J fp it tn) (st:tn 0 s.heap) (hf:∀ b∈fp,Bh X zB H b)
  (c1:∀ x c,cl.lookup x=some c->X.env.cells.lookup x=some c) (c2:∀ y∈scope.names,y.2=.free->(cl.lookup y.1).isSome=true)
  (hg:PG (zP X zB scope cl s H fp) tg g) (hi:Dt (zP X zB scope cl s H fp) ifs tc) (he:PE (zP X zB scope cl s H fp) elt te)
  {RR:Value->Addr->Result->Shared->Prop} {QQ:List V->Hp->Prop} {W:Nat->Nat->List V->Hp->Prop} {m0:Nat} (w0:W 0 m0 [] H)
  (turn:∀ i m ys H,W i m ys H->(J.stop i H/\ys.length<=sizeLine/\QQ ys H) \/
   (J.go i H /\ ∀ x H',J.yld i H x H'->g x (clr own Y) H' λσ2 H2=>Ext (clr own Y) σ2/\tc σ2 H2 λb H3=>
    if b=true then te σ2 H3 λv H4=>ys.length<sizeLine /\ ∃ m',m'<m/\W (i+1) m' (ys++[v]) H4 else ∃ m',m'<m/\W (i+1) m' ys H3))
  (fin:∀ σc H' s' its n ys,Inv (zP X zB scope cl s H fp) [(s.heap.objs.size,zj its n)] σc H' s'->zX ys its->ys.length<=sizeLine->QQ ys H'->RR (.ref s.heap.objs.size) (s.heap.objs.size+1) (.ok .next) s') :
  wpAny (model X.prog X.w) X.A (newList []) (λacc s₃=>wpAny (model X.prog X.w) X.A (newFunctionEnv scope X.env.globals cl [] X.env.qual none .none (some X.env)) (λcenv s₄=>
   codeAny (model X.prog X.w) X.A (.compStart (.ListComp elt [⟨tg,iter,ifs,0⟩] scope pos) 0 (.ref it) acc { cenv with scope:=relabel scope X.env }) (RR acc cenv.locals) s₄) E s₃) E s:=by
 have ob:∀ b:Nat,b∈fp->b<s.heap.objs.size:=λb hb=>let ⟨_,e,_⟩:=T.obj 0 _ st b hb;AH e;refine CI (Kb ?_);have sz1:(s.heap.push (zj [] 0)).objs.size=s.heap.objs.size+1:=Cg ..;have I4:=Ls (X:=X) (zB:=zB) (Y:=Y) (σc:=clr own Y) (H:=H) (s:=s) (scope:=scope) (cl:=cl) (fp:=fp) C.sc I hf ob c1 c2 (G9 own Y) (λi x v h1 h2 h3=>by
  obtain ⟨a,b⟩:=GG own Y i v h2;rcases C.nm i x h1 with z|z|z
  .exact absurd z b
  .exact absurd (Jz x z) h3
  .exact ⟨z,a⟩) (zj [] 0) (by intro v z;cases z) rfl rfl
 have st4:tn 0 (pushCells ((s.heap.push (zj [] 0)).push { cls:=.type "dict", data:=.dict #[] }) scope.names):=T.keep 0 _ _ st λb _ o e=>pushCells_keeps _ _ b o (AJ _ (AJ _ e));dsimp only;unfold newEnv;dsimp only;rw[sz1];have hDfp:s.heap.objs.size∉fp:=λz=>Bq _ (ob _ z);have hcD:∀ x c,(zP X zB scope cl s H fp).env.cells.lookup x=some c->c≠s.heap.objs.size:=λx c e z=>by
  obtain ⟨v,o,ho,hd⟩:=I4.cell x c e;obtain ⟨q,_⟩:=I4.pin (s.heap.objs.size,zj [] 0) (by simp);rw[z,q]at ho;cases ho;cases hd
 have fpk:∀ {H':Hp} {pl:Yd},(∀ b∈fp,H' b=none)->(∀ p∈pl,p.1=s.heap.objs.size) -> ∀ b∈fp,Bh (zP X zB scope cl s H fp) pl H' b:=λ{H' pl} hn hp b hb=>
  ⟨hn b hb,(I4.ok.exf b hb).1,I4.ok.exfs b hb,.inl hb,(I4.ok.exf b hb).2,λp hq=>by
   rcases AS.mp hq with z|z
   .exact (hf b hb).2.2.2.2.2 p z
   .intro e;have e2:=hp p z;rw[e]at e2;exact hDfp (e2▸hb)⟩
 have loop:codeAny (model X.prog X.w) X.A (.compLoop (.ListComp elt [⟨tg,iter,ifs,0⟩] scope pos) 0 (.ref it) (.ref s.heap.objs.size) (zP X zB scope cl s H fp).env) (RR (.ref s.heap.objs.size) (s.heap.objs.size+1))
   { s with heap:=pushCells ((s.heap.push (zj [] 0)).push { cls:=.type "dict", data:=.dict #[] }) scope.names }:=by
  refine Tz (λn s'=>∃ i H' ys its k,Inv (zP X zB scope cl s H fp) [(s.heap.objs.size,zj its k)] (clr own Y) H' s'/\zX ys its/\tn i s'.heap/\(∀ b∈fp,H' b=none)/\W i n ys H') ?_ m0
   ⟨0,H,[],[],0,I4,.nil,st4,λb hb=>(hf b hb).1,w0⟩
  rintro n s5 ⟨i,H5,ys,its,k,I5,r5,st5,f5,w5⟩;have pinD:∀ p∈[(s.heap.objs.size,zj its k)],p.1=s.heap.objs.size:=λp hp=>by
   have:p=(s.heap.objs.size,zj its k):=by simpa using hp
   rw[this]
  rcases turn i n ys H5 w5 with ⟨stop,hz,qq⟩|⟨go,step⟩
  .refine thn (T.done (zP X zB scope cl s H fp) rfl rfl rfl hcalm i _ s5 _ H5 _ I5 (fpk f5 pinD) st5 stop) λr s6 ⟨hr,I6⟩=>?_;subst hr;exact fin _ H5 s6 its k ys I6 r5 hz qq
  .refine thn (T.item (zP X zB scope cl s H fp) rfl rfl rfl hcalm i _ s5 _ H5 _ I5 (fpk f5 pinD) st5 go) λr s6 ⟨u,hr,h6⟩=>?_;subst hr;refine thn h6 λ_ s7 ⟨x,H7,I7,r7,y7,st7,f7⟩=>?_;have I7':=I7.pinned (fpk f7 pinD) (T.obj _ _ st7);refine thn (hg _ s7 _ H7 x u _ I7' r7 (step x H7 y7)) λ_ s8 ⟨σ8,H8,I8,x8,q8⟩=>?_;refine thn (hi _ s8 σ8 H8 _ I8 q8) λok s9 ⟨H9,I9,q9⟩=>?_;have back:∀ {s':Yl} {Hx:Hp},Inv (zP X zB scope cl s H fp) ([(s.heap.objs.size,zj its k)]++Ef fp s7.heap) σ8 Hx s'->tn (i+1) s'.heap /\ ∀ b∈fp,Hx b=none:=λ{s' Hx} Ix=>
    ⟨T.keep _ _ _ st7 λb hb o e=>(Ix.pin (b,o) (Ar _ (Ar _ (EA hb e)))).1,λb hb=>by
     obtain ⟨o,e,d⟩:=T.obj _ _ st7 b hb;exact (Ix.pin (b,o) (Ar _ (Ar _ (EA hb e)))).2.1⟩
   cases ok with
   |false=>
    obtain ⟨m',hm,w'⟩:=q9;obtain ⟨b1,b2⟩:=back I9;exact ⟨m',hm,i+1,H9,ys,its,k,(I9.weak (by rw[x8.1]) x8.2).unpinned,r5,b1,b2,w'⟩
   |true=>
    refine thn (he _ s9 σ8 H9 _ I9 q9) λv s10 ⟨y,H10,I10,r10,hlt,m',hm,w'⟩=>?_;obtain ⟨b1,b2⟩:=back I10;have J10:=(I10.weak (by rw[x8.1]) x8.2).unpinned;obtain ⟨e10,n10,ne10,nf10,d10⟩:=J10.pin (s.heap.objs.size,zj its k) (by simp);have hlen:its.toArray.size<=sizeLine:=by
     have:=r5.length;rw[AW,<-this];exact Dd hlt
    refine wpAny_list_append_plain (hsz:=hlen) (show s10.heap.PlainList s.heap.objs.size its.toArray from ⟨k,e10⟩) λh' hl' hs'=>?_;obtain ⟨k',e'⟩:=hl';have e'':h'.get? s.heap.objs.size=some (zj (its++[v]) k'):=by rw[e'];simp[zj]
    refine ⟨m',hm,i+1,H10,ys++[y],its++[v],k',?_,r5.append (.cons r10 .nil),T.keep _ _ _ b1 λb hb o e=>hs'.extBut b o (λz=>hDfp (z▸hb)) e,b2,w'⟩;refine Inv.repin (pl:=[]) J10 (λp hp=>?_) hs' (AG _) hcD e'' (by intro v z;cases z);rw[By]at hp;have hp':p∈X.pn++zB:=hp;exact Ap (AH (I.pin p hp').1)
 exact codeAny_compStart_list loop (T.self _ 0 _ _ _ st4 loop)
end
section
variable {X:Cx} {zB:Yd} {Y:St} {H:Hp} {s:Yl} {scope:Y0} {cl:Yv} {fp:Yg}
def LC (I:Inv X zB Y H s) (hf:∀ b∈fp,Bh X zB H b)
  (Ic:Inv (zP X zB scope cl s H fp) [(s.heap.objs.size,zj its n)] σc H' s') (rv:zX ys its) (hz:ys.length<=sizeLine) (hs:Heap.SameBut (s.heap.objs.size+1) s'.heap h') :
  Inv X zB Y (upd H' s.heap.objs.size (.lst ys)) { s' with heap:=h' }/\H' s.heap.objs.size=none:=by
 obtain ⟨eD,nD,_⟩:=Ic.pin (s.heap.objs.size,zj its n) (by simp);have nC:H' (s.heap.objs.size+1)=none:=Ic.free;have eD':h'.get? s.heap.objs.size=some (zj its n):=hs.extBut _ _ (Ap (E1 _)) eD;have lt1:∀ {b:Yt} {o:Obj},s.heap.get? b=some o->b≠s.heap.objs.size+1/\b≠s.heap.objs.size:=λe=>⟨Ap (EH (AH e)),Ap (AH e)⟩;have tr:∀ b u,H' b=some u->b≠s.heap.objs.size+1/\b≠s.heap.objs.size:=λb u e=>⟨λz=>(by rw[z,nC]at e;cases e),λz=>(by rw[z,nD]at e;cases e)⟩;refine ⟨?_,nD⟩;have B:=Ic.base;have un:Un (frs X.stack) fp H (upd H' s.heap.objs.size (.lst ys)) s.heap h':=by
  refine ⟨λb o e q hb hx=>hs.extBut b o (lt1 e).1 (B.keep b o e q hb hx),λb o e q hb hx=>?_,λb o e q hx=>?_,λb o e hx=>?_,λb xs e=>?_,λb o xs e=>?_,λb ps e=>?_⟩
  .obtain ⟨sl,e1⟩:=B.slot b o e q hb hx;exact ⟨sl,hs.extBut b _ (lt1 e).1 e1⟩
  .rw[zZ (lt1 e).2];exact B.free b o e q hx
  .obtain ⟨o',e1⟩:=B.there b o e hx;exact ⟨o',hs.extBut b _ (lt1 e).1 e1⟩
  .have q:=B.tups b xs e;rw[zZ (tr b _ q).2];exact q
  .have q:=B.frzs b o xs e;rw[zZ (tr b _ q).2];exact q
  .obtain ⟨more,q⟩:=B.tbls b ps e;exact ⟨more,by rw[zZ (tr b _ q).2];exact q⟩
 have hok:HOk X.prog X.w (upd H' s.heap.objs.size (.lst ys)) h':=λb u e=>by
  by_cases hb:b=s.heap.objs.size
  .subst hb;rw[Ct]at e;cases e;exact ⟨hz,its,n,rv,eD'⟩
  .rw[zZ hb]at e;refine (Ic.hok b u e).stay (λc v hc q=>hs.extBut c v ?_ q) (λc q=>by rw[zZ (tr c _ q).2];exact q) λc xs q=>by rw[zZ (tr c _ q).2];exact q
   rcases hc with z|z
   .rw[z];exact (tr b u e).1
   .exact (tr c _ z).1
 exact I.call' (s':={ s' with heap:=h' }) (ch:=fp) Ic.os un hok Ic.bare λb hb=>⟨(hf b hb).2.2.2.1,(hf b hb).2.1,(hf b hb).2.2.2.2.1,(hf b hb).2.2.2.2.2⟩
end
section
variable {X:Cx} {scope:Y0} {tg elt iter:Expr} {ifs:Yi} {pos:Pos} {own:Yj} {wi:TI} {g:TG} {tc:TT} {te:TE}
structure CompParts (X:Cx) (scope:Y0) (tg:Expr) (ifs:Yi) (elt:Expr) (g:TG) (tc:TT) (te:TE):Prop where
 g:∀ zB cl s H fp,PG (zP X zB scope cl s H fp) tg g
 c:∀ zB cl s H fp,Dt (zP X zB scope cl s H fp) ifs tc
 e:∀ zB cl s H fp,PE (zP X zB scope cl s H fp) elt te
def CompScope.closure (S:CompScope X scope) (I:Inv X zB Y H s) :
  ∃ cl,closureFor scope X.env=pure cl/\(∀ x c,cl.lookup x=some c->X.env.cells.lookup x=some c) /\ ∀ y∈scope.names,y.2=.free->(cl.lookup y.1).isSome=true :=
 bN λy hy hk=>I.ok.has y.1 (S.free y hy hk)
def YI (C:CompIn X scope own) (hcalm:X.calm=true) (hi:PI X tg iter wi) (p:CompParts X scope tg ifs elt g tc te) (hs:∀ x,foldedSetIterable iter X.env x=pure x:=by intro _;rfl) :
  PE X (.ListComp elt [⟨tg,iter,ifs,0⟩] scope pos) (J4 own wi g tc te):=by
 intro zB s Y H Q I h;obtain ⟨cl,hcl,c1,c2⟩:=C.sc.closure I;rw[eval_ListComp];refine wpAny_comprehension_free (use:=none) rfl hs hcl C.sc.kind C.sc.names (thn (hi zB s Y H _ I h) λv s1 h1=>thn h1 λitv s2 h2=>?_);obtain ⟨it,fp,tn,J,H2,e,I2,T,st2,f2,W,⟨m0,w0⟩,turn⟩:=h2;subst e;refine N7 C hcalm I2 T st2 f2 c1 c2 (p.g _ _ _ _ _) (p.c _ _ _ _ _) (p.e _ _ _ _ _) (RR:=λacc C r s'=>compPost (model X.prog X.w) X.A X.xe none (EP X zB Y Q) acc C r s') (QQ:=λys H=>∀ D,H D=none->Q (.ref D) (upd H D (.lst ys))) w0 turn ?_;intro σc H' s' its n ys Ic rv hz qq;obtain ⟨m,hn,_⟩:=Ic.loc;refine ⟨m,hn,λh' hs'=>?_⟩;obtain ⟨J',nD⟩:=LC I2 f2 Ic rv hz hs';exact ⟨.ref s2.heap.objs.size,_,J',rfl,qq _ nD⟩
def Uv (hN:X.N.Nodup) (hi':X.N[i]?=some x) (hx:Loc X.env.scope x) (hfn:X.fn x=true\/X.env.scope.names.lookup x=some .local)
  (C:CompIn X scope own) (hcalm:X.calm=true) (hi:PI X tg iter wi) (p:CompParts X scope tg ifs elt g tc te)
  (hsw:swapsWith (.ListComp elt [⟨tg,iter,ifs,0⟩] scope pos) (some (.Name x pos')) pos''.line X.env=pure true) (hs:∀ x,foldedSetIterable iter X.env x=pure x:=by intro _;rfl) :
  PS X (.Assign [.Name x pos'] (.ListComp elt [⟨tg,iter,ifs,0⟩] scope pos) pos'') (Ip (J4 own wi g tc te) (Ea i)):=by
 intro zB s Y H D I h;obtain ⟨cl,hcl,c1,c2⟩:=C.sc.closure I;rw[exec_Assign_Name_used _ _ _ _ hsw];refine AA (DM (AA ?_));show wpAny _ X.A (do let _ <- comprehension (.ListComp elt [⟨tg,iter,ifs,0⟩] scope pos) scope X.env _ (newList []) false (eval iter X.env) (some (assign (.Name x pos') X.env))) _ _ s
 refine AA (AX (wpAny_comprehension_free (use:=some (assign (.Name x pos') X.env)) (Q:=λ_ s'=>SP X zB D .next s') rfl hs hcl C.sc.kind C.sc.names
  (thn (hi zB s Y H _ I h) λv s1 h1=>thn h1 λitv s2 h2=>?_)) (λ_ s' hq=>AE (AE hq)) λ_ _ e=>e)
 obtain ⟨it,fp,tn,J,H2,e,I2,T,st2,f2,W,⟨m0,w0⟩,turn⟩:=h2;subst e
 refine N7 C hcalm I2 T st2 f2 c1 c2 (p.g _ _ _ _ _) (p.c _ _ _ _ _) (p.e _ _ _ _ _) (RR:=λacc C r s'=>compPost (model X.prog X.w) X.A X.xe (some (assign (.Name x pos') X.env)) (λ_ s'=>SP X zB D .next s') acc C r s')
  (QQ:=λys H=>∀ E,H E=none->Ea i (.ref E) Y (upd H E (.lst ys)) D.nx) w0 turn ?_
 intro σc H' s' its n ys Ic rv hz qq;obtain ⟨m,hn,_⟩:=Ic.loc;obtain ⟨J',nD⟩:=LC (h':=s'.heap) I2 f2 Ic rv hz (.refl ..);obtain ⟨oC,es,ep,hoC,hdC,r1,r2⟩:=id hn;have nC:upd H' s2.heap.objs.size (.lst ys) (s2.heap.objs.size+1)=none:=by rw[zZ (Nat.ne_of_gt (E1 _))];exact Ic.free
 have K':Inv X (zB++[(s2.heap.objs.size+1,oC)]) Y (upd H' s2.heap.objs.size (.lst ys)) s':=J'.pins_of λq hq=>by
  rcases AS.mp hq with z|z
  .exact J'.pin q (Ar _ z)
  .have e:q=(s2.heap.objs.size+1,oC):=by simpa using z
   subst e;refine ⟨hoC,nC,Nat.ne_of_gt (EH I2.lt),I2.nofs (Nat.le_succ _),λv z=>?_⟩;have z':oC.data=.cell v:=z;rw[hdC]at z';cases z'
 show wpAny _ X.A (assign (.Name x pos') X.env (.ref s2.heap.objs.size)) _ _ _;refine thn (Qp hN hi' hx hfn _ s' Y _ (.ref s2.heap.objs.size) (.ref s2.heap.objs.size) _ K' rfl (qq _ nD)) λ_ s'' ⟨Y'',H'',I'',q''⟩=>?_;obtain ⟨eC,_⟩:=I''.pin (s2.heap.objs.size+1,oC) (by simp);refine ⟨m,⟨oC,es,ep,eC,hdC,r1,r2⟩,λh' hs'=>⟨Y'',H'',?_,q''⟩⟩;have I3:Inv X zB Y'' H'' s'':=I''.unpinned;obtain ⟨_,nC'',neC,_,_⟩:=I''.pin (s2.heap.objs.size+1,oC) (by simp);refine I3.turned (t':=s''.toks) (it:=s2.heap.objs.size+1) (λb o hb e=>hs'.extBut b o hb e) nC'' neC (.inr (BA I2.sz (Nat.le_succ _))) (λx c e z=>?_) (λq hq z=>?_)
 .obtain ⟨v,o,ho,hd⟩:=I3.cell x c e;rw[z,eC]at ho;cases ho;rw[hdC]at hd;cases hd
 .obtain ⟨e,_⟩:=I2.pin q hq;exact Ap (EH (AH e)) z
end
noncomputable abbrev Bl (elt t1 i1:Expr) (f1:Yi) (t2 i2:Expr) (f2:Yi) (scope:Y0) (pos:Pos):Expr:=.ListComp elt [⟨t1,i1,f1,0⟩,⟨t2,i2,f2,0⟩] scope pos
def Tt (elt t1 i1:Expr) (f1:Yi) (t2 i2:Expr) (f2:Yi) (scope:Y0) (pos:Pos) (it acc:Yu) (env:Env) :
  compTurn (Bl elt t1 i1 f1 t2 i2 f2 scope pos) 0 it acc env=(do
   standAt i1.pos;match <- pyNext it with
   |none=>pure (.done .next)
   |some v=>
    letOwnedTupleGo t1 it v;assign t1 env v;let mut ok:=true
    for c in f1 do
     if ok then ok <- isTrue c env (eval c env)
    if ok then
     let x <- eval i2 env;standAt i2.pos;let x <- foldedSetIterable i2 env x;let _ <- runOwn (.compStart (Bl elt t1 i1 f1 t2 i2 f2 scope pos) 1 (<- holding [x] (pyIter x)) acc env) env
    again (.compLoop (Bl elt t1 i1 f1 t2 i2 f2 scope pos) 0 it acc env)):=by rfl
def bA (elt t1 i1:Expr) (f1:Yi) (t2 i2:Expr) (f2:Yi) (scope:Y0) (pos:Pos) (it acc:Yu) (env:Env) :
  compTurn (Bl elt t1 i1 f1 t2 i2 f2 scope pos) 1 it acc env=(do
   standAt i2.pos;match <- pyNext it with
   |none=>pure (.done .next)
   |some v=>
    letOwnedTupleGo t2 it v;assign t2 env v;let mut ok:=true
    for c in f2 do
     if ok then ok <- isTrue c env (eval c env)
    if ok then
     (do let _ <- call (.builtin "list.append") [acc,<-eval elt env])
    again (.compLoop (Bl elt t1 i1 f1 t2 i2 f2 scope pos) 1 it acc env)):=by rfl
section
variable {prog:Ym} {w:Yo} {A:Yn} {E:Yc} {R:Yx} {s:Yl}
variable {elt t1 i1 t2 i2:Expr} {f1 f2:Yi} {scope:Y0} {pos:Pos} {it acc:Yu} {env:Env}
def eJ (I:Nat->Shared->Prop)
  (turn:∀ n s,I n s->wpAny (model prog w) A (pyNext it) (λr s₁=>match r with
   |none=>R (.ok .next) s₁
   |some v=>wpAny (model prog w) A (letOwnedTupleGo t2 it v) (λ_ s₁'=>wpAny (model prog w) A (assign t2 env v) (λ_ s₂=>
     wpAny (model prog w) A (forIn f2 true λc r=>if r=true then do let ok <- isTrue c env (eval c env);pure (ForInStep.yield ok) else pure (ForInStep.yield r)) (λok s₃=>
      if ok=true then wpAny (model prog w) A (eval elt env) (λx s₄=>
       wpAny (model prog w) A (call (.builtin "list.append") [acc,x]) (λ_ s₅=>∃ m,m<n/\I m s₅) (λ_ _=>False) s₄) (λ_ _=>False) s₃
      else ∃ m,m<n/\I m s₃) (λ_ _=>False) s₂) (λ_ _=>False) s₁') (λ_ _=>False) s₁) (λ_ _=>False) s)
  (n:Nat) (h:I n s) :
  codeAny (model prog w) A (.compLoop (Bl elt t1 i1 f1 t2 i2 f2 scope pos) 1 it acc env) R s:=by
 refine codeAny_loop rfl I (λn s hI=>?_) n h;show wpAny _ A ((compTurn (Bl elt t1 i1 f1 t2 i2 f2 scope pos) 1 it acc env).onRaise (λx=>do noteFrame x env;theTreesLotGoes x)) _ _ s;refine wpAny_noted ?_;rw[bA];refine AA (DM (AA (AX (turn n s hI) (λr s₁ h₁=>?_) λ_ _ h'=>h'.elim)));cases r with
 |none=>exact AE h₁
 |some v=>
  refine AA (AX h₁ (λ_ s₁' h₁'=>?_) λ_ _ h'=>h'.elim);refine AA (AX h₁' (λ_ s₂ h₂=>AA (AX h₂ (λok s₃ h₃=>?_) λ_ _ h'=>h'.elim)) λ_ _ h'=>h'.elim);cases ok with
  |false=>exact AE ⟨rfl,h₃⟩
  |true=>
   exact AA (AA (AX h₃ (λx s₄ h₄=>AA (AX h₄ (λ_ s₅ h₅=>AE (AE ⟨rfl,h₅⟩)) λ_ _ h'=>h'.elim)) λ_ _ h'=>h'.elim))
def Ro
  (h0:codeAny (model prog w) A (.compLoop (Bl elt t1 i1 f1 t2 i2 f2 scope pos) 1 it acc env) R s)
  (h:wpAny (model prog w) A (pyIter it) (λit' s'=>codeAny (model prog w) A (.compLoop (Bl elt t1 i1 f1 t2 i2 f2 scope pos) 1 it' acc env) R s')
   (notedBy (model prog w) A env λx s'=>R (.error x) s') s) :
  codeAny (model prog w) A (.compStart (Bl elt t1 i1 f1 t2 i2 f2 scope pos) 1 it acc env) R s:=by
 refine codeAny_of_tree ?_;show wpAny _ _ ((compStart (Bl elt t1 i1 f1 t2 i2 f2 scope pos) 1 it acc env).onRaise (λx=>do noteFrame x env;standAt theWindowsPlace)) _ _ s;refine wpAny_notedAt ?_;unfold compStart;show wpAny _ _ (ask >>= _) _ _ s;refine AA (wpAny_askSetting (wpAny_ite ?_));split
 .first
   |exact AA (AE (AE (And.intro rfl h0)))
   |exact AE (And.intro rfl h0)
 .first
   |exact AA (CA (AA (DM (AA (AX h (λit' s' h'=>AE (And.intro rfl h')) λ_ _ x=>x)))))
   | (refine AA (CA ?_);show wpAny _ _ (standAt i2.pos >>= _) _ _ s;exact AA (DM (AA (AX h (λit' s' h'=>AE (And.intro rfl h')) λ_ _ x=>x))))
def XS (hs2:∀ x,foldedSetIterable i2 env x=pure x) (I:Nat->Shared->Prop)
  (turn:∀ n s,I n s->wpAny (model prog w) A (pyNext it) (λr s₁=>match r with
   |none=>R (.ok .next) s₁
   |some v=>wpAny (model prog w) A (letOwnedTupleGo t1 it v) (λ_ s₁'=>wpAny (model prog w) A (assign t1 env v) (λ_ s₂=>
     wpAny (model prog w) A (forIn f1 true λc r=>if r=true then do let ok <- isTrue c env (eval c env);pure (ForInStep.yield ok) else pure (ForInStep.yield r)) (λok s₃=>
      if ok=true then wpAny (model prog w) A (eval i2 env) (λx s₄=>wpAny (model prog w) A (pyIter x) (λit2 s₅=>
       codeAny (model prog w) A (.compStart (Bl elt t1 i1 f1 t2 i2 f2 scope pos) 1 it2 acc env) (λr s₆=>r=.ok .next /\ ∃ m,m<n/\I m s₆) s₅) (λ_ _=>False) s₄) (λ_ _=>False) s₃
      else ∃ m,m<n/\I m s₃) (λ_ _=>False) s₂) (λ_ _=>False) s₁') (λ_ _=>False) s₁) (λ_ _=>False) s)
  (n:Nat) (h:I n s) :
  codeAny (model prog w) A (.compLoop (Bl elt t1 i1 f1 t2 i2 f2 scope pos) 0 it acc env) R s:=by
 refine codeAny_loop rfl I (λn s hI=>?_) n h;show wpAny _ A ((compTurn (Bl elt t1 i1 f1 t2 i2 f2 scope pos) 0 it acc env).onRaise (λx=>do noteFrame x env;theTreesLotGoes x)) _ _ s;refine wpAny_noted ?_;rw[Tt];refine AA (DM (AA (AX (turn n s hI) (λr s₁ h₁=>?_) λ_ _ h'=>h'.elim)));cases r with
 |none=>exact AE h₁
 |some v=>
  refine AA (AX h₁ (λ_ s₁' h₁'=>?_) λ_ _ h'=>h'.elim);refine AA (AX h₁' (λ_ s₂ h₂=>AA (AX h₂ (λok s₃ h₃=>?_) λ_ _ h'=>h'.elim)) λ_ _ h'=>h'.elim);cases ok with
  |false=>exact AE ⟨rfl,h₃⟩
  |true=>
   refine AA (AX h₃ (λx s₄ h₄=>AA (DM (AA (wpAny_of_eq (hs2 x) (AA (C7 (AX h₄ (λit2 s₅ h₅=>?_) λ_ _ h'=>h'.elim))))))) λ_ _ h'=>h'.elim);refine AA (wpAny_runOwn (codeAny_mono h₅ λr s₆ hr=>?_));obtain ⟨rfl,hr⟩:=hr;exact AE ⟨rfl,hr⟩
end
def tIn (own2:Yj) (wi2:TI) (g2:TG) (tc2:TT) (te:TE) (σ2:St) (H3:Hp) (ys:List V) (QQ:List V->Hp->Prop):Prop :=
 wi2 σ2 H3 λJ2 H4=>∃ W2:Nat->Nat->List V->Hp->Prop,(∃ m,W2 0 m ys H4) /\ ∀ j m zs H,W2 j m zs H ->
  (J2.stop j H/\QQ zs H) \/
  (J2.go j H /\ ∀ x H',J2.yld j H x H'->g2 x (clr own2 σ2) H' λσ3 H5=>Ext (clr own2 σ2) σ3/\tc2 σ3 H5 λb H6=>
   if b=true then te σ3 H6 λv H7=>zs.length<sizeLine /\ ∃ m',m'<m/\W2 (j+1) m' (zs++[v]) H7 else ∃ m',m'<m/\W2 (j+1) m' zs H6)
section
variable {C:Cx} {elt t1 i1 t2 i2:Expr} {f1 f2:Yi} {scope:Y0} {pos:Pos} {pl:Yd} {Y:St} {H:Hp} {s:Yl} {D:Yt}
 {own2:Yj} {wi2:TI} {g2:TG} {tc2:TT} {te:TE} {R:Yx}
def Zw (hxe:C.xe=λ_ _=>False) (hcalm:C.calm=true) (hi:PI C t2 i2 wi2) (hg:PG C t2 g2) (hc:Dt C f2 tc2) (he:PE C elt te) (hD:C.s₀.heap.objs.size<=D)
  (hcD:∀ x c,C.env.cells.lookup x=some c->c≠D) (hpl:∀ p∈C.pn++pl,p.1≠D) (I:Inv C (pl++[(D,zj its k)]) Y H s) (rv:zX ys its) (h:tIn own2 wi2 g2 tc2 te Y H ys QQ)
  (fin:∀ s' H' its' k' zs,Inv C (pl++[(D,zj its' k')]) (clr own2 Y) H' s'->zX zs its'->QQ zs H'->R (.ok .next) s') :
  wpAny (model C.prog C.w) C.A (eval i2 C.env) (λx s₄=>wpAny (model C.prog C.w) C.A (pyIter x) (λit2 s₅=>
   codeAny (model C.prog C.w) C.A (.compStart (Bl elt t1 i1 f1 t2 i2 f2 scope pos) 1 it2 (.ref D) C.env) R s₅) (λ_ _=>False) s₄) (λ_ _=>False) s:=by
 have hpi:=hi _ s Y H _ I h;rw[hxe]at hpi;refine thn hpi λv s1 h1=>thn h1 λitv s2 h2=>?_;obtain ⟨it,fp,tn,J,H2,e,I2,T,st2,f2',W,⟨m0,w0⟩,turn⟩:=h2;subst e;have hDfp:D∉fp:=λz=>(f2' D z).2.2.2.2.2 (D,zj its k) (by simp) rfl;have loop:∀ s',(∃ H',Inv C (pl++[(D,zj its k)]) (clr own2 Y) H' s'/\tn 0 s'.heap/\(∀ b∈fp,H' b=none)/\W 0 m0 ys H')->codeAny (model C.prog C.w) C.A (.compLoop (Bl elt t1 i1 f1 t2 i2 f2 scope pos) 1 (.ref it) (.ref D) C.env) R s':=by
  rintro s' ⟨H',I',st',hn',w'⟩;have fpk:∀ {H':Hp} {its:Yf} {k:Nat},(∀ b∈fp,H' b=none) -> ∀ b∈fp,Bh C (pl++[(D,zj its k)]) H' b:=λ{H' its k} hn b hb=>by
   obtain ⟨_,a2,a3,a4,a5,a6⟩:=f2' b hb;refine ⟨hn b hb,a2,a3,a4,a5,λp hp=>?_⟩;rcases AS.mp hp with z|z
   .exact a6 p (Cr _ z)
   .rcases AS.mp z with z|z
    .exact a6 p (Ar _ (Cr _ z))
    .have:p=(D,zj its k):=by simpa using z
     rw[this];intro q;have q':D=b:=q;exact hDfp (q'▸hb)
  refine eJ (λn s'=>∃ i H' ys its k,Inv C (pl++[(D,zj its k)]) (clr own2 Y) H' s'/\zX ys its/\tn i s'.heap/\(∀ b∈fp,H' b=none)/\W i n ys H') ?_ m0 ⟨0,H',ys,its,k,I',rv,st',hn',w'⟩;rintro n s5 ⟨i,H5,ys,its,k,I5,r5,st5,f5,w5⟩;rcases turn i n ys H5 w5 with ⟨stop,qq⟩|⟨go,step⟩
  .refine thn (T.done C rfl rfl rfl hcalm i _ s5 _ H5 _ I5 (fpk f5) st5 stop) λr s6 ⟨hr,I6⟩=>?_;subst hr;exact fin s6 H5 its k ys I6 r5 qq
  .refine thn (T.item C rfl rfl rfl hcalm i _ s5 _ H5 _ I5 (fpk f5) st5 go) λr s6 ⟨u,hr,h6⟩=>?_;subst hr;refine thn h6 λ_ s7 ⟨x,H7,I7,r7,y7,st7,f7⟩=>?_;have I7':=I7.pinned (fpk f7) (T.obj _ _ st7);have hgg:=hg _ s7 _ H7 x u _ I7' r7 (step x H7 y7);rw[hxe]at hgg;refine thn hgg λ_ s8 ⟨σ8,H8,I8,x8,q8⟩=>?_;have hcc:=hc _ s8 σ8 H8 _ I8 q8;rw[hxe]at hcc;refine thn hcc λok s9 ⟨H9,I9,q9⟩=>?_;have back:∀ {s':Yl} {Hx:Hp},Inv C ((pl++[(D,zj its k)])++Ef fp s7.heap) σ8 Hx s'->tn (i+1) s'.heap /\ ∀ b∈fp,Hx b=none:=λ{s' Hx} Ix=>
    ⟨T.keep _ _ _ st7 λb hb o e=>(Ix.pin (b,o) (Ar _ (Ar _ (EA hb e)))).1,λb hb=>by
     obtain ⟨o,e,d⟩:=T.obj _ _ st7 b hb;exact (Ix.pin (b,o) (Ar _ (Ar _ (EA hb e)))).2.1⟩
   cases ok with
   |false=>
    obtain ⟨m',hm,w'⟩:=q9;obtain ⟨b1,b2⟩:=back I9;exact ⟨m',hm,i+1,H9,ys,its,k,(I9.weak (by rw[x8.1]) x8.2).unpinned,r5,b1,b2,w'⟩
   |true=>
    have hee:=he _ s9 σ8 H9 _ I9 q9;rw[hxe]at hee;refine thn hee λv s10 ⟨y,H10,I10,r10,hlt,m',hm,w'⟩=>?_;obtain ⟨b1,b2⟩:=back I10;have J10:=(I10.weak (by rw[x8.1]) x8.2).unpinned;obtain ⟨e10,n10,ne10,nf10,d10⟩:=J10.pin (D,zj its k) (by simp);have hlen:its.toArray.size<=sizeLine:=by
     have:=r5.length;rw[AW,<-this];exact Dd hlt
    refine wpAny_list_append_plain (hsz:=hlen) (show s10.heap.PlainList D its.toArray from ⟨k,e10⟩) λh' hl' hs'=>?_;obtain ⟨k',e'⟩:=hl';have e'':h'.get? D=some (zj (its++[v]) k'):=by rw[e'];simp[zj]
    refine ⟨m',hm,i+1,H10,ys++[y],its++[v],k',?_,r5.append (.cons r10 .nil),T.keep _ _ _ b1 λb hb o e=>hs'.extBut b o (λz=>hDfp (z▸hb)) e,b2,w'⟩;exact Inv.repin (pl:=pl) J10 hpl hs' hD hcD e'' (by intro v z;cases z)
 have l0:=loop s2 ⟨H2,I2.weak (G9 own2 Y) (λi v h=>(GG own2 Y i v h).1),st2,λb hb=>(f2' b hb).1,w0⟩;exact Ro l0 (T.self _ 0 _ _ _ st2 l0)
end
section
variable {X:Cx} {zB:Yd} {Y:St} {H:Hp} {s:Yl} {scope:Y0} {cl:Yv} {fp:Yg} {it:Yt} {tn:Nat->Heap->Prop} {J:It} {elt t1 i1 t2 i2:Expr} {f1 f2:Yi} {pos:Pos}
 {own own2:Yj} {g g2:TG} {tc tc2:TT} {te:TE} {wi wi2:TI} {E:Yc}
theorem P6:∀ (own:Yj) (Y:St) (j:Nat),j∉own->(clr own Y)[j]?=Y[j]?
 |[],_,_,_=>rfl
 |i::r,Y,j,h=>by
  show (clr r (Y.set i none))[j]?=_;rw[P6 r _ j (λz=>h (BS _ z)),A7 (λz=>h (by rw[z];exact Ah))]
def TL (hsub:∀ i∈own2,i∈own) (C:CompIn X scope own) (hcalm:X.calm=true) (I:Inv X zB Y H s) (T:Turn X.prog X.w X.K t1 J fp it tn) (st:tn 0 s.heap) (hf:∀ b∈fp,Bh X zB H b)
  (c1:∀ x c,cl.lookup x=some c->X.env.cells.lookup x=some c) (c2:∀ y∈scope.names,y.2=.free->(cl.lookup y.1).isSome=true)
  (hg:PG (zP X zB scope cl s H fp) t1 g) (hi:Dt (zP X zB scope cl s H fp) f1 tc)
  (hi2:PI (zP X zB scope cl s H fp) t2 i2 wi2) (hg2:PG (zP X zB scope cl s H fp) t2 g2) (hc2:Dt (zP X zB scope cl s H fp) f2 tc2) (he:PE (zP X zB scope cl s H fp) elt te)
  (hs2:∀ x,foldedSetIterable i2 (zP X zB scope cl s H fp).env x=pure x)
  {RR:Value->Addr->Result->Shared->Prop} {QQ:List V->Hp->Prop} {W:Nat->Nat->List V->Hp->Prop} {m0:Nat} (w0:W 0 m0 [] H)
  (turn:∀ i m ys H,W i m ys H->(J.stop i H/\ys.length<=sizeLine/\QQ ys H) \/
   (J.go i H /\ ∀ x H',J.yld i H x H'->g x (clr own Y) H' λσ2 H2=>Ext (clr own Y) σ2/\tc σ2 H2 λb H3=>
    if b=true then tIn own2 wi2 g2 tc2 te σ2 H3 ys λzs H4=>∃ m',m'<m/\W (i+1) m' zs H4 else ∃ m',m'<m/\W (i+1) m' ys H3))
  (fin:∀ σc H' s' its n ys,Inv (zP X zB scope cl s H fp) [(s.heap.objs.size,zj its n)] σc H' s'->zX ys its->ys.length<=sizeLine->QQ ys H'->RR (.ref s.heap.objs.size) (s.heap.objs.size+1) (.ok .next) s') :
  wpAny (model X.prog X.w) X.A (newList []) (λacc s₃=>wpAny (model X.prog X.w) X.A (newFunctionEnv scope X.env.globals cl [] X.env.qual none .none (some X.env)) (λcenv s₄=>
   codeAny (model X.prog X.w) X.A (.compStart (Bl elt t1 i1 f1 t2 i2 f2 scope pos) 0 (.ref it) acc { cenv with scope:=relabel scope X.env }) (RR acc cenv.locals) s₄) E s₃) E s:=by
 have ob:∀ b:Nat,b∈fp->b<s.heap.objs.size:=λb hb=>let ⟨_,e,_⟩:=T.obj 0 _ st b hb;AH e;refine CI (Kb ?_);have sz1:(s.heap.push (zj [] 0)).objs.size=s.heap.objs.size+1:=Cg ..;have I4:=Ls (X:=X) (zB:=zB) (Y:=Y) (σc:=clr own Y) (H:=H) (s:=s) (scope:=scope) (cl:=cl) (fp:=fp) C.sc I hf ob c1 c2 (G9 own Y) (λi x v h1 h2 h3=>by
  obtain ⟨a,b⟩:=GG own Y i v h2;rcases C.nm i x h1 with z|z|z
  .exact absurd z b
  .exact absurd (Jz x z) h3
  .exact ⟨z,a⟩) (zj [] 0) (by intro v z;cases z) rfl rfl
 have st4:tn 0 (pushCells ((s.heap.push (zj [] 0)).push { cls:=.type "dict", data:=.dict #[] }) scope.names):=T.keep 0 _ _ st λb _ o e=>pushCells_keeps _ _ b o (AJ _ (AJ _ e));dsimp only;unfold newEnv;dsimp only;rw[sz1];have hDfp:s.heap.objs.size∉fp:=λz=>Bq _ (ob _ z);have hcD:∀ x c,(zP X zB scope cl s H fp).env.cells.lookup x=some c->c≠s.heap.objs.size:=λx c e z=>by
  obtain ⟨v,o,ho,hd⟩:=I4.cell x c e;obtain ⟨q,_⟩:=I4.pin (s.heap.objs.size,zj [] 0) (by simp);rw[z,q]at ho;cases ho;cases hd
 have fpk:∀ {H':Hp} {pl:Yd},(∀ b∈fp,H' b=none)->(∀ p∈pl,p.1=s.heap.objs.size) -> ∀ b∈fp,Bh (zP X zB scope cl s H fp) pl H' b:=λ{H' pl} hn hp b hb=>
  ⟨hn b hb,(I4.ok.exf b hb).1,I4.ok.exfs b hb,.inl hb,(I4.ok.exf b hb).2,λp hq=>by
   rcases AS.mp hq with z|z
   .exact (hf b hb).2.2.2.2.2 p z
   .intro e;have e2:=hp p z;rw[e]at e2;exact hDfp (e2▸hb)⟩
 have loop:codeAny (model X.prog X.w) X.A (.compLoop (Bl elt t1 i1 f1 t2 i2 f2 scope pos) 0 (.ref it) (.ref s.heap.objs.size) (zP X zB scope cl s H fp).env) (RR (.ref s.heap.objs.size) (s.heap.objs.size+1))
   { s with heap:=pushCells ((s.heap.push (zj [] 0)).push { cls:=.type "dict", data:=.dict #[] }) scope.names }:=by
  refine XS hs2 (λn s'=>∃ i H' ys its k,Inv (zP X zB scope cl s H fp) [(s.heap.objs.size,zj its k)] (clr own Y) H' s'/\zX ys its/\tn i s'.heap/\(∀ b∈fp,H' b=none)/\W i n ys H') ?_ m0
   ⟨0,H,[],[],0,I4,.nil,st4,λb hb=>(hf b hb).1,w0⟩
  rintro n s5 ⟨i,H5,ys,its,k,I5,r5,st5,f5,w5⟩;have pinD:∀ p∈[(s.heap.objs.size,zj its k)],p.1=s.heap.objs.size:=λp hp=>by
   have:p=(s.heap.objs.size,zj its k):=by simpa using hp
   rw[this]
  rcases turn i n ys H5 w5 with ⟨stop,hz,qq⟩|⟨go,step⟩
  .refine thn (T.done (zP X zB scope cl s H fp) rfl rfl rfl hcalm i _ s5 _ H5 _ I5 (fpk f5 pinD) st5 stop) λr s6 ⟨hr,I6⟩=>?_;subst hr;exact fin _ H5 s6 its k ys I6 r5 hz qq
  .refine thn (T.item (zP X zB scope cl s H fp) rfl rfl rfl hcalm i _ s5 _ H5 _ I5 (fpk f5 pinD) st5 go) λr s6 ⟨u,hr,h6⟩=>?_;subst hr;refine thn h6 λ_ s7 ⟨x,H7,I7,r7,y7,st7,f7⟩=>?_;have I7':=I7.pinned (fpk f7 pinD) (T.obj _ _ st7);refine thn (hg _ s7 _ H7 x u _ I7' r7 (step x H7 y7)) λ_ s8 ⟨σ8,H8,I8,x8,q8⟩=>?_;refine thn (hi _ s8 σ8 H8 _ I8 q8) λok s9 ⟨H9,I9,q9⟩=>?_;have back:∀ {σx:St} {s':Yl} {Hx:Hp} {its:Yf} {k:Nat},(clr own Y).length=σx.length->(∀ (i:Nat) v,(clr own Y)[i]?=some (some v)->σx[i]?=some (some v))->Inv (zP X zB scope cl s H fp) (Ef fp s7.heap++[(s.heap.objs.size,zj its k)]) σx Hx s'->Inv (zP X zB scope cl s H fp) [(s.heap.objs.size,zj its k)] (clr own Y) Hx s'/\tn (i+1) s'.heap /\ ∀ b∈fp,Hx b=none:=λ{σx s' Hx its k} hl hk Ix=>
    ⟨(Ix.weak hl hk).pins_of λp hp=>Ix.pin p (Ar _ (Ar _ hp)),
     T.keep _ _ _ st7 λb hb o e=>(Ix.pin (b,o) (Ar _ (Cr _ (EA hb e)))).1,λb hb=>by
     obtain ⟨o,e,d⟩:=T.obj _ _ st7 b hb;exact (Ix.pin (b,o) (Ar _ (Cr _ (EA hb e)))).2.1⟩
   have I9':Inv (zP X zB scope cl s H fp) (Ef fp s7.heap++[(s.heap.objs.size,zj its k)]) σ8 H9 s9:=I9.pins_of λp hp=>I9.pin p (Ar _ (by
    rcases AS.mp hp with z|z
    .exact Ar _ z
    .exact Cr _ z))
   cases ok with
   |false=>
    obtain ⟨m',hm,w'⟩:=q9;obtain ⟨b0,b1,b2⟩:=back (by rw[x8.1]) x8.2 I9';exact ⟨m',hm,i+1,H9,ys,its,k,b0,r5,b1,b2,w'⟩
   |true=>
    refine Zw (C:=zP X zB scope cl s H fp) rfl hcalm hi2 hg2 hc2 he (AG _) hcD (λp hp=>?_) I9' r5 q9 λs' H' its' k' zs I' rv' q'=>?_
    .rcases AS.mp hp with z|z
     .exact Ap (AH (I.pin p z).1)
     .obtain ⟨hb,_⟩:=QC z;exact Ap (ob _ hb)
    .obtain ⟨m',hm,w'⟩:=q';obtain ⟨b0,b1,b2⟩:=back (by rw[G9 own2,x8.1]) (λi v hv=>by rw[P6 own2 _ i (λz=>(GG own Y i v hv).2 (hsub i z))];exact x8.2 i v hv) I';exact ⟨rfl,m',hm,i+1,H',zs,its',k',b0,rv',b1,b2,w'⟩
 exact codeAny_compStart_list loop (T.self _ 0 _ _ _ st4 loop)
noncomputable def Nu (own own2:Yj) (wi:TI) (g:TG) (tc:TT) (wi2:TI) (g2:TG) (tc2:TT) (te:TE):TE:=λY H Q=>wi Y H λJ H1=>∃ W:Nat->Nat->List V->Hp->Prop,(∃ m,W 0 m [] H1) /\ ∀ i m ys H,W i m ys H ->
 (J.stop i H/\ys.length<=sizeLine /\ ∀ D,H D=none->Q (.ref D) (upd H D (.lst ys))) \/
 (J.go i H /\ ∀ x H',J.yld i H x H'->g x (clr own Y) H' λσ2 H2=>Ext (clr own Y) σ2/\tc σ2 H2 λb H3=>
  if b=true then tIn own2 wi2 g2 tc2 te σ2 H3 ys λzs H4=>∃ m',m'<m/\W (i+1) m' zs H4 else ∃ m',m'<m/\W (i+1) m' ys H3)
structure CompParts2 (X:Cx) (scope:Y0) (t1:Expr) (f1:Yi) (t2 i2:Expr) (f2:Yi) (elt:Expr) (g:TG) (tc:TT) (wi2:TI) (g2:TG) (tc2:TT) (te:TE):Prop where
 g:∀ zB cl s H fp,PG (zP X zB scope cl s H fp) t1 g
 c:∀ zB cl s H fp,Dt (zP X zB scope cl s H fp) f1 tc
 w2:∀ zB cl s H fp,PI (zP X zB scope cl s H fp) t2 i2 wi2
 g2:∀ zB cl s H fp,PG (zP X zB scope cl s H fp) t2 g2
 c2:∀ zB cl s H fp,Dt (zP X zB scope cl s H fp) f2 tc2
 e:∀ zB cl s H fp,PE (zP X zB scope cl s H fp) elt te
 s2:∀ zB cl s H fp x,foldedSetIterable i2 (zP X zB scope cl s H fp).env x=pure x
def aE (hsub:∀ i∈own2,i∈own) (C:CompIn X scope own) (hcalm:X.calm=true) (hi:PI X t1 i1 wi) (p:CompParts2 X scope t1 f1 t2 i2 f2 elt g tc wi2 g2 tc2 te) (hs:∀ x,foldedSetIterable i1 X.env x=pure x:=by intro _;rfl) :
  PE X (Bl elt t1 i1 f1 t2 i2 f2 scope pos) (Nu own own2 wi g tc wi2 g2 tc2 te):=by
 intro zB s Y H Q I h;obtain ⟨cl,hcl,c1,c2⟩:=C.sc.closure I;rw[eval_ListComp];refine wpAny_comprehension_free (use:=none) rfl hs hcl C.sc.kind C.sc.names (thn (hi zB s Y H _ I h) λv s1 h1=>thn h1 λitv s2 h2=>?_);obtain ⟨it,fp,tn,J,H2,e,I2,T,st2,f2,W,⟨m0,w0⟩,turn⟩:=h2;subst e;refine TL hsub C hcalm I2 T st2 f2 c1 c2 (p.g _ _ _ _ _) (p.c _ _ _ _ _) (p.w2 _ _ _ _ _) (p.g2 _ _ _ _ _) (p.c2 _ _ _ _ _) (p.e _ _ _ _ _) (p.s2 _ _ _ _ _) (RR:=λacc C r s'=>compPost (model X.prog X.w) X.A X.xe none (EP X zB Y Q) acc C r s') (QQ:=λys H=>∀ D,H D=none->Q (.ref D) (upd H D (.lst ys))) w0 turn ?_;intro σc H' s' its n ys Ic rv hz qq;obtain ⟨m,hn,_⟩:=Ic.loc;refine ⟨m,hn,λh' hs'=>?_⟩;obtain ⟨J',nD⟩:=LC I2 f2 Ic rv hz hs';exact ⟨.ref s2.heap.objs.size,_,J',rfl,qq _ nD⟩
end
end L2
namespace L3
open L2
noncomputable abbrev Sv:=List (Option V)
def IM (H:Hp) (v:Yu):Prop:=∃ a oc vs q t,v=.ref a/\H a=some (.frz oc (.ext λ_=>True))/\oc.data=.fields vs/\vs[1]?=some (.str q t)
structure Lm where
 f:Addr
 c:Value
 us:List V
set_option genInjectivity true in
inductive D where
 |non|bl (b:Bool)|int (i:Int)|str (x:Str)|tup (xs:List D)|ref (n:Nat)|fn (l:Lm) (ds:List D)
set_option genInjectivity true in
inductive MO where
 |lst (xs:List D)|fro (xs:List D)|dict (kvs:List (D × D))|dicT (kvs:List (D × D))|set (xs:List D)|froT (kvs:List (D × D))|froK (kvs:List (D × D))
mutual
def Rep (L:Yg) (H:Hp):D->V->Prop
 |.non,v=>v=.non
 |.bl b,v=>v=.bl b
 |.int i,v=>v=.int i
 |.str x,v=>v=.str x
 |.tup ds,v=>∃ a vs,v=.ref a/\H a=some (.tup vs)/\zK L H ds vs
 |.ref n,v=>∃ a,v=.ref a/\L[n]?=some a
 |.fn l ds,v=>v=.ref l.f/\IM H l.c/\zK L H ds l.us
def zK (L:Yg) (H:Hp):List D->List V->Prop
 |[],vs=>vs=[]
 |d::ds,vs=>∃ v r,vs=v::r/\Rep L H d v/\zK L H ds r
end
def zK.length:∀ {ds:List D} {vs:List V},zK L H ds vs->vs.length=ds.length
 |[],_,h=>by unfold zK at h;subst h;rfl
 |d::ds,_,h=>by
  unfold zK at h;obtain ⟨v,r,rfl,_,h2⟩:=h;simp[zK.length h2]
def zK.nil:zK L H [] []:=by unfold zK;rfl
def zK.cons (h:Rep L H d v) (t:zK L H ds vs):zK L H (d::ds) (v::vs):=by
 unfold zK;exact ⟨v,vs,rfl,h,t⟩
def zK.get:∀ {ds:List D} {vs:List V} {i:Nat} {d:D},zK L H ds vs->ds[i]?=some d -> ∃ v,vs[i]?=some v/\Rep L H d v
 |[],_,_,_,_,e=>by simp at e
 |d::ds,_,0,d',h,e=>by
  unfold zK at h;obtain ⟨v,r,rfl,h1,h2⟩:=h;simp at e;subst e;exact ⟨v,rfl,h1⟩
 |d::ds,_,i+1,d',h,e=>by
  unfold zK at h;obtain ⟨v,r,rfl,h1,h2⟩:=h;obtain ⟨u,e1,e2⟩:=zK.get (i:=i) h2 (by simpa using e);exact ⟨u,by simpa using e1,e2⟩
def zK.app:∀ {ds es:List D} {vs ws:List V},zK L H ds vs->zK L H es ws->zK L H (ds++es) (vs++ws)
 |[],_,_,_,h,t=>by unfold zK at h;subst h;exact t
 |d::ds,_,_,_,h,t=>by
  unfold zK at h;obtain ⟨v,r,rfl,h1,h2⟩:=h;exact .cons h1 (zK.app h2 t)
def zK.set (h:Rep L H d v):∀ {ds:List D} {vs:List V} (i:Nat),zK L H ds vs->zK L H (ds.set i d) (vs.set i v)
 |[],_,_,t=>by unfold zK at t;subst t;exact .nil
 |_::_,_,0,t=>by
  unfold zK at t;obtain ⟨v',r,rfl,h1,h2⟩:=t;exact .cons h h2
 |_::_,_,i+1,t=>by
  unfold zK at t;obtain ⟨v',r,rfl,h1,h2⟩:=t;exact .cons h1 (zK.set h i h2)
def zK.drop:∀ {ds:List D} {vs:List V} (n:Nat),zK L H ds vs->zK L H (ds.drop n) (vs.drop n)
 |_,_,0,t=>t
 |[],_,n+1,t=>by unfold zK at t;subst t;exact .nil
 |_::_,_,n+1,t=>by
  unfold zK at t;obtain ⟨v',r,rfl,h1,h2⟩:=t;exact zK.drop n h2
def zK.take:∀ {ds:List D} {vs:List V} (n:Nat),zK L H ds vs->zK L H (ds.take n) (vs.take n)
 |_,_,0,t=> .nil
 |[],_,n+1,t=>by unfold zK at t;subst t;exact .nil
 |_::_,_,n+1,t=>by
  unfold zK at t;obtain ⟨v',r,rfl,h1,h2⟩:=t;exact .cons h1 (zK.take n h2)
def zK.eraseIdx:∀ {ds:List D} {vs:List V} (n:Nat),zK L H ds vs->zK L H (ds.eraseIdx n) (vs.eraseIdx n)
 |[],_,n,t=>by unfold zK at t;subst t;exact .nil
 |_::_,_,0,t=>by
  unfold zK at t;obtain ⟨v',r,rfl,h1,h2⟩:=t;exact h2
 |_::_,_,n+1,t=>by
  unfold zK at t;obtain ⟨v',r,rfl,h1,h2⟩:=t;exact .cons h1 (zK.eraseIdx n h2)
def IM.keep (h:∀ a o u,H a=some (.frz o u)->H' a=some (.frz o u)) (x:IM H v):IM H' v :=
 let ⟨a,oc,vs,q,t,e1,e2,r⟩:=x;⟨a,oc,vs,q,t,e1,h _ _ _ e2,r⟩
def FU (H:Hp) (ps:Yp):Prop:=PySem.TriplesOk ps.toList /\ ∀ pos v,codeAmong pos ps.toList=some v->IM H v
def FU.keep (h:∀ a o u,H a=some (.frz o u)->H' a=some (.frz o u)) (g:FU H ps):FU H' ps :=
 ⟨g.1,λpos v e=>(g.2 pos v e).keep h⟩
abbrev NT (o:HO):Prop:=∀ ps,o≠.tbl ps
structure Stp (L:Yg) (H:Hp) (L':Yg) (H':Hp):Prop where
 pre:∃ N,L'=L++N
 new:∀ a∈L',a∈L\/H a=none
 old:∀ a o,H a=some o->a∉L->NT o->H' a=some o
 tup:∀ a xs,H a=some (.tup xs)->H' a=some (.tup xs)
 frz:∀ a o u,H a=some (.frz o u)->H' a=some (.frz o u)
 tbl:∀ a ps,H a=some (.tbl ps) -> ∃ ps',H' a=some (.tbl ps')/\(FU H ps->FU H' ps')
def Stp.refl (L:Yg) (H:Hp):Stp L H L H:=⟨⟨[],by simp⟩,λ_ h=> .inl h,λ_ _ h _ _=>h,λ_ _ h=>h,λ_ _ _ h=>h,λ_ ps h=>⟨ps,h,id⟩⟩
def Ii (hf:∀ a o u,H a=some (.frz o u)->H' a=some (.frz o u)) (h:∀ a ps,H a=some (.tbl ps)->H' a=some (.tbl ps)) :
  ∀ a ps,H a=some (.tbl ps) -> ∃ ps',H' a=some (.tbl ps')/\(FU H ps->FU H' ps'):=λa ps e=>⟨ps,h a ps e,.keep hf⟩
def Stp.trans (a:Stp L H L1 H1) (b:Stp L1 H1 L2 H2):Stp L H L2 H2:=by
 obtain ⟨N,rfl⟩:=a.pre;obtain ⟨N',rfl⟩:=b.pre;have back:∀ c,c∉L->H1 c=none->H c=none:=λc hc h1=>by
  cases q:H c with
  |none=>rfl
  |some o=>
   by_cases z:NT o
   .rw[a.old c o q hc z]at h1;cases h1
   .obtain ⟨ps,z⟩:=Classical.not_forall.mp z;rw[Classical.not_not.mp z]at q;obtain ⟨ps',e,_⟩:=a.tbl c ps q;rw[e]at h1;cases h1
 refine ⟨⟨N++N',by simp⟩,λc hc=>?_,λc o e hc nt=>?_,λc xs e=>b.tup c xs (a.tup c xs e),λc o u e=>b.frz c o u (a.frz c o u e),λc ps e=>?_⟩
 .by_cases hL:c∈L
  .exact .inl hL
  .rcases b.new c hc with z|z
   .exact a.new c z
   .exact .inr (back c hL z)
 .refine b.old c o (a.old c o e hc nt) (λz=>?_) nt;rcases a.new c z with q|q
  .exact hc q
  .rw[q]at e;cases e
 .obtain ⟨p1,e1,g1⟩:=a.tbl c ps e;obtain ⟨p2,e2,g2⟩:=b.tbl c p1 e1;exact ⟨p2,e2,λg=>g2 (g1 g)⟩
def Stp.grow (h:∀ a o,H a=some o->H' a=some o):Stp L H L H':=⟨⟨[],by simp⟩,λ_ h=> .inl h,λa o e _ _=>h a o e,λa _ e=>h a _ e,λa _ _ e=>h a _ e,Ii (λa _ _ e=>h a _ e) λa _ e=>h a _ e⟩
def Stp.bare (s:Stp [] H N H'):Stp L H L H':=⟨⟨[],by simp⟩,λ_ h=> .inl h,λa o e _ nt=>s.old a o e (by simp) nt,s.tup,s.frz,s.tbl⟩
theorem Stp.upd (h:H p=none):Stp L H L (upd H p o):=.grow λa u e=>by rw[zZ (DT e h)];exact e
def F8 {L N:Yg} {n:Nat} {a:Yt} (h:L[n]?=some a):(L++N)[n]?=some a:=by
 rw[Ai (AI.mp h).1];exact h
mutual
theorem Rep.stp {L L':Yg} {H H':Hp} (s:Stp L H L' H'):∀ {d:D} {v:V},Rep L H d v->Rep L' H' d v
 |.non,_,h=>by unfold Rep at h ⊢;exact h
 |.bl _,_,h=>by unfold Rep at h ⊢;exact h
 |.int _,_,h=>by unfold Rep at h ⊢;exact h
 |.str _,_,h=>by unfold Rep at h ⊢;exact h
 |.tup ds,_,h=>by
  unfold Rep at h ⊢;obtain ⟨a,vs,rfl,e,r⟩:=h;exact ⟨a,vs,rfl,s.tup a vs e,zK.stp s r⟩
 |.ref n,_,h=>by
  unfold Rep at h ⊢;obtain ⟨a,rfl,e⟩:=h;obtain ⟨N,rfl⟩:=s.pre;exact ⟨a,rfl,F8 e⟩
 |.fn _ ds,_,h=>by
  unfold Rep at h ⊢;exact ⟨h.1,h.2.1.keep s.frz,zK.stp s h.2.2⟩
theorem zK.stp (s:Stp L H L' H'):∀ {ds:List D} {vs:List V},zK L H ds vs->zK L' H' ds vs
 |[],_,h=>by unfold zK at h ⊢;exact h
 |d::ds,_,h=>by
  unfold zK at h ⊢;obtain ⟨v,r,rfl,h1,h2⟩:=h;exact ⟨v,r,rfl,Rep.stp s h1,zK.stp s h2⟩
end
noncomputable def Bz:D->Option Key
 |.int i=>some (.inl i)
 |.str x=>some (.inr x)
 |_=>none
noncomputable def DU:List D->Option (List Key)
 |[]=>some []
 |d::r=>match Bz d,DU r with
  |some k,some ks=>some (k::ks)
  |_,_=>none
noncomputable def tkD:D->Option (List Key)
 |.tup ds=>DU ds
 |_=>none
def Aa {κ:Type} (kf:D->Option κ) (L:Yg) (H:Hp):List (D × D)->List (κ × V)->Prop
 |[],vs=>vs=[]
 |p::r,vs=>∃ k v r',vs=(k,v)::r'/\kf p.1=some k/\Rep L H p.2 v/\Aa kf L H r r'
def Aa.stp {κ:Type} {kf:D->Option κ} {L L':Yg} {H H':Hp} (s:Stp L H L' H'):∀ {ps:List (D × D)} {vs:List (κ × V)},Aa kf L H ps vs->Aa kf L' H' ps vs
 |[],_,h=>h
 |p::r,_,h=>by
  obtain ⟨k,v,r',rfl,e,h1,h2⟩:=h;exact ⟨k,v,r',rfl,e,h1.stp s,Aa.stp s h2⟩
def Aa.length {κ:Type} {kf:D->Option κ} {L:Yg} {H:Hp}:∀ {ps:List (D × D)} {vs:List (κ × V)},Aa kf L H ps vs->vs.length=ps.length
 |[],_,h=>by unfold Aa at h;subst h;rfl
 |p::r,_,h=>by
  obtain ⟨k,v,r',rfl,e,h1,h2⟩:=h;simp[Aa.length h2]
def DK (K:Yb) (L:Yg) (H:Hp) (a:Yt):MO->Prop
 |.lst xs=>∃ vs,H a=some (.lst vs)/\zK L H xs vs
 |.fro xs=>∃ o vs,H a=some (.frz o (.lst vs))/\zK L H xs vs
 |.dict ps=>∃ vs,H a=some (.dK vs)/\Aa Bz L H ps vs
 |.dicT ps=>∃ vs,H a=some (.dT vs)/\Aa tkD L H ps vs
 |.set _=>∃ o u,H a=some (.frz o u)
 |.froT ps=>∃ o vs,H a=some (.frz o (.dT vs))/\Aa tkD L H ps vs
 |.froK ps=>∃ o vs,H a=some (.frz o (.dK vs))/\Aa Bz L H ps vs
def DK.there {K:Yb} {L:Yg} {H:Hp} {a:Yt} {m:MO} (h:DK K L H a m):∃ o,H a=some o:=by
 cases m with
 |lst xs=>obtain ⟨vs,e,_⟩:=h;exact ⟨_,e⟩
 |fro xs=>obtain ⟨o,vs,e,_⟩:=h;exact ⟨_,e⟩
 |dict ps=>obtain ⟨vs,e,_⟩:=h;exact ⟨_,e⟩
 |dicT ps=>obtain ⟨vs,e,_⟩:=h;exact ⟨_,e⟩
 |set _=>obtain ⟨o,u,e⟩:=h;exact ⟨_,e⟩
 |froT ps=>obtain ⟨o,vs,e,_⟩:=h;exact ⟨_,e⟩
 |froK ps=>obtain ⟨o,vs,e,_⟩:=h;exact ⟨_,e⟩
def DK.stp {K:Yb} {L L':Yg} {H H':Hp} {a:Yt} {m:MO} (s:Stp L H L' H') (hk:∀ o,NT o->H a=some o->H' a=some o) (h:DK K L H a m):DK K L' H' a m:=by
 cases m with
 |lst xs=>obtain ⟨vs,e,r⟩:=h;exact ⟨vs,hk _ (by intro _ z;cases z) e,r.stp s⟩
 |fro xs=>obtain ⟨o,vs,e,r⟩:=h;exact ⟨o,vs,hk _ (by intro _ z;cases z) e,r.stp s⟩
 |dict ps=>obtain ⟨vs,e,r⟩:=h;exact ⟨vs,hk _ (by intro _ z;cases z) e,r.stp s⟩
 |dicT ps=>obtain ⟨vs,e,r⟩:=h;exact ⟨vs,hk _ (by intro _ z;cases z) e,r.stp s⟩
 |set _=>obtain ⟨o,u,e⟩:=h;exact ⟨o,u,hk _ (by intro _ z;cases z) e⟩
 |froT ps=>obtain ⟨o,vs,e,r⟩:=h;exact ⟨o,vs,hk _ (by intro _ z;cases z) e,r.stp s⟩
 |froK ps=>obtain ⟨o,vs,e,r⟩:=h;exact ⟨o,vs,hk _ (by intro _ z;cases z) e,r.stp s⟩
noncomputable def QM:List Str:=["levels", "least_word", "word_into", "shows_least", "shows_into"]
def HC (K:Yb) (H:Hp):Prop:=∀ x∈QM,∀ c P,PySem.W.tabIn K x=some (c,P) -> ∃ ps,H P=some (.tbl ps)/\FU H ps
def HC.stp {K:Yb} {L L':Yg} {H H':Hp} (s:Stp L H L' H') (t:HC K H):HC K H':=λx hx c P e=>
 let ⟨ps,e1,g⟩:=t x hx c P e;let ⟨ps',e2,g2⟩:=s.tbl P ps e1
 ⟨ps',e2,g2 g⟩
structure Cor (K:Yb) (L:Yg) (M:List MO) (H:Hp):Prop where
 len:L.length=M.length
 nd:L.Nodup
 obj:∀ (n:Nat) a m,L[n]?=some a->M[n]?=some m->DK K L H a m
 tab:HC K H
def An (L:Yg) (H:Hp) (Y:List (Option D)) (τ:Sv):Prop:=τ.length=Y.length /\ ∀ (i:Nat) d,Y[i]?=some (some d) -> ∃ v,τ[i]?=some (some v)/\Rep L H d v
def An.stp (s:Stp L H L' H') (h:An L H Y τ):An L' H' Y τ :=
 ⟨h.1,λi d e=>let ⟨v,e1,r⟩:=h.2 i d e;⟨v,e1,r.stp s⟩⟩
def Cor.tracked {K:Yb} {L:Yg} {M:List MO} {H:Hp} (c:Cor K L M H) {a:Yt} (h:a∈L):∃ o,H a=some o:=by
 obtain ⟨n,hn⟩:=List.getElem?_of_mem h;have hl:n<M.length:=by rw[<-c.len];exact (AI.mp hn).1
 have m:=c.obj n a M[n] hn (AL hl);exact m.there
def Cor.grow {K:Yb} {L:Yg} {M:List MO} {H H':Hp} (c:Cor K L M H) (h:∀ a o,H a=some o->H' a=some o):Cor K L M H':=by
 exact ⟨c.len,c.nd,λn a m e1 e2=>(c.obj n a m e1 e2).stp (.grow h) λo _ e=>h a o e,c.tab.stp (Stp.grow (L:=L) h)⟩
def Cor.bare {K:Yb} {L N:Yg} {M:List MO} {H H':Hp} (c:Cor K L M H) (s:Stp [] H N H'):Cor K L M H' :=
 ⟨c.len,c.nd,λn a m e1 e2=>(c.obj n a m e1 e2).stp s.bare λo nt e=>s.old a o e (by simp) nt,c.tab.stp s⟩
theorem Cor.upd {K:Yb} {L:Yg} {M:List MO} {H:Hp} {p:Yt} {o:HO} (c:Cor K L M H) (h:H p=none):Cor K L M (upd H p o):=c.grow λa u e=>by rw[zZ (DT e h)];exact e
def Cor.write {K:Yb} {L:Yg} {M:List MO} {H:Hp} {n:Nat} {p:Yt} {xs xs':List D} {vs':List V} (c:Cor K L M H) (h1:L[n]?=some p) (h2:M[n]?=some (.lst xs)) (r:zK L H xs' vs') :
  Cor K L (M.set n (.lst xs')) (L2.upd H p (.lst vs'))/\Stp L H L (L2.upd H p (.lst vs')):=by
 obtain ⟨vs,hp,_⟩:=c.obj n p _ h1 h2;have st:Stp L H L (L2.upd H p (.lst vs')):=by
  refine ⟨⟨[],by simp⟩,λa ha=> .inl ha,λa o e ha _=>?_,λa o e=>?_,λa o u e=>?_,Ii (λa o u e=>?_) λa ps e=>?_⟩
  .rw[zZ (show a≠p from λz=>ha (by rw[z];exact Bd h1))];exact e
  all_goals (rw[zZ (GW e hp (by intro z;cases z))];exact e)
 refine ⟨⟨by simp[c.len],c.nd,λk a m e1 e2=>?_,c.tab.stp st⟩,st⟩;rw[FL]at e2;split at e2
 .rename_i hk;subst hk;rw[h1]at e1;cases e1;split at e2
  .cases e2;exact ⟨vs',Ct,r.stp st⟩
  .cases e2
 .rename_i hk;have hne:a≠p:=λz=>hk (by
   subst z;exact (List.getElem?_inj (AI.mp h1).1 c.nd).mp (h1.trans e1.symm))
  exact (c.obj k a m e1 e2).stp st λo _ e=>by rw[zZ hne];exact e
set_option genInjectivity true in
inductive EV where
 |dat (d:D)|fl (xs:List D)
def zk (H0:Hp) (L:Yg) (H:Hp):EV->V->Prop
 |.dat d,v=>Rep L H d v
 |.fl xs,v=>∃ p vs,v=.ref p/\H0 p=none/\H p=some (.lst vs)/\p∉L/\zK L H xs vs
noncomputable abbrev Sd:=List (Option D)
noncomputable abbrev Mem:=List MO
noncomputable abbrev FE:=Sd->Mem->Option (EV × Mem)
noncomputable abbrev FD:=Sd->Mem->Option (D × Mem)
noncomputable abbrev FT:=Sd->Mem->Option (Bool × Mem)
noncomputable abbrev FA:=Sd->Mem->Option (List D × Mem)
def Stp.there {L L':Yg} {H H':Hp} (s:Stp L H L' H') {p:Yt} {o:HO} (h:H p=some o) (hp:p∉L):∃ o',H' p=some o':=by
  by_cases z:NT o
  .exact ⟨o,s.old p o h hp z⟩
  . obtain ⟨ps,z⟩:=Classical.not_forall.mp z
    rw[Classical.not_not.mp z]at h;obtain ⟨ps',e,_⟩:=s.tbl p ps h;exact ⟨_,e⟩
def Stp.out (s:Stp L H L' H') (h:H p=some o) (hp:p∉L):p∉L':=λz=>by
 rcases s.new p z with q|q
 .exact hp q
 .rw[h]at q;cases q
def zk.stp (s:Stp L H L' H') (h:zk H0 L H e v):zk H0 L' H' e v:=by
 cases e with
 |dat d=>exact Rep.stp s h
 |fl xs=>
  obtain ⟨p,vs,rfl,e0,e1,e2,r⟩:=h;exact ⟨p,vs,rfl,e0,s.old p _ e1 e2 (by intro _ z;cases z),s.out e1 e2,r.stp s⟩
def zk.back {H0 H1:Hp} {L0 L1 L:Yg} {H:Hp} (s:Stp L0 H0 L1 H1) {M:List MO} {K:Yb} (c:Cor K L0 M H0) {e:EV} {v:V} (h:zk H1 L H e v) (hL:∀ a∈L1,a∈L):zk H0 L H e v:=by
 cases e with
 |dat d=>exact h
 |fl xs=>
  obtain ⟨p,vs,rfl,e0,e1,e2,r⟩:=h;refine ⟨p,vs,rfl,?_,e1,e2,r⟩;cases q:H0 p with
  |none=>rfl
  |some o=>
   by_cases hp:p∈L0
   .obtain ⟨N,hN⟩:=s.pre;exact absurd (hL p (by rw[hN];exact Cr _ hp)) e2
   .obtain ⟨o',z⟩:=s.there q hp;rw[z]at e0;cases e0
section
variable (K:Yb)
noncomputable def trE (f:FE):TE:=λτ H Q=>∃ L Y M d M',Cor K L M H/\An L H Y τ/\f Y M=some (d,M') /\ ∀ L' H' v,Stp L H L' H'->Cor K L' M' H'->zk H L' H' d v->Q v H'
noncomputable def trD (f:FD):TE:=λτ H Q=>∃ L Y M d M',Cor K L M H/\An L H Y τ/\f Y M=some (d,M') /\ ∀ L' H' v,Stp L H L' H'->Cor K L' M' H'->Rep L' H' d v->Q v H'
noncomputable def trT (f:FT):TT:=λτ H Q=>∃ L Y M d M',Cor K L M H/\An L H Y τ/\f Y M=some (d,M') /\ ∀ L' H',Stp L H L' H'->Cor K L' M' H'->Q d H'
noncomputable def trA (f:FA):TA:=λτ H Q=>∃ L Y M ds M',Cor K L M H/\An L H Y τ/\f Y M=some (ds,M') /\ ∀ L' H' vs,Stp L H L' H'->Cor K L' M' H'->zK L' H' ds vs->Q vs H'
end
def mkE {K:Yb} {f:FE} {τ:Sv} {H:Hp} {Q:VK} {Y:Sd} {M M':Mem} {d:EV} (c:Cor K L M H) (r:An L H Y τ) (e:f Y M=some (d,M')) (q:∀ L' H' v,Stp L H L' H'->Cor K L' M' H'->zk H L' H' d v->Q v H'):trE K f τ H Q:=⟨_,_,_,_,_,c,r,e,q⟩
def mkD {K:Yb} {f:FD} {τ:Sv} {H:Hp} {Q:VK} {Y:Sd} {M M':Mem} {d:D} (c:Cor K L M H) (r:An L H Y τ) (e:f Y M=some (d,M')) (q:∀ L' H' v,Stp L H L' H'->Cor K L' M' H'->Rep L' H' d v->Q v H'):trD K f τ H Q:=⟨_,_,_,_,_,c,r,e,q⟩
def mkT {K:Yb} {f:FT} {τ:Sv} {H:Hp} {Q} {Y:Sd} {M M':Mem} {d} (c:Cor K L M H) (r:An L H Y τ) (e:f Y M=some (d,M')) (q:∀ L' H',Stp L H L' H'->Cor K L' M' H'->Q d H'):trT K f τ H Q:=⟨_,_,_,_,_,c,r,e,q⟩
def mkA {K:Yb} {f:FA} {τ:Sv} {H:Hp} {Q} {Y:Sd} {M M':Mem} {ds} (c:Cor K L M H) (r:An L H Y τ) (e:f Y M=some (ds,M')) (q:∀ L' H' vs,Stp L H L' H'->Cor K L' M' H'->zK L' H' ds vs->Q vs H'):trA K f τ H Q:=⟨_,_,_,_,_,c,r,e,q⟩
def PE.imp (h:PE X e t) (hi:∀ τ H Q,t' τ H Q->t τ H Q):PE X e t':=λzB s Y H Q I q=>h zB s Y H Q I (hi _ _ _ q)
def PT.imp (h:PT X e t) (hi:∀ τ H Q,t' τ H Q->t τ H Q):PT X e t':=λzB s Y H Q I q=>h zB s Y H Q I (hi _ _ _ q)
def PS.imp {st:Stmt} {t t':TS} (h:PS X st t) (hi:∀ D τ H,t' D τ H->t D τ H):PS X st t':=λzB s Y H D I q=>h zB s Y H D I (hi _ _ _ q)
def PSs.imp {st:Yy} {t t':TS} (h:PSs X st t) (hi:∀ D τ H,t' D τ H->t D τ H):PSs X st t':=λzB s Y H D I q=>h zB s Y H D I (hi _ _ _ q)
structure QE (X:Cx) (e:Expr) (f:FE):Prop where
 un:PE X e (trE X.K f)
structure QD (X:Cx) (e:Expr) (f:FD):Prop where
 un:PE X e (trD X.K f)
structure QT (X:Cx) (e:Expr) (f:FT):Prop where
 un:PT X e (trT X.K f)
structure QA (X:Cx) (es:Yi) (f:FA):Prop where
 un:PA X es (trA X.K f)
noncomputable def toD (f:FE):FD:=λY M=>match f Y M with
 |some (.dat d,M')=>some (d,M')
 |some (.fl xs,M')=>some (.ref M'.length,M'++[.lst xs])
 |none=>none
mutual
theorem Rep.more (N:Yg):∀ {d:D} {v:V},Rep L H d v->Rep (L++N) H d v
 |.non,_,h=>by unfold Rep at h ⊢;exact h
 |.bl _,_,h=>by unfold Rep at h ⊢;exact h
 |.int _,_,h=>by unfold Rep at h ⊢;exact h
 |.str _,_,h=>by unfold Rep at h ⊢;exact h
 |.tup ds,_,h=>by
  unfold Rep at h ⊢;obtain ⟨a,vs,rfl,e,r⟩:=h;exact ⟨a,vs,rfl,e,zK.more N r⟩
 |.ref n,_,h=>by
  unfold Rep at h ⊢;obtain ⟨a,rfl,e⟩:=h;exact ⟨a,rfl,F8 e⟩
 |.fn _ ds,_,h=>by
  unfold Rep at h ⊢;exact ⟨h.1,h.2.1,zK.more N h.2.2⟩
theorem zK.more (N:Yg):∀ {ds:List D} {vs:List V},zK L H ds vs->zK (L++N) H ds vs
 |[],_,h=>by unfold zK at h ⊢;exact h
 |d::ds,_,h=>by
  unfold zK at h ⊢;obtain ⟨v,r,rfl,h1,h2⟩:=h;exact ⟨v,r,rfl,Rep.more N h1,zK.more N h2⟩
end
def Aa.more {κ:Type} {kf:D->Option κ} {L:Yg} {H:Hp} (N:Yg):∀ {ps:List (D × D)} {vs:List (κ × V)},Aa kf L H ps vs->Aa kf (L++N) H ps vs
 |[],_,h=>h
 |p::r,_,h=>by
  obtain ⟨k,v,r',rfl,e,h1,h2⟩:=h;exact ⟨k,v,r',rfl,e,h1.more N,Aa.more N h2⟩
def DK.more {K:Yb} {L:Yg} {H:Hp} {a:Yt} {m:MO} (N:Yg) (h:DK K L H a m):DK K (L++N) H a m:=by
 cases m with
 |lst xs=>obtain ⟨vs,e,r⟩:=h;exact ⟨vs,e,r.more N⟩
 |fro xs=>obtain ⟨o,vs,e,r⟩:=h;exact ⟨o,vs,e,r.more N⟩
 |dict ps=>obtain ⟨vs,e,r⟩:=h;exact ⟨vs,e,r.more N⟩
 |dicT ps=>obtain ⟨vs,e,r⟩:=h;exact ⟨vs,e,r.more N⟩
 |set _=>exact h
 |froT ps=>obtain ⟨o,vs,e,r⟩:=h;exact ⟨o,vs,e,r.more N⟩
 |froK ps=>obtain ⟨o,vs,e,r⟩:=h;exact ⟨o,vs,e,r.more N⟩
def Pq {K:Yb} {L L':Yg} {M':List MO} {H H':Hp} {p:Yt} {xs:List D} {vs:List V} (s:Stp L H L' H') (c:Cor K L' M' H') (h0:H p=none) (h1:H' p=some (.lst vs)) (h2:p∉L') (r:zK L' H' xs vs) :
  Cor K (L'++[p]) (M'++[.lst xs]) H'/\Stp L H (L'++[p]) H':=by
 refine ⟨⟨by simp[c.len],?_,λn a m e1 e2=>?_,c.tab⟩,?_⟩
 .rw[E9];exact ⟨c.nd,by simp,λa ha b hb z=>by
   have:b=p:=by simpa using hb
   subst this;subst z;exact h2 ha⟩
 .by_cases hn:n<L'.length
  .rw[Ai hn]at e1;rw[Ai (by rw[<-c.len];exact hn)]at e2;exact (c.obj n a m e1 e2).more [p]
  .have hn':n=L'.length:=by
    have:=(AI.mp e1).1;rw[AN]at this;simp at this;omega
   subst hn';simp at e1;rw[c.len]at e2;simp at e2;subst e1;subst e2;exact ⟨vs,h1,r.more [p]⟩
 .obtain ⟨N,hN⟩:=s.pre;refine ⟨⟨N++[p],by rw[hN];simp⟩,λa ha=>?_,s.old,s.tup,s.frz,s.tbl⟩;rcases AS.mp ha with z|z
  .exact s.new a z
  .have:a=p:=by simpa using z
   subst this;exact .inr h0
def Rep.last {L:Yg} {M:List MO} {H:Hp} {K:Yb} {p:Yt} (c:Cor K L M H):Rep (L++[p]) H (.ref M.length) (.ref p):=by
 unfold Rep;exact ⟨p,rfl,by rw[<-c.len];simp⟩
def Bt {f:FE} (h:QE X e f):QD X e (toD f):=.mk <| PE.imp h.un λτ H Q zz=>by
 obtain ⟨L,Y,M,d,M',c,rs,hf,q⟩:=zz;unfold toD at hf;split at hf
 .rename_i d' M1 e1;cases hf;exact ⟨L,Y,M,_,_,c,rs,e1,λL' H' v s c' r=>q L' H' v s c' r⟩
 .rename_i xs M1 e1;cases hf;refine ⟨L,Y,M,_,_,c,rs,e1,λL' H' v s c' r=>?_⟩;obtain ⟨p,vs,rfl,e0,e2,e3,r⟩:=r;obtain ⟨c2,s2⟩:=Pq s c' e0 e2 e3 r;exact q _ H' _ s2 c2 (Rep.last c')
 .cases hf
noncomputable def zC (i:Nat):FE:=λY M=>match Y[i]? with
 |some (some d)=>some (.dat d,M)
 |_=>none
def YT (h:PE X (.Name x pos) (Ly i)):QE X (.Name x pos) (zC i):=.mk <| PE.imp h λτ H Q zz=>by
 obtain ⟨L,Y,M,d,M',c,rs,hf,q⟩:=zz;unfold zC at hf;split at hf
 .rename_i d' e1;cases hf;obtain ⟨v,e2,r⟩:=rs.2 i d' e1;exact ⟨v,e2,q L H v (.refl L H) c r⟩
 .cases hf
noncomputable def fC (d:D):FE:=λ_ M=>some (.dat d,M)
def IW (hd:∀ L H,Rep L H d v) (h:PE X e (tC v)):QE X e (fC d):=.mk <| PE.imp h λτ H Q zz=>by
 obtain ⟨L,Y,M,d',M',c,rs,hf,q⟩:=zz;unfold fC at hf;cases hf;exact q L H v (.refl L H) c (hd L H)
def Rz {i j pos}:QE X (.Constant (.int i) j pos) (fC (.int i)):=IW (λ_ _=>by unfold Rep;rfl) cQ
def V1 {b j pos}:QE X (.Constant (.bool b) j pos) (fC (.bl b)):=IW (λ_ _=>by unfold Rep;rfl) TC
def Xr {j pos}:QE X (.Constant .none j pos) (fC .non):=IW (λ_ _=>by unfold Rep;rfl) XF
def fA {x j pos}:QE X (.Constant (.str x) j pos) (fC (.str x)):=IW (λ_ _=>by unfold Rep;rfl) Vz
noncomputable def zG:FA:=λ_ M=>some ([],M)
noncomputable def zD (f:FD) (g:FA):FA:=λY M=>match f Y M with
 |some (d,M1)=>match g Y M1 with
  |some (ds,M2)=>some (d::ds,M2)
  |none=>none
 |none=>none
def PA.imp (h:PA X es t) (hi:∀ τ H Q,t' τ H Q->t τ H Q):PA X es t':=λpos zB s Y H Q I q=>h pos zB s Y H Q I (hi _ _ _ q)
def Rb:QA X [] zG:=.mk <| PA.imp HW λτ H Q zz=>by
 obtain ⟨L,Y,M,d,M',c,rs,hf,q⟩:=zz;unfold zG at hf;cases hf;exact q L H [] (.refl L H) c .nil
def dI (h1:QD X e f) (h2:QA X es g) (hs:starEach (e::es) X.env=(false,eval e X.env)::starEach es X.env:=by rfl):QA X (e::es) (zD f g) :=
 .mk <| PA.imp (Gm h1.un h2.un hs) λτ H Q zz=>by
  obtain ⟨L,Y,M,d,M',c,rs,hf,q⟩:=zz;unfold zD at hf;split at hf
  .rename_i d1 M1 e1;split at hf
   .rename_i ds M2 e2;cases hf;refine ⟨L,Y,M,_,_,c,rs,e1,λL1 H1 v s1 c1 r1=>⟨L1,Y,M1,_,_,c1,rs.stp s1,e2,λL2 H2 vs s2 c2 r2=>?_⟩⟩;exact q L2 H2 _ (s1.trans s2) c2 (.cons (r1.stp s2) r2)
   .cases hf
  .cases hf
noncomputable def A8 (g:FA):FE:=λY M=>match g Y M with
 |some (ds,M1)=>if ds.length<=sizeLine then some (.dat (.tup ds),M1) else none
 |none=>none
noncomputable def AQ (g:FA):FE:=λY M=>match g Y M with
 |some (ds,M1)=>if ds.length<=sizeLine then some (.fl ds,M1) else none
 |none=>none
def Rep.newTup (h:H p=none) (r:zK L H ds vs):Rep L (upd H p (.tup vs)) (.tup ds) (.ref p):=by
 unfold Rep;exact ⟨p,vs,rfl,Ct,r.stp (.upd h)⟩
def ZJ {x1 pos} (h:QA X es g):QE X (.Tuple es x1 pos) (A8 g):=.mk <| PE.imp (fP h.un) λτ H Q zz=>by
 obtain ⟨L,Y,M,d,M',c,rs,hf,q⟩:=zz;unfold A8 at hf;split at hf
 .rename_i ds M1 e1;split at hf
  .rename_i hz;cases hf;refine ⟨L,Y,M,_,_,c,rs,e1,λL1 H1 vs s1 c1 r1=>⟨by rw[r1.length];exact hz,λp hp=>?_⟩⟩;exact q L1 _ _ (s1.trans (.upd hp)) (c1.upd hp) (Rep.newTup hp r1)
  .cases hf
 .cases hf
def fS {L L1:Yg} {H H1:Hp} {K:Yb} {M M1:List MO} (s:Stp L H L1 H1) (c:Cor K L M H) (c1:Cor K L1 M1 H1) {p:Yt} (hp:H1 p=none):H p=none/\p∉L1:=by
 have hp1:p∉L1:=λz=>by obtain ⟨o,e⟩:=c1.tracked z;rw[hp]at e;cases e
 refine ⟨?_,hp1⟩;cases q:H p with
 |none=>rfl
 |some o=>
  have:p∉L:=λz=>hp1 (by obtain ⟨N,hN⟩:=s.pre;rw[hN];exact Cr _ z);obtain ⟨o',z⟩:=s.there q this;rw[z]at hp;cases hp
def zk.newLst {L L1:Yg} {H H1:Hp} {K:Yb} {M M1:List MO} {p:Yt} {ds:List D} {vs:List V} (s:Stp L H L1 H1) (c:Cor K L M H) (c1:Cor K L1 M1 H1) (hp:H1 p=none) (r:zK L1 H1 ds vs) :
  zk H L1 (upd H1 p (.lst vs)) (.fl ds) (.ref p):=by
 obtain ⟨a,b⟩:=fS s c c1 hp;exact ⟨p,vs,rfl,a,Ct,b,r.stp (.upd hp)⟩
def RV {pos} (h:QA X es g):QE X (.List es pos) (AQ g):=.mk <| PE.imp (ZQ h.un) λτ H Q zz=>by
 obtain ⟨L,Y,M,d,M',c,rs,hf,q⟩:=zz;unfold AQ at hf;split at hf
 .rename_i ds M1 e1;split at hf
  .rename_i hz;cases hf;refine ⟨L,Y,M,_,_,c,rs,e1,λL1 H1 vs s1 c1 r1=>⟨by rw[r1.length];exact hz,λp hp=>?_⟩⟩;exact q L1 _ _ (s1.trans (.upd hp)) (c1.upd hp) (zk.newLst s1 c c1 hp r1)
  .cases hf
 .cases hf
noncomputable abbrev FAE:=Sd->Mem->Option (List EV × Mem)
def C9 (H0:Hp) (L:Yg) (H:Hp):List EV->List V->Prop
 |[],vs=>vs=[]
 |e::es,vs=>∃ v r,vs=v::r/\zk H0 L H e v/\C9 H0 L H es r
def Stp.sub (s:Stp L H L' H'):∀ a∈L,a∈L':=λa h=>by
 obtain ⟨N,hN⟩:=s.pre;rw[hN];exact Cr _ h
def C9.back {H0 H1:Hp} {L0 L1 L:Yg} {H:Hp} (s:Stp L0 H0 L1 H1) {M:List MO} {K:Yb} (c:Cor K L0 M H0) (hL:∀ a∈L1,a∈L):∀ {es:List EV} {vs:List V},C9 H1 L H es vs->C9 H0 L H es vs
 |[],_,h=>h
 |e::es,_,h=>by
  obtain ⟨v,r,rfl,h1,h2⟩:=h;exact ⟨v,r,rfl,h1.back s c hL,C9.back s c hL h2⟩
noncomputable def Nk (K:Yb) (f:FAE):TA:=λτ H Q=>∃ L Y M ds M',Cor K L M H/\An L H Y τ/\f Y M=some (ds,M') /\ ∀ L' H' vs,Stp L H L' H'->Cor K L' M' H'->C9 H L' H' ds vs->Q vs H'
structure QAE (X:Cx) (es:Yi) (f:FAE):Prop where
 un:PA X es (Nk X.K f)
section
variable {X:Cx} {a b e:Expr} {es:Yi} {pos:Pos}
noncomputable def zJ:FAE:=λ_ M=>some ([],M)
noncomputable def zE (f:FE) (g:FAE):FAE:=λY M=>match f Y M with
 |some (d,M1)=>match g Y M1 with
  |some (ds,M2)=>some (d::ds,M2)
  |none=>none
 |none=>none
def UY:QAE X [] zJ:=.mk <| PA.imp HW λτ H Q zz=>by
 obtain ⟨L,Y,M,d,M',c,rs,hf,q⟩:=zz;unfold zJ at hf;cases hf;exact q L H [] (.refl L H) c rfl
def Q8 (h1:QE X e f) (h2:QAE X es g) (hs:starEach (e::es) X.env=(false,eval e X.env)::starEach es X.env:=by rfl):QAE X (e::es) (zE f g) :=
 .mk <| PA.imp (Gm h1.un h2.un hs) λτ H Q zz=>by
  obtain ⟨L,Y,M,d,M',c,rs,hf,q⟩:=zz;unfold zE at hf;split at hf
  .rename_i d1 M1 e1;split at hf
   .rename_i ds M2 e2;cases hf;refine ⟨L,Y,M,_,_,c,rs,e1,λL1 H1 v s1 c1 r1=>⟨L1,Y,M1,_,_,c1,rs.stp s1,e2,λL2 H2 vs s2 c2 r2=>?_⟩⟩;exact q L2 H2 _ (s1.trans s2) c2 ⟨v,vs,rfl,r1.stp s2,r2.back s1 c s2.sub⟩
   .cases hf
  .cases hf
noncomputable abbrev K2:=EV->EV->Mem->Option (EV × Mem)
def BL (K:Yb) (r:R2) (k:K2):Prop:=∀ {L:Yg} {M M':Mem} {H H0:Hp} {x y d:EV} {v w:V} {Q:VK},Cor K L M H->zk H0 L H x v->zk H0 L H y w->k x y M=some (d,M') ->
 (∀ L' H' u,Stp L H L' H'->Cor K L' M' H'->zk H L' H' d u->Q u H')->r v w H Q
noncomputable def fOp (k:K2) (f g:FE):FE:=λY M=>match f Y M with
 |some (x,M1)=>match g Y M1 with
  |some (y,M2)=>k x y M2
  |none=>none
 |none=>none
def Fu {K:Yb} {r:R2} {k:K2} {f g:FE} (hk:BL K r k) {τ:Sv} {H:Hp} {Q:VK} (h:trE K (fOp k f g) τ H Q):tOp r (trE K f) (trE K g) τ H Q:=by
 obtain ⟨L,Y,M,d,M',c,rs,hf,q⟩:=h;unfold fOp at hf;split at hf
 .rename_i x M1 e1;split at hf
  .rename_i y M2 e2;refine (mkE c rs e1 (λL1 H1 v s1 c1 r1=>(mkE c1 (rs.stp s1) e2 (λL2 H2 w s2 c2 r2=>?_))));refine hk (H0:=H) c2 (r1.stp s2) (r2.back s1 c s2.sub) hf λL3 H3 u s3 c3 r3=>?_;exact q L3 H3 u ((s1.trans s2).trans s3) c3 (r3.back (s1.trans s2) c s3.sub)
  .cases hf
 .cases hf
def Fm (hk:BL X.K r k) (ho:OpR X (binaryOp op) r) (h1:QE X a f) (h2:QE X b g):QE X (.BinOp a op b pos) (fOp k f g):=.mk <| PE.imp (UI ho h1.un h2.un) λ_ _ _ h=>Fu hk h
def J6 (hk:BL X.K r k) (ho:OpR X (compareOp op) r) (h1:QE X a f) (h2:QE X b g) (hm:behindInMarks op b=false):QE X (.Compare a [op] [b] pos) (fOp k f g) :=
 .mk <| PE.imp (aW ho h1.un h2.un hm) λ_ _ _ h=>Fu hk h
noncomputable def tst (f:FE):FT:=λY M=>match f Y M with
 |some (.dat (.bl c),M')=>some (c,M')
 |_=>none
def MU {K:Yb} {f:FE} {τ:Sv} {H:Hp} {Q:Bool->Hp->Prop} (h:trT K (tst f) τ H Q):Ij (trE K f) τ H Q:=by
 obtain ⟨L,Y,M,d,M',c,rs,hf,q⟩:=h;unfold tst at hf;split at hf
 .rename_i k M1 e1;cases hf;refine (mkE c rs e1 (λL1 H1 v s1 c1 r1=>?_));have:v=.bl d:=by unfold zk Rep at r1;exact r1
  exact ⟨d,this,q L1 H1 s1 c1⟩
 .cases hf
def Qf (h:∀ τ H Q,t τ H Q->t' τ H Q) (q:Ij t τ H Q):Ij t' τ H Q:=h _ _ _ q
def G2 {op:CmpOp} {r:R2} {k:K2} {f g:FE} (hk:BL X.K r k) (ho:OpR X (compareOp op) r) (h1:QE X a f) (h2:QE X b g) (hm:behindInMarks op b=false):QT X (.Compare a [op] [b] pos) (tst (fOp k f g)) :=
 .mk <| PT.imp (gM ho h1.un h2.un hm) λ_ _ _ h=>Qf (λ_ _ _ z=>Fu hk z) (MU h)
def Tf (h:QE X e f) (he:∀ whole,isTrue e X.env whole=(do let v <- whole;standAt e.pos;holding [v] (truthy v)):=by intro _;rfl):QT X e (tst f) :=
 .mk <| PT.imp (XM h.un he) λ_ _ _ h=>MU h
noncomputable def kI (C:Int->Int->Bool) (g:Int->Int->D):K2:=λx y M=>match x,y with
 |.dat (.int i),.dat (.int j)=>if C i j then some (.dat (g i j),M) else none
 |_,_=>none
noncomputable def kI0 (g:Int->Int->D):K2:=kI (λ_ _=>true) g
def IP {K:Yb} {C:Int->Int->Bool} {C':Int->Int->Prop} {g:Int->Int->D} {g':Int->Int->V} (hC:∀ i j,C i j=true->C' i j) (hg:∀ L H i j,Rep L H (g i j) (g' i j)):BL K (rI C' g') (kI C g):=by
 intro L M M' H H0 x y d v w Q c rx ry hk q;unfold kI at hk;split at hk
 .rename_i i j;split at hk
  .rename_i hc;cases hk;refine ⟨i,j,by unfold zk Rep at rx;exact rx,by unfold zk Rep at ry;exact ry,hC i j hc,q L H _ (.refl L H) c (hg L H i j)⟩
  .cases hk
 .cases hk
def Fl {K:Yb} {g:Int->Int->D} {g':Int->Int->V} (hg:∀ L H i j,Rep L H (g i j) (g' i j)):BL K (rI0 g') (kI0 g):=by
 intro L M M' H H0 x y d v w Q c rx ry hk q;obtain ⟨i,j,h1,h2,_,h4⟩:=IP (C:=λ_ _=>true) (C':=λ_ _=>True) (λ_ _ _=>trivial) hg c rx ry hk q;exact ⟨i,j,h1,h2,h4⟩
def Cs:Rep L H (.int i) (.int i):=by unfold Rep;rfl
def Ce:Rep L H (.bl i) (.bl i):=by unfold Rep;rfl
noncomputable def Hd (i j:Int):Bool:=(decide (-(2 ^ 64)<i)&&decide (i<2 ^ 64))||(decide (-(2 ^ 64)<j)&&decide (j<2 ^ 64))
noncomputable abbrev ZA:K2:=kI0 λi j=> .int (i+j)
noncomputable abbrev CU:K2:=kI0 λi j=> .int (i-j)
noncomputable abbrev Ex:K2:=kI Hd λi j=> .int (i*j)
noncomputable abbrev Cf:K2:=kI (λ_ j=>decide (0<j)) λi j=> .int (i % j)
noncomputable abbrev GL:K2:=kI (λ_ j=>decide (0<j)&&decide (j<1073741824)) λi j=> .int (i / j)
noncomputable abbrev Gq:K2:=kI (λi j=>decide (0<=j)&&decide (j<=1000000)&&decide (i.natAbs<2 ^ 64)) λi j=> .int (i ^ j.toNat)
noncomputable abbrev kLt:K2:=kI0 λi j=> .bl (decide (i<j))
noncomputable abbrev kLe:K2:=kI0 λi j=> .bl (decide (i<=j))
noncomputable abbrev kGt:K2:=kI0 λi j=> .bl (decide (j<i))
section
variable {f g:FE}
def UK (h1:QE X a f) (h2:QE X b g):QE X (.BinOp a .Sub b pos) (fOp CU f g):=Fm (Fl λ_ _ _ _=>Cs) Xl h1 h2
def XW (h1:QE X a f) (h2:QE X b g):QE X (.BinOp a .Mult b pos) (fOp Ex f g):=Fm (IP (λi j h=>by
 unfold Hd at h;simp only[Bool.or_eq_true,Am,DS]at h;exact h) λ_ _ _ _=>Cs) Xy h1 h2
def fQ (h1:QE X a f) (h2:QE X b g):QE X (.BinOp a .Mod b pos) (fOp Cf f g):=Fm (IP (λi j h=>CG h) λ_ _ _ _=>Cs) fT h1 h2
def Rn (h1:QE X a f) (h2:QE X b g):QE X (.BinOp a .FloorDiv b pos) (fOp GL f g):=Fm (IP (λi j h=>by
 simp only[Am,DS]at h;exact h) λ_ _ _ _=>Cs) dR h1 h2
def UZ (h1:QE X a f) (h2:QE X b g):QE X (.BinOp a .Pow b pos) (fOp Gq f g):=Fm (IP (λi j h=>by
 simp only[Am,DS]at h;exact ⟨h.1.1,h.1.2,h.2⟩) λ_ _ _ _=>Cs) ZO h1 h2
def SR (h1:QE X a f) (h2:QE X b g):QE X (.Compare a [.Lt] [b] pos) (fOp kLt f g):=J6 (Fl λ_ _ _ _=>Ce) LG h1 h2 (F0 _)
def Wo (h1:QE X a f) (h2:QE X b g):QE X (.Compare a [.LtE] [b] pos) (fOp kLe f g):=J6 (Fl λ_ _ _ _=>Ce) OP h1 h2 (F0 _)
def WT (h1:QE X a f) (h2:QE X b g):QT X (.Compare a [.Lt] [b] pos) (tst (fOp kLt f g)):=G2 (Fl λ_ _ _ _=>Ce) LG h1 h2 (F0 _)
def T4 (h1:QE X a f) (h2:QE X b g):QT X (.Compare a [.Gt] [b] pos) (tst (fOp kGt f g)):=G2 (Fl λ_ _ _ _=>Ce) aA h1 h2 (F0 _)
end
end
noncomputable def CJ (M:Mem):EV->Option (List D)
 |.fl xs=>some xs
 |.dat (.ref n)=>match M[n]? with
  |some (.lst xs)=>some xs
  |some (.fro xs)=>some xs
  |_=>none
 |_=>none
noncomputable def Cu:EV->Option (List D)
 |.dat (.tup xs)=>some xs
 |_=>none
noncomputable def Az (M:Mem) (x:EV):Option (List D):=match Cu x with
 |some xs=>some xs
 |none=>CJ M x
def Et {K:Yb} {L:Yg} {M:Mem} {H H0:Hp} {x:EV} {v:V} {xs:List D} (c:Cor K L M H) (r:zk H0 L H x v) (h:CJ M x=some xs):∃ a vs,v=.ref a/\Rd H a (.lst vs)/\zK L H xs vs:=by
 cases x with
 |fl ys=>
  cases h;obtain ⟨p,vs,rfl,_,e,_,r⟩:=r;exact ⟨p,vs,rfl,.inl e,r⟩
 |dat d=>
  cases d with
  |ref n=>
   unfold zk Rep at r;obtain ⟨a,rfl,e⟩:=r;unfold CJ at h;dsimp only at h;cases q:M[n]? with
   |none=>rw[q]at h;cases h
   |some m=>
    rw[q]at h;have z:=c.obj n a m e q;cases m with
    |lst ys=>cases h;obtain ⟨vs,e1,r1⟩:=z;exact ⟨a,vs,rfl,.inl e1,r1⟩
    |fro ys=>cases h;obtain ⟨o,vs,e1,r1⟩:=z;exact ⟨a,vs,rfl,.inr ⟨o,e1⟩,r1⟩
    |dict _=>cases h
    |dicT _=>cases h
    |set _=>cases h
    |froT _=>cases h
    |froK _=>cases h
  |_=>cases h
def Fi {L:Yg} {H H0:Hp} {x:EV} {v:V} {xs:List D} (r:zk H0 L H x v) (h:Cu x=some xs):∃ a vs,v=.ref a/\H a=some (.tup vs)/\zK L H xs vs:=by
 cases x with
 |fl ys=>cases h
 |dat d=>
  cases d with
  |tup ys=>cases h;unfold zk Rep at r;exact r
  |_=>cases h
def F6 {K:Yb} {L:Yg} {M:Mem} {H H0:Hp} {x:EV} {v:V} {xs:List D} (c:Cor K L M H) (r:zk H0 L H x v) (h:Az M x=some xs):∃ a vs,v=.ref a/\(SqL K H a vs\/SqT K H a vs)/\zK L H xs vs:=by
 unfold Az at h;cases q:Cu x with
 |some ys=>
  rw[q]at h;cases h;obtain ⟨a,vs,e,h1,h2⟩:=Fi r q;exact ⟨a,vs,e,.inr (.of h1),h2⟩
 |none=>
  rw[q]at h;obtain ⟨a,vs,e,h1,h2⟩:=Et c r h;exact ⟨a,vs,e,.inl (.inl h1),h2⟩
def XA {L:Yg} {H:Hp} {xs:List D} {vs:List V} {i:Int} {d:D} (r:zK L H xs vs) (h:atI xs i=some d):∃ v,atI vs i=some v/\Rep L H d v:=by
 unfold atI at h ⊢;rw[r.length];cases q:ixN xs.length i with
 |none=>rw[q]at h;cases h
 |some j=>rw[q]at h;exact r.get h
def Tp {L:Yg} {H:Hp} {i:Str}:Rep L H (.str i) (.str i):=by unfold Rep;rfl
noncomputable def kIx:K2:=λx y M=>match y with
 |.dat (.int i)=>match Az M x with
  |some xs=>match atI xs i with
   |some d=>some (.dat d,M)
   |none=>none
  |none=>match x with
   |.dat (.str z)=>if z.length<=sizeLine then match atI z.cps.toList i with
     |some c=>some (.dat (.str ⟨#[c]⟩),M)
     |none=>none
    else none
   |_=>none
 |_=>none
def Tv {K:Yb}:BL K (rIx K) kIx:=by
 intro L M M' H H0 x y d v w Q c rx ry hk q;unfold kIx at hk;split at hk
 .rename_i i;have ew:w=.int i:=by unfold zk Rep at ry;exact ry
  split at hk
  .rename_i xs e1;split at hk
   .rename_i d' e2;cases hk;obtain ⟨a,vs,rfl,hs,r⟩:=F6 c rx e1;obtain ⟨u,e3,r3⟩:=XA r e2;rcases hs with hs|hs
    .exact .inl ⟨a,vs,i,u,rfl,ew,hs,e3,q L H u (.refl L H) c r3⟩
    .exact .inr (.inl ⟨a,vs,i,u,rfl,ew,hs,e3,q L H u (.refl L H) c r3⟩)
   .cases hk
  .split at hk
   .rename_i z _;split at hk
    .rename_i hz;split at hk
     .rename_i ch e2;cases hk;have ev:v=.str z:=by unfold zk Rep at rx;exact rx
      exact .inr (.inr ⟨z,i,ch,ev,ew,hz,e2,q L H _ (.refl L H) c (Tp (L:=L) (H:=H))⟩)
     .cases hk
    .cases hk
   .cases hk
 .cases hk
section
variable {prog:Ym} {w:Yo} {A:Yn} {E:Yc} {s:Yl}
def XG {t sl:Yt} {items:Yp} {vl vu:Yu} {lo hi:Ys} {Q:Yc} (T:IsTup s.heap t items) (S:s.heap.IsSliceOf sl vl vu .none) (pl:IsPart vl lo) (pu:IsPart vu hi)
  (h1:HT.sIx items.size 0 lo=0) (h2:HT.sIx items.size items.size hi=items.size) (h:Q (.ref t) s):wpAny (model prog w) A (getItem (.ref t) (.ref sl)) Q E s:=by
 obtain ⟨o,O,C,G⟩:=id S;have TS:s.TypeIs (.ref sl) "slice" := ⟨o,O,C⟩;unfold getItem;try with_reducible refine C7 ?_
 first|refine AA (AE ?_)|skip
 refine AA (wpAny_sequenceKey T.typeIs (by decide) ?_);refine AA (Dq (name:=Str.ofString "__getitem__") T.typeIs Gn (CO Gn T.typeIs entry_tuple_getitem ?_ (args_tuple_getitem _ _)));refine AA (m:=Builtin.Tuple.tupleItemsOf (.ref t)) (tupleItemsOf_ T (AA (wpAny_typeOf TS ?_)));rw[AB (by decide)];refine AA (HT.Ol S pl pu ?_);rw[h1,h2];show wpAny _ _ (if ((((0:Nat):Int)==0&&(1:Int)==1&&(items.size-0)==items.size))=true then _ else _) _ _ s;rw[AB (by simp)];unfold Builtin.Tuple.tupleIsExact;refine AA (AA (wpAny_typeOf T.typeIs (AE ?_)));rw[AB (by decide)];exact AA (CA (AE ⟨_,rfl,AE h⟩))
end
def UL (K:Yb):V->Option Int->Option Int->Hp->VK->Prop:=λx lo hi H Q=>∃ a xs,x=.ref a/\SqT K H a xs/\(HT.sIx xs.length 0 lo=0/\HT.sIx xs.length xs.length hi=xs.length)/\Q (.ref a) H
def Sl {X:Cx}:SlR X (UL X.K):=by
 intro zB s Y H x v vl vu lo hi sl Q I rx hs pl pu h;obtain ⟨a,xs,rfl,hx,hw,q⟩:=h;cases rx;obtain ⟨its,r,ht,hz⟩:=I.tuple hx;have hlen:its.toArray.size=xs.length:=by rw[AW];exact r.length.symm
 exact ⟨"tuple", _,Gn.lookup,ht.typeIs,XG ht hs pl pu (by rw[hlen];exact hw.1) (by rw[hlen];exact hw.2) ⟨.ref a,H,I,rfl,q⟩⟩
section
variable {X:Cx} {a b e:Expr} {es:Yi} {pos:Pos} {f g:FE}
def Vx (h1:QE X a f) (h2:QE X b g) (hs:PX b:=by intro _ _;rfl):QE X (.Subscript a b pos) (fOp kIx f g):=.mk <| PE.imp (dS eT h1.un h2.un hs) λ_ _ _ h=>Fu Tv h
noncomputable abbrev FO:=Sd->Mem->Option (Option Int × Mem)
noncomputable def trO (K:Yb) (f:FO):TO:=λτ H Q=>∃ L Y M d M',Cor K L M H/\An L H Y τ/\f Y M=some (d,M') /\ ∀ L' H',Stp L H L' H'->Cor K L' M' H'->Q d H'
structure QO (X:Cx) (e:Option Expr) (f:FO):Prop where
 un:PO X e (trO X.K f)
noncomputable def Bj:FO:=λ_ M=>some (none,M)
noncomputable def BW (f:FE):FO:=λY M=>match f Y M with
 |some (.dat (.int i),M')=>some (some i,M')
 |_=>none
def PO.imp {e:Option Expr} {t t':TO} (h:PO X e t) (hi:∀ τ H Q,t' τ H Q->t τ H Q):PO X e t':=λzB s Y H Q I q=>h zB s Y H Q I (hi _ _ _ q)
def Ul:QO X none Bj:=.mk <| PO.imp aT λτ H Q zz=>by
 obtain ⟨L,Y,M,d,M',c,rs,hf,q⟩:=zz;unfold Bj at hf;cases hf;exact q L H (.refl L H) c
def d4 (h:QE X e f):QO X (some e) (BW f):=.mk <| PO.imp (V6 h.un) λτ H Q zz=>by
 obtain ⟨L,Y,M,d,M',c,rs,hf,q⟩:=zz;unfold BW at hf;split at hf
 .rename_i i M1 e1;cases hf;refine (mkE c rs e1 (λL1 H1 v s1 c1 r1=>?_));exact ⟨i,by unfold zk Rep at r1;exact r1,q L1 H1 s1 c1⟩
 .cases hf
noncomputable def Ak (xs:List D) (lo hi:Ys):List D:=(xs.drop (HT.sIx xs.length 0 lo)).take (HT.sIx xs.length xs.length hi-HT.sIx xs.length 0 lo)
def Om {L:Yg} {H:Hp} {xs:List D} {vs:List V} {lo hi:Ys} (r:zK L H xs vs):zK L H (Ak xs lo hi) (Fe vs lo hi):=by
 unfold Ak Fe;rw[r.length];exact (r.drop _).take _
noncomputable def kSl (x:EV) (lo hi:Ys) (M:Mem):Option (EV × Mem):=match Cu x with
 |some xs=>some (.dat (.tup (Ak xs lo hi)),M)
 |none=>match CJ M x with
  |some xs=>some (.fl (Ak xs lo hi),M)
  |none=>none
noncomputable def fSl (f:FE) (fl fh:FO):FE:=λY M=>match f Y M with
 |some (x,M1)=>match fl Y M1 with
  |some (lo,M2)=>match fh Y M2 with
   |some (hi,M3)=>kSl x lo hi M3
   |none=>none
  |none=>none
 |none=>none
def RU {lo hi:Option Expr} {p2:Pos} {fl fh:FO} (h:QE X e f) (hl:QO X lo fl) (hh:QO X hi fh):QE X (.Subscript e (.Slice lo hi none p2) pos) (fSl f fl fh) :=
 .mk <| PE.imp (b8 (SlR.or f9 (SlR.or WV Sl)) h.un hl.un hh.un) λτ H Q zz=>by
  obtain ⟨L,Y,M,d,M',c,rs,hf,q⟩:=zz;unfold fSl at hf;split at hf
  .rename_i x M1 e1;split at hf
   .rename_i l M2 e2;split at hf
    .rename_i u M3 e3;refine ⟨L,Y,M,_,_,c,rs,e1,λL1 H1 v s1 c1 r1=>⟨L1,Y,M1,_,_,c1,rs.stp s1,e2,λL2 H2 s2 c2=>⟨L2,Y,M2,_,_,c2,rs.stp (s1.trans s2),e3,λL3 H3 s3 c3=>?_⟩⟩⟩;have s:=(s1.trans s2).trans s3;have r3:zk H L3 H3 x v:=(r1.stp s2).stp s3;unfold kSl at hf;cases t:Cu x with
     |some xs=>
      rw[t]at hf;dsimp only at hf;cases hf;obtain ⟨a,vs,rfl,e4,r4⟩:=Fi r3 t;by_cases hw:HT.sIx vs.length 0 l=0/\HT.sIx vs.length vs.length u=vs.length
      .refine .inr (.inr ⟨a,vs,rfl,.of e4,hw,?_⟩);have ec:Ak xs l u=xs:=by
        unfold Ak;rw[<-r4.length,hw.1,hw.2,r4.length];simp
       rw[ec]at q;refine q L3 H3 _ s c3 ?_;unfold zk Rep;exact ⟨a,vs,rfl,e4,r4⟩
      .refine .inr (.inl ⟨a,vs,rfl,.of e4,hw,λp hp=>?_⟩);exact q L3 _ _ (s.trans (.upd hp)) (c3.upd hp) (Rep.newTup hp (Om r4))
     |none=>
      rw[t]at hf;dsimp only at hf;split at hf
      .rename_i xs e4;cases hf;obtain ⟨a,vs,rfl,e5,r5⟩:=Et c3 r3 e4;refine .inl ⟨a,vs,rfl,.inl e5,λp hp=>?_⟩;exact q L3 _ _ (s.trans (.upd hp)) (c3.upd hp) (zk.newLst s c c3 hp (Om r5))
      .cases hf
    .cases hf
   .cases hf
  .cases hf
noncomputable abbrev KB:=List EV->Mem->Option (EV × Mem)
def D7 (K:Yb) (r:List V->Hp->VK->Prop) (k:KB):Prop:=∀ {L:Yg} {M M':Mem} {H H0:Hp} {xs:List EV} {d:EV} {vs:List V} {Q:VK},Cor K L M H->C9 H0 L H xs vs->k xs M=some (d,M') ->
 (∀ L' H' u,Stp L H L' H'->Cor K L' M' H'->zk H L' H' d u->Q u H')->r vs H Q
noncomputable def fB (k:KB) (f:FAE):FE:=λY M=>match f Y M with
 |some (xs,M1)=>k xs M1
 |none=>none
def Pc {K:Yb} {r:List V->Hp->VK->Prop} {k:KB} {f:FAE} (hk:D7 K r k) {τ:Sv} {H:Hp} {Q:VK} (h:trE K (fB k f) τ H Q):tCB r (Nk K f) τ H Q:=by
 obtain ⟨L,Y,M,d,M',c,rs,hf,q⟩:=h;unfold fB at hf;split at hf
 .rename_i xs M1 e1;refine ⟨L,Y,M,_,_,c,rs,e1,λL1 H1 vs s1 c1 r1=>?_⟩;refine hk c1 r1 hf λL2 H2 u s2 c2 r2=>?_;exact q L2 H2 u (s1.trans s2) c2 (r2.back s1 c s2.sub)
 .cases hf
def C9.one {H0:Hp} {L:Yg} {H:Hp} {x:EV} {vs:List V} (h:C9 H0 L H [x] vs):∃ v,vs=[v]/\zk H0 L H x v:=by
 obtain ⟨v,r,rfl,h1,h2⟩:=h;unfold C9 at h2;subst h2;exact ⟨v,rfl,h1⟩
noncomputable def zV:KB:=λxs M=>match xs with
 |[x]=>match Az M x with
  |some ys=>some (.dat (.int ys.length),M)
  |none=>none
 |_=>none
def Zt:D7 X.K (λxs H Q=>∃ p ys,xs=[.ref p]/\(SqL X.K H p ys\/SqT X.K H p ys)/\Q (.int ys.length) H) zV:=by
 intro L M M' H H0 xs d vs Q c r hk q;unfold zV at hk;split at hk
 .rename_i x;split at hk
  .rename_i ys e1;cases hk;obtain ⟨v,rfl,r1⟩:=r.one;obtain ⟨a,ws,rfl,hs,r2⟩:=F6 c r1 e1;refine ⟨a,ws,rfl,hs,q L H _ (.refl L H) c ?_⟩;rw[r2.length];exact (Cs (L:=L) (H:=H))
  .cases hk
 .cases hk
def HZ {x:Str} {p:Pos} {id:String} {r:List V->Hp->VK->Prop} {k:KB} {f:FAE} (hk:D7 X.K r k) (hc:Cm X (.builtin id) r) (hv:bootBuiltins x=some (.builtin id)) (hg:Gl X x) (hm:X.mg x=none) (ha:QAE X (e::es) f) (hn:x ≠ "__name__" := by decide) (hdb:(x==("__debug__" : Str))=false:=by decide)
  (he:starEach (e::es) X.env=(false,eval e X.env)::starEach es X.env:=by rfl) (hpl:(backTo pos (starEach es X.env)).any (·.1)=false:=by rfl):QE X (.Call (.Name x p) (e::es) [] pos) (fB k f) :=
 .mk <| PE.imp (Qv hc hg hm hv ha.un hn hdb he hpl) λ_ _ _ h=>Pc hk h
def KP {x:Str} {p:Pos} {T:String} {r:List V->Hp->VK->Prop} {k:KB} {f:FAE} (hk:D7 X.K r k) (hc:Cm X (.type T) r) (hv:bootBuiltins x=some (.type T)) (hg:Gl X x) (hm:X.mg x=none) (ha:QAE X (e::es) f) (hn:x ≠ "__name__" := by decide) (hdb:(x==("__debug__" : Str))=false:=by decide)
  (he:starEach (e::es) X.env=(false,eval e X.env)::starEach es X.env:=by rfl) (hpl:(backTo pos (starEach es X.env)).any (·.1)=false:=by rfl):QE X (.Call (.Name x p) (e::es) [] pos) (fB k f) :=
 .mk <| PE.imp (ME hc hg hm hv ha.un hn hdb he hpl) λ_ _ _ h=>Pc hk h
noncomputable def Av:KB:=λxs M=>match xs with
 |[x]=>match Az M x with
  |some ys=>some (.dat (.tup ys),M)
  |none=>none
 |_=>none
def Vi:D7 X.K (λxs H Q=>∃ p ys,xs=[.ref p]/\((SqL X.K H p ys /\ ∀ l,H l=none->Q (.ref l) (upd H l (.tup ys)))\/(SqT X.K H p ys/\Q (.ref p) H))) Av:=by
 intro L M M' H H0 xs d vs Q c r hk q;unfold Av at hk;split at hk
 .rename_i x;split at hk
  .rename_i ys e1;cases hk;obtain ⟨v,rfl,r1⟩:=r.one;unfold Az at e1;cases t:Cu x with
   |some zs=>
    rw[t]at e1;cases e1;obtain ⟨a,ws,rfl,e2,r2⟩:=Fi r1 t;refine ⟨a,ws,rfl,.inr ⟨.of e2,q L H _ (.refl L H) c ?_⟩⟩;unfold zk Rep;exact ⟨a,ws,rfl,e2,r2⟩
   |none=>
    rw[t]at e1;obtain ⟨a,ws,rfl,e2,r2⟩:=Et c r1 e1;refine ⟨a,ws,rfl,.inl ⟨.inl e2,λp hp=>?_⟩⟩;exact q L _ _ (.upd hp) (c.upd hp) (Rep.newTup hp r2)
  .cases hk
 .cases hk
end
set_option genInjectivity true in
inductive Out where
  |nx|ret (d:D)|brk|cnt
noncomputable abbrev FS:=Sd->Mem->Option (Out × Sd × Mem)
def SH (E:Ends) (L:Yg) (H:Hp) (Y:Sd):Out->Prop
  |.nx=>∀ τ,An L H Y τ->E.nx τ H
  |.ret d=>∀ v,Rep L H d v->E.rt v H
  |.brk=>∀ τ,An L H Y τ->E.bk τ H
  |.cnt=>∀ τ,An L H Y τ->E.ct τ H
noncomputable def trS (K:Yb) (f:FS):TS:=λE τ H=>∃ L Y M o Y' M',Cor K L M H/\An L H Y τ/\f Y M=some (o,Y',M') /\ ∀ L' H',Stp L H L' H'->Cor K L' M' H'->SH E L' H' Y' o
structure QS (X:Cx) (st:Stmt) (f:FS):Prop where
  un:PS X st (trS X.K f)
structure QSs (X:Cx) (st:Yy) (f:FS):Prop where
  un:PSs X st (trS X.K f)
def An.set {L:Yg} {H:Hp} {Y:Sd} {τ:Sv} {i:Nat} {d:D} {v:V} (h:An L H Y τ) (r:Rep L H d v):An L H (Y.set i (some d)) (τ.set i (some v)):=by
  refine ⟨by simp[h.1],λj e q=>?_⟩;rw[FL]at q ⊢;split at q
  . rename_i z
    subst z;split at q
    . rename_i hl
      cases q;rw[AB rfl,AB (by rw[h.1];exact hl)];exact ⟨v,rfl,r⟩
    .cases q
  . rename_i z
    rw[AD z];exact h.2 j e q
def WI {K:Yb} {f:FE} {τ:Sv} {H:Hp} {Q:VK} (h:trD K (toD f) τ H Q):trE K f τ H Q:=by
  obtain ⟨L,Y,M,d,M',c,rs,hf,q⟩:=h;unfold toD at hf;split at hf
  . rename_i d' M1 e1
    cases hf;exact (mkE c rs e1 (λL' H' v s c' r=>q L' H' v s c' r))
  . rename_i xs M1 e1
    cases hf;refine (mkE c rs e1 (λL' H' v s c' r=>?_));obtain ⟨p,vs,rfl,e0,e2,e3,r⟩:=r;obtain ⟨c2,s2⟩:=Pq s c' e0 e2 e3 r;exact q _ H' _ s2 c2 (Rep.last c')
  .cases hf
noncomputable def Ac:FS:=λY M=>some (.nx,Y,M)
noncomputable def zM (f g:FS):FS:=λY M=>match f Y M with
  |some (.nx,σ1,M1)=>g σ1 M1
  |r=>r
noncomputable def sIf (c:FT) (f g:FS):FS:=λY M=>match c Y M with
  |some (true,M1)=>f Y M1
  |some (false,M1)=>g Y M1
  |none=>none
noncomputable def zv (f:FE):FS:=λY M=>match toD f Y M with
  |some (d,M1)=>some (.ret d,Y,M1)
  |none=>none
noncomputable def AK (i:Nat) (f:FE):FS:=λY M=>match toD f Y M with
  |some (d,M1)=>some (.nx,Y.set i (some d),M1)
  |none=>none
noncomputable def Al (f:FE):FS:=λY M=>match f Y M with
  |some (_,M1)=>some (.nx,Y,M1)
  |none=>none
section
variable {X:Cx} {st:Stmt} {rest:Yy} {e c:Expr} {pos:Pos}
def YW:QSs X [] Ac:=.mk <| PSs.imp Zd λE τ H zz=>by
  obtain ⟨L,Y,M,o,Y',M',c,rs,hf,q⟩:=zz;unfold Ac at hf;cases hf;exact q L H (.refl L H) c τ rs
def aJ {f g:FS} (h1:QS X st f) (h2:QSs X rest g):QSs X (st::rest) (zM f g):=.mk <| PSs.imp (cS h1.un h2.un) λE τ H zz=>by
  obtain ⟨L,Y,M,o,Y',M',c,rs,hf,q⟩:=zz;unfold zM at hf;split at hf
  . rename_i σ1 M1 e1
    refine ⟨L,Y,M,_,_,_,c,rs,e1,λL1 H1 s1 c1 τ1 r1=>⟨L1,σ1,M1,_,_,_,c1,r1,hf,λL2 H2 s2 c2=>q L2 H2 (s1.trans s2) c2⟩⟩
  . rename_i hne
    refine ⟨L,Y,M,_,_,_,c,rs,hf,λL1 H1 s1 c1=>?_⟩;have z:=q L1 H1 s1 c1;cases o with
    |nx=>exact absurd hf (hne Y' M')
    |ret d=>exact z
    |brk=>exact z
    |cnt=>exact z
def RS {f:FS} (h1:QS X st f):QSs X [st] f:=.mk <| PSs.imp (gR h1.un) λ_ _ _ h=>h
def bS {a b:Yy} {fc:FT} {f g:FS} (hc:QT X c fc) (ha:QSs X a f) (hb:QSs X b g):QS X (.If c a b pos) (sIf fc f g):=.mk <| PS.imp (eI hc.un ha.un hb.un) λE τ H zz=>by
  obtain ⟨L,Y,M,o,Y',M',c,rs,hf,q⟩:=zz;unfold sIf at hf;split at hf
  . rename_i M1 e1
    refine (mkT c rs e1 (λL1 H1 s1 c1=>?_));exact Dn ⟨L1,Y,M1,_,_,_,c1,rs.stp s1,hf,λL2 H2 s2 c2=>q L2 H2 (s1.trans s2) c2⟩
  . rename_i M1 e1
    refine (mkT c rs e1 (λL1 H1 s1 c1=>?_));exact D3 ⟨L1,Y,M1,_,_,_,c1,rs.stp s1,hf,λL2 H2 s2 c2=>q L2 H2 (s1.trans s2) c2⟩
  .cases hf
def W4 {f:FE} (h:QE X e f):QS X (.Return (some e) pos) (zv f):=.mk <| PS.imp (Ub (Bt h).un) λE τ H zz=>by
  obtain ⟨L,Y,M,o,Y',M',c,rs,hf,q⟩:=zz;unfold zv at hf;split at hf
  . rename_i d M1 e1
    cases hf;exact (mkD c rs e1 (λL1 H1 v s1 c1 r1=>q L1 H1 s1 c1 v r1))
  .cases hf
def NL {K:Yb} {i:Nat} {f:FE} {t:TE} (ht:∀ τ H Q,trE K f τ H Q->t τ H Q) {E:Ends} {τ:Sv} {H:Hp} (h:trS K (AK i f) E τ H):Ip t (Ea i) E τ H:=by
  obtain ⟨L,Y,M,o,Y',M',c,rs,hf,q⟩:=h;unfold AK at hf;split at hf
  . rename_i d M1 e1
    cases hf;exact ht _ _ _ (WI (mkD c rs e1 (λL1 H1 v s1 c1 r1=>q L1 H1 s1 c1 _ ((rs.stp s1).set r1))))
  .cases hf
def Za {i:Nat} {x:Str} {f:FE} {pos':Pos} (hN:X.N.Nodup) (hi:X.N[i]?=some x) (hx:Loc X.env.scope x) (h:QE X e f) (hs:swapsWith e (some (.Name x pos')) pos.line X.env=pure false:=by rfl)
    (hf:X.fn x=true\/X.env.scope.names.lookup x=some .local:=by first|exact .inl rfl|exact .inr rfl|assumption):QS X (.Assign [.Name x pos'] e pos) (AK i f) := 
  .mk <| PS.imp (cB hN hi hx h.un hs hf) λ_ _ _ z=>NL (λ_ _ _ z=>z) z
def Sg {f:FE} (h:QE X e f) (hs:swapsWith e none pos.line X.env=pure false:=by rfl):QS X (.Expr e pos) (Al f):=.mk <| PS.imp (bG h.un hs) λE τ H zz=>by
  obtain ⟨L,Y,M,o,Y',M',c,rs,hf,q⟩:=zz;unfold Al at hf;split at hf
  . rename_i d M1 e1
    cases hf;exact (mkE c rs e1 (λL1 H1 v s1 c1 r1=>q L1 H1 s1 c1 τ (rs.stp s1)))
  .cases hf
noncomputable abbrev FG:=D->Sd->Option Sd
def GOk (g:TG) (fg:FG):Prop:=∀ {L:Yg} {H:Hp} {Y Y':Sd} {τ:Sv} {d:D} {v:V} {Q:Sv->Hp->Prop},An L H Y τ->Rep L H d v->fg d Y=some Y'->(∀ τ',An L H Y' τ'->Q τ' H)->g v τ H Q
noncomputable def gN (i:Nat):FG:=λd Y=>some (Y.set i (some d))
def Uy {i:Nat}:GOk (Ea i) (gN i):=by
  intro L H Y Y' τ d v Q rs r hf q;unfold gN at hf;cases hf;exact q _ (rs.set r)
noncomputable abbrev FI:=Sd->Mem->Option (List D × Option (Mem->Prop) × Mem)
def B6 (g:Option (Mem->Prop)) (xs:List D) (M:Mem):Prop:=match g with
  |none=>True
  |some p=>p M
def MG (K:Yb) (J:It) (L:Yg) (H:Hp) (xs:List D) (g:Option (Mem->Prop)):Prop:=∀ L' H' M',Stp L H L' H'->Cor K L' M' H'->B6 g xs M' ->
  (∀ (i:Nat) d,xs[i]?=some d->J.go i H' /\ ∀ v H'',J.yld i H' v H''->(∀ a o,H' a=some o->H'' a=some o)/\Rep L' H'' d v)/\J.stop xs.length H'
noncomputable def trI (K:Yb) (f:FI):TI:=λτ H R=>∃ L Y M xs g M',Cor K L M H/\An L H Y τ/\f Y M=some (xs,g,M') /\ ∀ L' H' J,Stp L H L' H'->Cor K L' M' H'->MG K J L' H' xs g->R J H'
def mkI {K:Yb} {f:FI} {τ:Sv} {H:Hp} {R} {Y:Sd} {M M':Mem} {xs g} (c:Cor K L M H) (r:An L H Y τ) (e:f Y M=some (xs,g,M')) (q:∀ L' H' J,Stp L H L' H'->Cor K L' M' H'->MG K J L' H' xs g->R J H'):trI K f τ H R:=⟨_,_,_,_,_,_,c,r,e,q⟩
structure QI (X:Cx) (tg e:Expr) (f:FI):Prop where
  un:PI X tg e (trI X.K f)
def PI.imp {tg e:Expr} {t t':TI} (h:PI X tg e t) (hi:∀ τ H R,t' τ H R->t τ H R):PI X tg e t':=λzB s Y H R I q=>h zB s Y H R I (hi _ _ _ q)
noncomputable def Dy (g:FG) (b:FS) (all:List D) (gd:Option (Mem->Prop)):List D->Sd->Mem->Option (Out × Sd × Mem)
  |[],Y,M=>open Classical in if B6 gd all M then some (.nx,Y,M) else none
  |x::r,Y,M=>open Classical in if B6 gd all M then match g x Y with
      |some σ1=>match b σ1 M with
        |some (.nx,σ2,M2)=>Dy g b all gd r σ2 M2
        |some (.cnt,σ2,M2)=>Dy g b all gd r σ2 M2
        |some (.brk,σ2,M2)=>some (.nx,σ2,M2)
        |some (.ret d,σ2,M2)=>some (.ret d,σ2,M2)
        |none=>none
      |none=>none
    else none
noncomputable def Ad (fi:FI) (g:FG) (b:FS):FS:=λY M=>match fi Y M with
  |some (xs,gd,M1)=>Dy g b xs gd xs Y M1
  |none=>none
def HP {α:Type} {xs:List α} {i:Nat} (h:i<xs.length):xs.drop i=xs[i]::xs.drop (i+1):=List.drop_eq_getElem_cons h
def Stp.yld {L L':Yg} {H H' H'':Hp} (s:Stp L H L' H') (h:∀ a o,H' a=some o->H'' a=some o):Stp L H L' H'':=s.trans (.grow h)
set_option genInjectivity true in
inductive FW (K:Yb) (fg:FG) (b:FS) (xs:List D) (gd:Option (Mem->Prop)) (r:Option (Out × Sd × Mem)) (L1:Yg) (H1:Hp):Nat->Nat->Sv->Hp->Prop
  |mk {i:Nat} {τ':Sv} {H':Hp} {L':Yg} {Y':Sd} {M':Mem}:i<=xs.length->Stp L1 H1 L' H'->Cor K L' M' H'->An L' H' Y' τ'->Dy fg b xs gd (xs.drop i) Y' M'=r->FW K fg b xs gd r L1 H1 i (xs.length-i) τ' H'
def YO {K:Yb} {fi:FI} {g:TG} {fg:FG} {b:FS} (hg:GOk g fg) {E:Ends} {τ:Sv} {H:Hp} (h:trS K (Ad fi fg b) E τ H):Qb (trI K fi) g (trS K b) E τ H:=by
  obtain ⟨L,Y,M,o,σf,Mf,c,rs,hf,q⟩:=h;unfold Ad at hf;split at hf
  . rename_i xs gd M1 e1
    refine (mkI c rs e1 (λL1 H1 J s1 c1 it=>?_));refine ⟨FW K fg b xs gd (some (o,σf,Mf)) L1 H1,⟨_,.mk (Ba _) (.refl _ _) c1 (rs.stp s1) (by simpa using hf)⟩,?_⟩;rintro i m τ' H' ⟨hi,s',c',rs',e'⟩;rename_i L' Y' M';by_cases hlt:i<xs.length
    . rw[HP hlt]at e'
      unfold Dy at e';split at e'
      . rename_i hgd
        obtain ⟨step,_⟩:=it L' H' M' s' c' hgd;obtain ⟨go,yl⟩:=step i xs[i] (AL hlt);cases eg:fg xs[i] Y' with
        |none=>rw[eg]at e';cases e'
        |some σ1=>
          rw[eg]at e';dsimp only at e';refine .inr ⟨go,FW K fg b xs gd (some (o,σf,Mf)) L1 H1 (i+1) (xs.length-(i+1)),λτ2 H2 a=>⟨xs.length-(i+1),by omega,a⟩,λv H2 hy=>?_⟩;obtain ⟨gr,rv⟩:=yl v H2 hy;refine hg (An.stp (.grow gr) rs') rv eg λτ2 r2=>?_;cases eb:b σ1 M' with
          |none=>rw[eb]at e';cases e'
          |some r=>
            obtain ⟨o2,σ2,M2⟩:=r;rw[eb]at e';refine ⟨L',σ1,M',_,_,_,c'.grow gr,r2,eb,λL3 H3 s3 c3=>?_⟩;have s13:Stp L1 H1 L3 H3:=(s'.yld gr).trans s3;cases o2 with
            |nx=>exact λτ3 r3=> .mk hlt s13 c3 r3 e'
            |cnt=>exact λτ3 r3=> .mk hlt s13 c3 r3 e'
            |brk=>cases e';exact q L3 H3 (s1.trans s13) c3
            |ret d=>cases e';exact q L3 H3 (s1.trans s13) c3
      .cases e'
    . have hi':i=xs.length:=by omega
      subst hi';rw[List.drop_length]at e';unfold Dy at e';split at e'
      . rename_i hgd
        cases e';obtain ⟨_,stop⟩:=it L' H' _ s' c' hgd;exact .inl ⟨stop,q L' H' (s1.trans s') c' τ' rs'⟩
      .cases e'
  .cases hf
def QX {tg iter:Expr} {body:Yy} {fi:FI} {g:TG} {fg:FG} {b:FS} (hg:GOk g fg) (hp:PassesOwn (model X.prog X.w) X.A X.env X.xe) (hc:X.calm=true) (hi:QI X tg iter fi) (ht:PG X tg g) (hb:QSs X body b)
    (hs:∀ x,foldedSetIterable iter X.env x=pure x:=by intro _;rfl):QS X (.For tg iter body [] pos) (Ad fi fg b):=.mk <| PS.imp (WY hp hc hi.un ht hb.un hs) λ_ _ _ h=>YO hg h
end
section
variable {X:Cx} {e c iter tg elt:Expr} {pos:Pos} {scope:Y0} {ifs:Yi}
noncomputable def DD (c:FT) (b:FS):Nat->Sd->Mem->Option (Out × Sd × Mem)
  |0,_,_=>none
  |n+1,Y,M=>match c Y M with
    |some (true,M1)=>match b Y M1 with
      |some (.nx,σ2,M2)=>DD c b n σ2 M2
      |some (.cnt,σ2,M2)=>DD c b n σ2 M2
      |some (.brk,σ2,M2)=>some (.nx,σ2,M2)
      |some (.ret d,σ2,M2)=>some (.ret d,σ2,M2)
      |none=>none
    |some (false,M1)=>some (.nx,Y,M1)
    |none=>none
def ZI {K:Yb} {fc:FT} {b:FS} {n:Nat} {E:Ends} {τ:Sv} {H:Hp} (h:trS K (DD fc b n) E τ H):NV (trT K fc) (trS K b) E τ H:=by
  obtain ⟨L,Y,M,o,σf,Mf,c,rs,hf,q⟩:=h;refine ⟨λm τ' H'=>∃ L' Y' M',Stp L H L' H'/\Cor K L' M' H'/\An L' H' Y' τ'/\DD fc b m Y' M'=some (o,σf,Mf),⟨n,L,Y,M,.refl _ _,c,rs,hf⟩,?_⟩;rintro m τ' H' ⟨L',Y',M',s',c',rs',e'⟩;cases m with
  |zero=>unfold DD at e';cases e'
  |succ m=>
    unfold DD at e';split at e'
    . rename_i M1 e1
      refine (mkT c' rs' e1 (λL1 H1 s1 c1=>Dn ?_));refine ⟨λτ2 H2=>∃ L2 σ2 M2,Stp L H L2 H2/\Cor K L2 M2 H2/\An L2 H2 σ2 τ2/\DD fc b m σ2 M2=some (o,σf,Mf),λτ2 H2 h2=>⟨m,E1 m,h2⟩,?_⟩;cases eb:b Y' M1 with
      |none=>rw[eb]at e';cases e'
      |some r=>
        obtain ⟨o2,σ2,M2⟩:=r;rw[eb]at e';refine ⟨L1,Y',M1,_,_,_,c1,rs'.stp s1,eb,λL3 H3 s3 c3=>?_⟩;have s13:Stp L H L3 H3:=(s'.trans s1).trans s3;cases o2 with
        |nx=>exact λτ3 r3=>⟨L3,σ2,M2,s13,c3,r3,e'⟩
        |cnt=>exact λτ3 r3=>⟨L3,σ2,M2,s13,c3,r3,e'⟩
        |brk=>cases e';exact q L3 H3 s13 c3
        |ret d=>cases e';exact q L3 H3 s13 c3
    . rename_i M1 e1
      cases e';exact ⟨L',_,M',_,_,c',rs',e1,λL1 H1 s1 c1=>D3 (q L1 H1 (s'.trans s1) c1 τ' (rs'.stp s1))⟩
    .cases e'
def Wk {body:Yy} {fc:FT} {b:FS} (n:Nat) (hp:PassesOwn (model X.prog X.w) X.A X.env X.xe) (hc:QT X c fc) (hb:QSs X body b):QS X (.While c body [] pos) (DD fc b n) := 
  .mk <| PS.imp (SQ hp hc.un hb.un) λ_ _ _ h=>ZI h
noncomputable def Bi (own:Yj) (Y:Sd):Sd:=own.foldl (λY i=>Y.set i none) Y
theorem IF {L:Yg} {H:Hp}:∀ (own:Yj) {Y:Sd} {τ:Sv},An L H Y τ->An L H (Bi own Y) (clr own τ)
  |[],_,_,h=>h
  |i::r,Y,τ,h=>by
    refine IF r (Y:=Y.set i none) (τ:=τ.set i none) ⟨by simp[h.1],λj d q=>?_⟩;rw[FL]at q ⊢;split at q
    .split at q <;> cases q
    . rename_i z
      rw[AD z];exact h.2 j d q
noncomputable def Bc (g:FG) (tc:FT) (te:FE) (Y:Sd) (all:List D) (gd:Option (Mem->Prop)):List D->Mem->Option (List D × Mem)
  |[],M=>open Classical in if B6 gd all M then some ([],M) else none
  |x::r,M=>open Classical in if B6 gd all M then match g x Y with
      |some σ1=>match tc σ1 M with
        |some (true,M1)=>match toD te σ1 M1 with
          |some (d,M2)=>match Bc g tc te Y all gd r M2 with
            |some (ds,M3)=>some (d::ds,M3)
            |none=>none
          |none=>none
        |some (false,M1)=>Bc g tc te Y all gd r M1
        |none=>none
      |none=>none
    else none
noncomputable def zn (own:Yj) (fi:FI) (g:FG) (tc:FT) (te:FE):FE:=λY M=>match fi Y M with
  |some (xs,gd,M1)=>if xs.length<=sizeLine then match Bc g tc te (Bi own Y) xs gd xs M1 with
      |some (ys,M2)=>some (.fl ys,M2)
      |none=>none
    else none
  |none=>none
/-- what a target of a comprehension does: it Dv names of its own -/
def D1 (own:Yj) (g:TG) (fg:FG):Prop:=∀ {L:Yg} {H:Hp} {Y Y':Sd} {τ τ0:Sv} {d:D} {v:V} {Q:Sv->Hp->Prop},An L H Y τ->Ext (clr own τ0) τ->Rep L H d v->fg d Y=some Y'->(∀ τ',An L H Y' τ'->Ext (clr own τ0) τ'->Q τ' H)->g v τ H Q
def Hg {own:Yj} {i:Nat} (hi:i∈own):D1 own (Ea i) (gN i):=by
  intro L H Y Y' τ τ0 d v Q rs ex r hf q;unfold gN at hf;cases hf;exact q _ (rs.set r) (ex.set hi)
set_option genInjectivity true in
inductive CW (K:Yb) (fg:FG) (tc:FT) (te:FE) (σ0:Sd) (xs:List D) (gd:Option (Mem->Prop)) (Mf:Mem) (zs:List D) (L1:Yg) (H1:Hp):Nat->Nat->List V->Hp->Prop
  |mk {i:Nat} {ys:List V} {H':Hp} {L':Yg} {M':Mem} {as bs:List D}:i<=xs.length->Stp L1 H1 L' H'->Cor K L' M' H'->zK L' H' as ys->as.length<=i->Bc fg tc te σ0 xs gd (xs.drop i) M'=some (bs,Mf)->as++bs=zs->CW K fg tc te σ0 xs gd Mf zs L1 H1 i (xs.length-i) ys H'
def NP {K:Yb} {own:Yj} {fi:FI} {g:TG} {fg:FG} {tc:FT} {te:FE} (hg:D1 own g fg) {τ:Sv} {H:Hp} {Q:VK} (h:trE K (zn own fi fg tc te) τ H Q):J4 own (trI K fi) g (trT K tc) (trD K (toD te)) τ H Q:=by
  obtain ⟨L,Y,M,d,Mf,c,rs,hf,q⟩:=h;unfold zn at hf;split at hf
  . rename_i xs gd M1 e1
    split at hf
    . rename_i hz
      split at hf
      . rename_i zs M2 e2
        cases hf;refine (mkI c rs e1 (λL1 H1 J s1 c1 it=>?_));refine ⟨CW K fg tc te (Bi own Y) xs gd Mf zs L1 H1,⟨_,.mk (Ba _) (.refl _ _) c1 .nil (AG _) (by simpa using e2) rfl⟩,?_⟩;rintro i m ys H' ⟨hi,s',c',r',hl,e',hab⟩;rename_i L' M' as bs;have hys:ys.length<=i:=by rw[r'.length];exact hl
        by_cases hlt:i<xs.length
        . rw[HP hlt]at e'
          unfold Bc at e';split at e'
          . rename_i hgd
            obtain ⟨step,_⟩:=it L' H' M' s' c' hgd;obtain ⟨go,yl⟩:=step i xs[i] (AL hlt);split at e'
            . rename_i σ1 eg
              refine .inr ⟨go,λv H2 hy=>?_⟩;obtain ⟨gr,rv⟩:=yl v H2 hy;have s2:Stp L1 H1 L' H2:=s'.yld gr;refine hg (IF own ((rs.stp s1).stp s2)) (.refl _) rv eg λτ2 r2 x2=>⟨x2,?_⟩;split at e'
              . rename_i M3 e3
                split at e'
                . rename_i d M4 e4
                  split at e'
                  . rename_i ds M5 e5
                    cases e';refine (mkT (c'.grow gr) r2 e3 (λL3 H3 s3 c3=>Dn ?_));refine (mkD c3 (r2.stp s3) e4 (λL4 H4 w s4 c4 r4=>?_));have st:Stp L' H' L4 H4:=((Stp.grow gr).trans s3).trans s4;refine ⟨Nat.lt_of_le_of_lt hys (Ax hlt hz),xs.length-(i+1),by omega,.mk (as:=as++[d]) hlt (s'.trans st) c4 ((r'.stp st).app (.cons r4 .nil)) (by simp;omega) e5 (by rw[<-hab];simp)⟩
                  .cases e'
                .cases e'
              . rename_i M3 e3
                refine (mkT (c'.grow gr) r2 e3 (λL3 H3 s3 c3=>D3 ?_));have st:Stp L' H' L3 H3:=(Stp.grow gr).trans s3;exact ⟨xs.length-(i+1),by omega,.mk hlt (s'.trans st) c3 (r'.stp st) (by omega) e' hab⟩
              .cases e'
            .cases e'
          .cases e'
        . have hi':i=xs.length:=by omega
          subst hi';rw[List.drop_length]at e';unfold Bc at e';split at e'
          . rename_i hgd
            cases e';obtain ⟨_,stop⟩:=it L' H' _ s' c' hgd;refine .inl ⟨stop,BA hys hz,λp hp=>?_⟩;rw[By]at hab;subst hab;exact q L' _ _ ((s1.trans s').trans (.upd hp)) (c'.upd hp) (zk.newLst (s1.trans s') c c' hp r')
          .cases e'
      .cases hf
    .cases hf
  .cases hf
structure QIfs (X:Cx) (ifs:Yi) (f:FT):Prop where
  un:Dt X ifs (trT X.K f)
noncomputable def zf:FT:=λ_ M=>some (true,M)
def gQ:QIfs X [] zf:=.mk λzB s Y H Q I h=>by
  obtain ⟨L,Y',M,d,M',c,rs,hf,q⟩:=h;unfold zf at hf;cases hf;exact Y8 zB s Y H Q I (q L H (.refl L H) c)
def Zl {f:FT} (h:QT X c f):QIfs X [c] f:=.mk (Xn h.un)
/-- the parts of a comprehension in its block -/
structure QParts (X:Cx) (scope:Y0) (tg:Expr) (ifs:Yi) (elt:Expr) (g:TG) (tc:FT) (te:FE):Prop where
  g:∀ zB cl s H fp,PG (zP X zB scope cl s H fp) tg g
  c:∀ zB cl s H fp,QIfs (zP X zB scope cl s H fp) ifs tc
  e:∀ zB cl s H fp,QE (zP X zB scope cl s H fp) elt te
def QParts.parts {g:TG} {tc:FT} {te:FE} (p:QParts X scope tg ifs elt g tc te):CompParts X scope tg ifs elt g (trT X.K tc) (trD X.K (toD te)) :=
  ⟨p.g,λzB cl s H fp=>(p.c zB cl s H fp).un,λzB cl s H fp=>(Bt (p.e zB cl s H fp)).un⟩
def MP {own:Yj} {fi:FI} {g:TG} {fg:FG} {tc:FT} {te:FE} (hg:D1 own g fg) (C:CompIn X scope own) (hcalm:X.calm=true) (hi:QI X tg iter fi) (p:QParts X scope tg ifs elt g tc te) (hs:∀ x,foldedSetIterable iter X.env x=pure x:=by intro _;rfl) :
    QE X (.ListComp elt [⟨tg,iter,ifs,0⟩] scope pos) (zn own fi fg tc te):=.mk <| PE.imp (YI C hcalm hi.un p.parts hs) λ_ _ _ h=>NP hg h
def Wc {i:Nat} {x:Str} {pos' pos'':Pos} {own:Yj} {fi:FI} {g:TG} {fg:FG} {tc:FT} {te:FE} (hN:X.N.Nodup) (hi':X.N[i]?=some x) (hx:Loc X.env.scope x) (hfn:X.fn x=true\/X.env.scope.names.lookup x=some .local)
    (hsw:swapsWith (.ListComp elt [⟨tg,iter,ifs,0⟩] scope pos) (some (.Name x pos')) pos''.line X.env=pure true)
    (hg:D1 own g fg) (C:CompIn X scope own) (hcalm:X.calm=true) (hi:QI X tg iter fi) (p:QParts X scope tg ifs elt g tc te) (hs:∀ x,foldedSetIterable iter X.env x=pure x:=by intro _;rfl) :
    QS X (.Assign [.Name x pos'] (.ListComp elt [⟨tg,iter,ifs,0⟩] scope pos) pos'') (AK i (zn own fi fg tc te)) := 
  .mk <| PS.imp (Uv hN hi' hx hfn C hcalm hi.un p.parts hsw hs) λ_ _ _ z=>NL (λ_ _ _ z=>NP hg z) z
end
noncomputable abbrev FF:=List D->Mem->Option (D × Mem)
noncomputable def spF (K:Yb) (n:Nat) (g:FF):Sp:=λvs H Q _=>∃ L ds M d M',Cor K L M H/\zK L H ds vs/\ds.length=n/\g ds M=some (d,M') /\ ∀ L' H' v,Stp L H L' H'->Cor K L' M' H'->Rep L' H' d v->Q v H'
noncomputable def zO (g:FF) (fa:FA):FE:=λY M=>match fa Y M with
 |some (ds,M1)=>match g ds M1 with
  |some (d,M2)=>some (.dat d,M2)
  |none=>none
 |none=>none
section
variable {X:Cx} {e:Expr} {es:Yi} {pos p:Pos} {x:Str} {k:Nat} {f:Yt} {fd:Yz} {ps:Yk}
def S8 (F:FnOk X.prog X.w X.K X.mg X.base CX0 k f fd ps (spF X.K (e::es).length g)) (hr:Room k X.A) (hg:Gl X x) (hm:X.mg x=some (.ref f)) (hk:PySem.W.keepIn X.K (.ref f)=true) (hb:Fy X.K fd ps [])
  (ha:QA X (e::es) fa) (hl:∀ Y M ds M1,fa Y M=some (ds,M1)->ds.length=(e::es).length) (hdb:(x==("__debug__" : Str))=false:=by decide) (he:starEach (e::es) X.env=(false,eval e X.env)::starEach es X.env:=by rfl) (hpl:(backTo pos (starEach es X.env)).any (·.1)=false:=by rfl) :
  QE X (.Call (.Name x p) (e::es) [] pos) (zO g fa) :=
 .mk <| PE.imp (Te F hr hg hm hk hb .nil bI ha.un hdb he hpl) λτ H Q zz=>by
  obtain ⟨L,Y,M,d,M',c,rs,hf,q⟩:=zz;unfold zO at hf;split at hf
  .rename_i ds M1 e1;split at hf
   .rename_i d' M2 e2;cases hf;refine ⟨L,Y,M,_,_,c,rs,e1,λL1 H1 vs s1 c1 r1=>?_⟩;dsimp only;rw[By];exact ⟨L1,ds,M1,d',_,c1,r1,hl _ _ _ _ e1,e2,λL2 H2 v s2 c2 r2=>q L2 H2 v (s1.trans s2) c2 r2⟩
   .cases hf
  .cases hf
def Ik (fa:FA) (n:Nat):Prop:=∀ Y M ds M1,fa Y M=some (ds,M1)->ds.length=n
def R0:Ik zG 0:=λY M ds M1 h=>by unfold zG at h;cases h;rfl
def U7 {f:FD} {g:FA} {n:Nat} (h:Ik g n):Ik (zD f g) (n+1):=λY M ds M1 q=>by
 unfold zD at q;split at q
 .split at q
  .rename_i e2;cases q;simp[h _ _ _ _ e2]
  .cases q
 .cases q
noncomputable def Ag (n:Nat) (b:FS):FF:=λds M=>match b (ds.map some++List.replicate (n-ds.length) none) M with
 |some (.ret d,_,M')=>some (d,M')
 |some (.nx,_,M')=>some (.non,M')
 |_=>none
def PV:∀ {ds:List D} {vs:List V},zK L H ds vs->An L H (ds.map some++List.replicate (N.length-ds.length) none) (L2.EX N vs):=λ{ds vs} r=>by
 unfold L2.EX;have hl:=r.length;refine ⟨by simp[hl],λi d q=>?_⟩;by_cases hi:i<ds.length
 .rw[Ai (by simpa using hi),Af]at q;rw[Ai (by simpa [hl] using hi),Af];cases e1:ds[i]? with
  |none=>rw[e1]at q;cases q
  |some d'=>
   rw[e1]at q;cases q;obtain ⟨v,e2,r2⟩:=r.get e1;exact ⟨v,by rw[e2];rfl,r2⟩
 .rw[EG (by simpa using hi),List.getElem?_replicate]at q;split at q <;> cases q
def BE {P:Ym} {w:Yo} {K:Yb} {mg:Yh} {base:Heap} {qual:Str} {st:Stmt} {N:Yk} {b:FS} {n:Nat} (F:Fun K x qual st f fd) (S:FnScope N ps (zR st)) (hn:ps.length=n)
  (hb:∀ (cdv:Yu) (A:Yn) (outer:List Env) (s:Yl) (H:Hp) (E:XK),Room k (A.deeper (envOfC qual (zR st) s.heap.objs.size f cdv))->QSs (GJ CX0 P w K mg base N qual (zR st) f cdv A outer s H E).nox (Fp st) b) :
  FnOk P w K mg base CX0 (k+1) f fd ps (spF K n (Ag N.length b)):=by
 refine F.ok S (λvs H Q E h=>?_) (λcdv A outer s H vs Q E hr h=>⟨_,(hb cdv A outer s H E hr).un,?_⟩)
 .obtain ⟨L,ds,M,d,M',c,r,hl,_⟩:=h;rw[r.length,hl,hn]
 .obtain ⟨L,ds,M,d,M',c,r,hl,hf,q⟩:=h;unfold Ag at hf;split at hf
  .rename_i d' Y' M1 e1;cases hf;exact ⟨L,_,M,_,_,_,c,PV r,e1,λL1 H1 s1 c1 v r1=>q L1 H1 v s1 c1 r1⟩
  .rename_i Y' M1 e1;cases hf;exact ⟨L,_,M,_,_,_,c,PV r,e1,λL1 H1 s1 c1 τ' r1=>q L1 H1 .non s1 c1 (by unfold Rep;rfl)⟩
  .cases hf
mutual
noncomputable def D.und (n:Nat):D->Bool
 |.tup ds=>D.unds n ds
 |.ref k=>decide (k<n)
 |.fn _ ds=>D.unds n ds
 |_=>true
noncomputable def D.unds (n:Nat):List D->Bool
 |[]=>true
 |d::ds=>D.und n d&&D.unds n ds
end
mutual
theorem Rep.less:∀ {d:D} {v:V},D.und L.length d=true->Rep (L++N) H d v->Rep L H d v
 |.non,_,_,h=>by unfold Rep at h ⊢;exact h
 |.bl _,_,_,h=>by unfold Rep at h ⊢;exact h
 |.int _,_,_,h=>by unfold Rep at h ⊢;exact h
 |.str _,_,_,h=>by unfold Rep at h ⊢;exact h
 |.tup ds,_,hb,h=>by
  unfold D.und at hb;unfold Rep at h ⊢;obtain ⟨a,vs,rfl,e,r⟩:=h;exact ⟨a,vs,rfl,e,zK.less hb r⟩
 |.ref n,_,hb,h=>by
  unfold D.und at hb;unfold Rep at h ⊢;obtain ⟨a,rfl,e⟩:=h;exact ⟨a,rfl,by rwa [Ai (CG hb)]at e⟩
 |.fn _ ds,_,hb,h=>by
  unfold D.und at hb;unfold Rep at h ⊢;exact ⟨h.1,h.2.1,zK.less hb h.2.2⟩
theorem zK.less:∀ {ds:List D} {vs:List V},D.unds L.length ds=true->zK (L++N) H ds vs->zK L H ds vs
 |[],_,_,h=>by unfold zK at h ⊢;exact h
 |d::ds,_,hb,h=>by
  unfold D.unds at hb;rw[Am]at hb;unfold zK at h ⊢;obtain ⟨v,r,rfl,h1,h2⟩:=h;exact ⟨v,r,rfl,Rep.less hb.1 h1,zK.less hb.2 h2⟩
end
def Aa.less {κ:Type} {kf:D->Option κ} {L N:Yg} {H:Hp}:∀ {ps:List (D × D)} {vs:List (κ × V)},(ps.all λp=>D.und L.length p.1&&D.und L.length p.2)=true->Aa kf (L++N) H ps vs->Aa kf L H ps vs
 |[],_,_,h=>h
 |p::r,_,hb,h=>by
  rw[D8,Am,Am]at hb;obtain ⟨k,v,r',rfl,e,h1,h2⟩:=h;exact ⟨k,v,r',rfl,e,Rep.less hb.1.2 h1,Aa.less hb.2 h2⟩
noncomputable def MO.und (n:Nat):MO->Bool
 |.lst xs=>D.unds n xs
 |.fro xs=>D.unds n xs
 |.dict kvs=>kvs.all λp=>D.und n p.1&&D.und n p.2
 |.dicT kvs=>kvs.all λp=>D.und n p.1&&D.und n p.2
 |.set xs=>D.unds n xs
 |.froT kvs=>kvs.all λp=>D.und n p.1&&D.und n p.2
 |.froK kvs=>kvs.all λp=>D.und n p.1&&D.und n p.2
noncomputable def Dr (g:FF):FF:=λds M=>match g ds M with
 |some (d,M')=>if D.und M.length d&&(M'.take M.length).all (MO.und M.length)&&decide (M.length<=M'.length) then some (d,M'.take M.length) else none
 |none=>none
def HL {P:Ym} {w:Yo} {K:Yb} {mg:Yh} {base:Heap} {n:Nat} {g:FF} (h:FnOk P w K mg base CX0 k f fd ps (spF K n g)):FnOk P w K mg base CX0 k f fd ps (spF K n (Dr g)) :=
 h.imp λvs H Q E ⟨L,ds,M,d,M',c,r,hl,hf,q⟩=>by
  unfold Dr at hf;split at hf
  .rename_i d' M1 e1;split at hf
   .rename_i hb;cases hf;simp only[Am,DS,Ae]at hb;obtain ⟨⟨hb1,hb2⟩,hb3⟩:=hb;refine ⟨L,ds,M,_,_,c,r,hl,e1,λL1 H1 v s1 c1 r1=>?_⟩;obtain ⟨N,rfl⟩:=s1.pre;rw[<-c.len]at hb1 hb2 hb3;refine q L H1 v ⟨⟨[],by simp⟩,λa ha=> .inl ha,s1.old,s1.tup,s1.frz,s1.tbl⟩ ⟨?_,?_,λi a m e2 e3=>?_,c1.tab⟩ (Rep.less hb1 r1)
    .rw[BF,<-c.len];omega
    .exact (E9.mp c1.nd).1
    .rw[<-c.len]at e3;have hi:i<L.length:=(AI.mp e2).1;have hm:m∈M1.take L.length:=Bd e3;rw[List.getElem?_take_of_lt hi]at e3;have z:=c1.obj i a m (F8 e2) e3;have bl:=hb2 m hm;cases m with
     |lst xs=>obtain ⟨ws,e4,r4⟩:=z;exact ⟨ws,e4,zK.less bl r4⟩
     |fro xs=>obtain ⟨o,ws,e4,r4⟩:=z;exact ⟨o,ws,e4,zK.less bl r4⟩
     |dict ps=>obtain ⟨vs,e,r⟩:=z;exact ⟨vs,e,Aa.less bl r⟩
     |dicT ps=>obtain ⟨vs,e,r⟩:=z;exact ⟨vs,e,Aa.less bl r⟩
     |set _=>exact z
     |froT ps=>obtain ⟨o,vs,e,r⟩:=z;exact ⟨o,vs,e,Aa.less bl r⟩
     |froK ps=>obtain ⟨o,vs,e,r⟩:=z;exact ⟨o,vs,e,Aa.less bl r⟩
   .cases hf
  .cases hf
noncomputable def GB (g:FF):FF:=λds M=>if D.unds 0 ds then match g ds [] with
  |some (d,_)=>if D.und 0 d then some (d,M) else none
  |none=>none
 else none
def KQ {P:Ym} {w:Yo} {K:Yb} {mg:Yh} {base:Heap} {n:Nat} {g:FF} (h:FnOk P w K mg base CX0 k f fd ps (spF K n g)):FnOk P w K mg base CX0 k f fd ps (spF K n (GB g)) :=
 h.imp λvs H Q E ⟨L,ds,M,d,M',c,r,hl,hf,q⟩=>by
  unfold GB at hf;split at hf
  .rename_i hb0;split at hf
   .rename_i d' M1 e1;split at hf
    .rename_i hb;cases hf;refine ⟨[],ds,[],_,_,⟨rfl,.nil,λi a m e=>by simp at e,c.tab⟩,zK.less (L:=[]) (N:=L) hb0 (by simpa using r),hl,e1,λL1 H1 v s1 c1 r1=>?_⟩;exact q L H1 v s1.bare (c.bare s1) ((Rep.less (L:=[]) (N:=L1) hb (by simpa using r1)).more L |> λz=>by simpa using z)
    .cases hf
   .cases hf
  .cases hf
def Xu (hl:PE X l tl):PI X tg l (λY H R=>tl Y H λx H1=>∃ a,x=.ref a/\((∃ xs,SqL X.K H1 a xs)/\R (Itl X.K a) H1\/(∃ xs,SqT X.K H1 a xs)/\R (Itt X.K a) H1)):=by
 intro zB s Y H R I h;refine thn (hl zB s Y H _ I h) λv s1 ⟨y,H1,I1,r1,a,hy,h1⟩=>?_;subst hy;cases r1;have fpk:∀ b∈[s1.heap.objs.size],Bh X zB H1 b:=λb hb=>by
  have e:b=s1.heap.objs.size:=by simpa using hb
  subst e;exact I1.fpOk (AG _) (I1.hok.fresh (AG _))
 rcases h1 with ⟨⟨xs,hq⟩,q⟩|⟨⟨xs,hq⟩,q⟩
 .obtain ⟨its,rv,pl,hz⟩:=I1.list hq;exact wpAny_pyIter_list pl.isList ⟨s1.heap.objs.size,[s1.heap.objs.size],_,_,H1,rfl,I1.kept (t':=s1.toks) λb o e=>AJ _ e,Tn a _,⟨_,Aj _ rfl,rfl,rfl⟩,fpk,q⟩
 .obtain ⟨its,rv,pl,hz⟩:=I1.tuple hq;exact wpAny_pyIter_tuple (show s1.heap.IsTuple a its.toArray from pl) ⟨s1.heap.objs.size,[s1.heap.objs.size],_,_,H1,rfl,I1.kept (t':=s1.toks) λb o e=>AJ _ e,Zv a _,⟨_,Aj _ rfl,rfl,rfl⟩,fpk,q⟩
noncomputable def HR (x:EV) (xs:List D):Option (Mem->Prop):=match x with
 |.dat (.ref n)=>some λM=>M[n]?=some (.lst xs)\/M[n]?=some (.fro xs)
 |_=>none
noncomputable def AU (f:FE):FI:=λY M=>match f Y M with
 |some (x,M1)=>match Az M1 x with
  |some xs=>some (xs,HR x xs,M1)
  |none=>none
 |none=>none
noncomputable def zt (f:FA):FI:=λY M=>match f Y M with
 |some ([.int j],M1)=>if -(2 ^ 62)<=j/\j<2 ^ 62 then some ((List.range j.toNat).map λ(k:Nat)=>D.int k,none,M1) else none
 |some ([.int i,.int j],M1)=>if -(2 ^ 62)<=i/\i<2 ^ 62 /\ -(2 ^ 62)<=j/\j<2 ^ 62 then some ((List.range (j-i).toNat).map λ(k:Nat)=>D.int (i+k),none,M1) else none
 |_=>none
def UH (h:QE X e g):QI X tg e (AU g):=.mk <| PI.imp (Xu h.un) λτ H R zz=>by
 obtain ⟨L,Y,M,xs,gd,M',c,rs,hf,q⟩:=zz;unfold AU at hf;split at hf
 .rename_i y M1 e1;split at hf
  .rename_i zs e2;cases hf;refine (mkE c rs e1 (λL1 H1 v s1 c1 r1=>?_));unfold Az at e2;cases t:Cu y with
   |some ws=>
    rw[t]at e2;cases e2;obtain ⟨a,vs,rfl,e3,r3⟩:=Fi r1 t;refine ⟨a,rfl,.inr ⟨⟨vs,.of e3⟩,q L1 H1 _ s1 c1 λL2 H2 M2 s2 c2 _=>?_⟩⟩;have e4:=s2.tup a vs e3;have r4:=r3.stp s2;refine ⟨λi d hd=>?_,⟨vs,.of e4,by rw[r4.length];exact AG _⟩⟩;obtain ⟨u,hu,ru⟩:=r4.get hd;refine ⟨⟨vs,u,.of e4,hu⟩,λv H3 ⟨hH,hv⟩=>?_⟩;subst hH;have:=hv vs (.of e4);rw[hu]at this;cases this;exact ⟨λ_ _ z=>z,ru⟩
   |none=>
    rw[t]at e2;dsimp only at e2;obtain ⟨a,vs,rfl,e3,r3⟩:=Et c1 r1 e2;refine ⟨a,rfl,.inl ⟨⟨vs,.inl e3⟩,q L1 H1 _ s1 c1 λL2 H2 M2 s2 c2 hgd=>?_⟩⟩;have key:∃ vs',SqL X.K H2 a vs'/\zK L2 H2 xs vs':=by
     cases y with
     |fl ys=>
      cases e2;obtain ⟨p',vs',hp',_,e5,e6,r6⟩:=r1;cases hp';exact ⟨vs',.of (s2.old _ _ e5 e6 (by intro _ z;cases z)),r6.stp s2⟩
     |dat d=>
      cases d with
      |ref n=>
       unfold zk Rep at r1;obtain ⟨a',ha',e5⟩:=r1;cases ha';have e6:L2[n]?=some a:=by obtain ⟨N,hN⟩:=s2.pre;rw[hN];exact F8 e5
       rcases hgd with z|z
       .obtain ⟨vs',e7,r7⟩:=c2.obj n a _ e6 z;exact ⟨vs',.of e7,r7⟩
       .obtain ⟨o,vs',e7,r7⟩:=c2.obj n a _ e6 z;exact ⟨vs',.inl (.inr ⟨o,e7⟩),r7⟩
      |_=>cases e2
    obtain ⟨vs',hq,r7⟩:=key;refine ⟨λi d hd=>?_,⟨vs',hq,by rw[r7.length];exact AG _⟩⟩;obtain ⟨u,hu,ru⟩:=r7.get hd;refine ⟨⟨vs',u,hq,hu⟩,λv H3 ⟨hH,hv⟩=>?_⟩;subst hH;have:=hv vs' hq;rw[hu]at this;cases this;exact ⟨λ_ _ z=>z,ru⟩
  .cases hf
 .cases hf
def PJ (h:zK L H [.int j] vs):vs=[.int j]:=by
 unfold zK at h;obtain ⟨v,r,rfl,h1,h2⟩:=h;unfold zK at h2;unfold Rep at h1;subst h1 h2;rfl
def gP {K:Yb} {L:Yg} {H:Hp} {lo:Int} {n:Nat}:MG K (Itr lo n) L H ((List.range n).map λ(k:Nat)=>D.int (lo+k)) none:=by
 intro L' H' M' s c _;refine ⟨λi d hd=>?_,by simp[Itr]⟩;rw[Af]at hd;cases q:(List.range n)[i]? with
 |none=>rw[q]at hd;cases hd
 |some k=>
  rw[q]at hd;cases hd;have hi:i<n:=by have:=(AI.mp q).1;simpa using this
  rw[List.getElem?_range hi]at q;cases q;refine ⟨hi,λv H'' ⟨hH,hv⟩=>?_⟩;subst hH hv;exact ⟨λ_ _ z=>z,Cs⟩
def So {tg a:Expr} {g:FA} (hg:Gl X "range") (hm:X.mg "range" = none) (ha:QA X [a] g) (hl:Ik g 1) (hs:starEach [a] X.env=[(false,eval a X.env)]:=by rfl):QI X tg (.Call (.Name "range" p) [a] [] pos) (zt g) :=
 .mk <| PI.imp (Wz hg hm ha.un hs) λτ H R zz=>by
  obtain ⟨L,Y,M,xs,gd,M',c,rs,hf,q⟩:=zz;unfold zt at hf;split at hf
  .rename_i j M1 e1;split at hf
   .rename_i hb;cases hf;refine (mkA c rs e1 (λL1 H1 vs s1 c1 r1=>⟨j,PJ r1,hb.1,hb.2,q L1 H1 _ s1 c1 ?_⟩));have z:=gP (K:=X.K) (L:=L1) (H:=H1) (lo:=0) (n:=j.toNat);simpa using z
   .cases hf
  .rename_i e1;have:=hl _ _ _ _ e1;simp at this
  .cases hf
end
section
variable {X:Cx} {a b c e:Expr} {es rest:Yi} {pos p apos cpos:Pos}
noncomputable def BJ (f g:FT):FT:=λY M=>match f Y M with
 |some (true,M1)=>g Y M1
 |r=>r
noncomputable def BB (f g:FT):FT:=λY M=>match f Y M with
 |some (false,M1)=>g Y M1
 |r=>r
noncomputable def BM (f:FT):FT:=λY M=>match f Y M with
 |some (k,M1)=>some (!k,M1)
 |none=>none
structure QW (X:Cx) (e:Expr) (f:FT):Prop where
 un:PW X e (trT X.K f)
def PW.imp (h:PW X e t) (hi:∀ τ H Q,t' τ H Q->t τ H Q):PW X e t':=λwh zB s Y H Q I q=>h wh zB s Y H Q I (hi _ _ _ q)
def R7 (h:QT X a f):QW X (.BoolOp .And [a] pos) f:=.mk (XH h.un)
def XI (h:QT X a f):QW X (.BoolOp .Or [a] pos) f:=.mk (R8 h.un)
def NR (h1:QT X a f) (h2:QW X (.BoolOp .And (b::rest) pos) g):QW X (.BoolOp .And (a::b::rest) pos) (BJ f g):=.mk <| PW.imp (gO h1.un h2.un) λτ H Q zz=>by
 obtain ⟨L,Y,M,d,M',c,rs,hf,q⟩:=zz;unfold BJ at hf;split at hf
 .rename_i M1 e1;exact (mkT c rs e1 (λL1 H1 s1 c1=>Dn (mkT c1 (rs.stp s1) hf (λL2 H2 s2 c2=>q L2 H2 (s1.trans s2) c2))))
 .rename_i hne;cases d with
  |true=>exact absurd hf (hne M')
  |false=>exact (mkT c rs hf (λL1 H1 s1 c1=>D3 (q L1 H1 s1 c1)))
def T9 (h1:QT X a f) (h2:QW X (.BoolOp .Or (b::rest) pos) g):QW X (.BoolOp .Or (a::b::rest) pos) (BB f g):=.mk <| PW.imp (VJ h1.un h2.un) λτ H Q zz=>by
 obtain ⟨L,Y,M,d,M',c,rs,hf,q⟩:=zz;unfold BB at hf;split at hf
 .rename_i M1 e1;exact (mkT c rs e1 (λL1 H1 s1 c1=>D3 (mkT c1 (rs.stp s1) hf (λL2 H2 s2 c2=>q L2 H2 (s1.trans s2) c2))))
 .rename_i hne;cases d with
  |false=>exact absurd hf (hne M')
  |true=>exact (mkT c rs hf (λL1 H1 s1 c1=>Dn (q L1 H1 s1 c1)))
def Mz (h:QW X e f):QT X e f:=.mk (PW.pt h.un)
def Wh (h:QT X a f):QT X (.UnaryOp .Not a pos) (BM f):=.mk <| PT.imp (b5 h.un) λτ H Q zz=>by
 obtain ⟨L,Y,M,d,M',c,rs,hf,q⟩:=zz;unfold BM at hf;split at hf
 .rename_i k M1 e1;cases hf;exact (mkT c rs e1 (λL1 H1 s1 c1=>q L1 H1 s1 c1))
 .cases hf
noncomputable def Bu (f g:FE):FE:=λY M=>match f Y M with
 |some (.dat (.bl true),M1)=>g Y M1
 |some (.dat (.bl false),M1)=>some (.dat (.bl false),M1)
 |_=>none
noncomputable def DY (f:FE):FE:=λY M=>match f Y M with
 |some (.dat (.bl k),M1)=>some (.dat (.bl (!k)),M1)
 |_=>none
def Fb (h:zk H0 L H (.dat (.bl k)) v):v=.bl k:=by unfold zk Rep at h;exact h
def Vt {op} (h:QE X a f):QE X (.BoolOp op [a] pos) f:=.mk (UG h.un)
def UB (h1:QE X a f) (h2:QE X (.BoolOp .And (b::rest) pos) g):QE X (.BoolOp .And (a::b::rest) pos) (Bu f g):=.mk <| PE.imp (Sm h1.un h2.un) λτ H Q zz=>by
 obtain ⟨L,Y,M,d,M',c,rs,hf,q⟩:=zz;unfold Bu at hf;split at hf
 .rename_i M1 e1;exact (mkE c rs e1 (λL1 H1 v s1 c1 r1=>⟨true,Fb r1,Dn (mkE c1 (rs.stp s1) hf (λL2 H2 w s2 c2 r2=>q L2 H2 w (s1.trans s2) c2 (r2.back s1 c s2.sub)))⟩))
 .rename_i M1 e1;cases hf;exact (mkE c rs e1 (λL1 H1 v s1 c1 r1=>⟨false,Fb r1,D3 (q L1 H1 _ s1 c1 (by have:=Fb r1;subst this;exact r1))⟩))
 .cases hf
def gH (h:QE X a f):QE X (.UnaryOp .Not a pos) (DY f):=.mk <| PE.imp (Ut h.un) λτ H Q zz=>by
 obtain ⟨L,Y,M,d,M',c,rs,hf,q⟩:=zz;unfold DY at hf;split at hf
 .rename_i k M1 e1;cases hf;exact (mkE c rs e1 (λL1 H1 v s1 c1 r1=>⟨k,Fb r1,q L1 H1 _ s1 c1 (by unfold zk Rep;rfl)⟩))
 .cases hf
noncomputable def vIf (t:FT) (f g:FE):FE:=λY M=>match t Y M with
 |some (true,M1)=>f Y M1
 |some (false,M1)=>g Y M1
 |none=>none
def ZZ (hc:QT X c t) (h1:QE X a f) (h2:QE X b g):QE X (.IfExp c a b pos) (vIf t f g):=.mk <| PE.imp (XB hc.un h1.un h2.un) λτ H Q zz=>by
 obtain ⟨L,Y,M,d,M',c,rs,hf,q⟩:=zz;unfold vIf at hf;split at hf
 .rename_i M1 e1;exact (mkT c rs e1 (λL1 H1 s1 c1=>Dn (mkE c1 (rs.stp s1) hf (λL2 H2 w s2 c2 r2=>q L2 H2 w (s1.trans s2) c2 (r2.back s1 c s2.sub)))))
 .rename_i M1 e1;exact (mkT c rs e1 (λL1 H1 s1 c1=>D3 (mkE c1 (rs.stp s1) hf (λL2 H2 w s2 c2 r2=>q L2 H2 w (s1.trans s2) c2 (r2.back s1 c s2.sub)))))
 .cases hf
noncomputable abbrev KM:=EV->List D->Mem->Option (D × Mem)
noncomputable def fM (k:KM) (f:FE) (g:FA):FE:=λY M=>match f Y M with
 |some (x,M1)=>match CJ M1 x with
  |some _=>match g Y M1 with
   |some (ds,M2)=>match k x ds M2 with
    |some (d,M3)=>some (.dat d,M3)
    |none=>none
   |none=>none
  |none=>none
 |none=>none
def JQ (K:Yb) (r:V->List V->Hp->VK->Prop) (k:KM):Prop:=∀ {L:Yg} {M M':Mem} {H H0:Hp} {x:EV} {ds:List D} {d:D} {v:V} {vs:List V} {Q:VK},Cor K L M H->zk H0 L H x v->zK L H ds vs->k x ds M=some (d,M') ->
 (∀ L' H' u,Stp L H L' H'->Cor K L' M' H'->Rep L' H' d u->Q u H')->r v vs H Q
def Kd {K:PySem.W.Frag} {r:V->List V->Hp->VK->Prop} {k:KM} {f:FE} {g:FA} (hk:JQ K r k) {τ:Sv} {H:Hp} {Q:VK} (h:trE K (fM k f g) τ H Q):tBM K "list" r (trE K f) (trA K g) τ H Q:=by
 obtain ⟨L,Y,M,d,M',c,rs,hf,q⟩:=h;unfold fM at hf;split at hf
 .rename_i x M1 e1;split at hf
  .rename_i xs e2;split at hf
   .rename_i ds M2 e3;split at hf
    .rename_i d' M3 e4;cases hf;refine (mkE c rs e1 (λL1 H1 v s1 c1 r1=>?_));obtain ⟨a,vs,rfl,e5,r5⟩:=Et c1 r1 e2;refine ⟨.inl ⟨rfl,vs,.inl e5⟩,L1,Y,M1,_,_,c1,rs.stp s1,e3,λL2 H2 ws s2 c2 r2=>?_⟩;exact hk c2 (r1.stp s2) r2 e4 λL3 H3 u s3 c3 r3=>q L3 H3 u ((s1.trans s2).trans s3) c3 r3
    .cases hf
   .cases hf
  .cases hf
 .cases hf
noncomputable def zw:KM:=λx ds M=>match x,ds with
 |.dat (.ref n),[d]=>match M[n]? with
  |some (.lst xs)=>if xs.length<sizeLine then some (.non,M.set n (.lst (xs++[d]))) else none
  |_=>none
 |_,_=>none
def zK.one (h:zK L H [d] vs):∃ v,vs=[v]/\Rep L H d v:=by
 unfold zK at h;obtain ⟨v,r,rfl,h1,h2⟩:=h;unfold zK at h2;subst h2;exact ⟨v,rfl,h1⟩
def Rj {K:Yb}:JQ K Mn zw:=by
 intro L M M' H H0 x ds d v vs Q c rx rd hk q;unfold zw at hk;split at hk
 .rename_i n d';split at hk
  .rename_i xs e1;split at hk
   .rename_i hz;cases hk;unfold zk Rep at rx;obtain ⟨a,rfl,e2⟩:=rx;obtain ⟨ws,e3,r3⟩:=c.obj n a _ e2 e1;obtain ⟨w,rfl,r4⟩:=rd.one;obtain ⟨c5,s5⟩:=c.write e2 e1 (r3.app (.cons r4 .nil));exact ⟨a,ws,w,rfl,rfl,e3,by rw[r3.length];exact hz,q L _ _ s5 c5 (by unfold Rep;rfl)⟩
   .cases hk
  .cases hk
 .cases hk
def Rt (h:QE X a f) (hg:QA X [e] g) (hbase:attributeBase a "append" X.env (eval a X.env)=eval a X.env:=by rfl)
  (hfew:((backTo cpos (starEach [e] X.env)).all (λx=> !x.1)&&(backToKw cpos (keywordEach [] X.env)).all (λx=>x.1.isSome)&&decide ([e].length+([]:List Keyword).length+(if ([]:List Keyword).isEmpty then 0 else 1)<30))=true:=by rfl)
  (hline:(apos.endLine==cpos.line)=true:=by rfl) (hs:starEach [e] X.env=(false,eval e X.env)::starEach [] X.env:=by rfl) (hplain:(backTo cpos (starEach [] X.env)).any (·.1)=false:=by rfl) :
  QE X (.Call (.Attribute a "append" apos) [e] [] cpos) (fM zw f g) :=
 .mk <| PE.imp (Jx PySem.F.plainAttrs_list PySem.F.slot_list_append PySem.F.type_list_append Zk h.un hg.un hbase hfew hline hs hplain) λ_ _ _ z=>Kd Rj z
noncomputable def DN:KM:=λx ds M=>match x,ds with
 |.dat (.ref n),[.int i]=>match M[n]? with
  |some (.lst xs)=>match ixN xs.length i with
   |some k=>match xs[k]? with
    |some d=>if -(2 ^ 63)<=i/\i<2 ^ 63 then some (d,M.set n (.lst (xs.eraseIdx k))) else none
    |none=>none
   |none=>none
  |_=>none
 |_,_=>none
def Sh {K:Yb}:JQ K NF DN:=by
 intro L M M' H H0 x ds d v vs Q c rx rd hk q;unfold DN at hk;split at hk
 .rename_i n i;split at hk
  .rename_i xs e1;split at hk
   .rename_i k e2;split at hk
    .rename_i d' e3;split at hk
     .rename_i hb;cases hk;unfold zk Rep at rx;obtain ⟨a,rfl,e4⟩:=rx;obtain ⟨ws,e5,r5⟩:=c.obj n a _ e4 e1;obtain ⟨u,e6,r6⟩:=r5.get e3;obtain ⟨c5,s5⟩:=c.write e4 e1 (r5.eraseIdx k);exact ⟨a,ws,i,k,u,rfl,PJ rd,e5,hb.1,hb.2,by rw[r5.length];exact (KC e2).1,e6,q L _ _ s5 c5 (r6.stp s5)⟩
     .cases hk
    .cases hk
   .cases hk
  .cases hk
 .cases hk
def YJ (h:QE X a f) (hg:QA X [e] g) (hbase:attributeBase a "pop" X.env (eval a X.env)=eval a X.env:=by rfl)
  (hfew:((backTo cpos (starEach [e] X.env)).all (λx=> !x.1)&&(backToKw cpos (keywordEach [] X.env)).all (λx=>x.1.isSome)&&decide ([e].length+([]:List Keyword).length+(if ([]:List Keyword).isEmpty then 0 else 1)<30))=true:=by rfl)
  (hline:(apos.endLine==cpos.line)=true:=by rfl) (hs:starEach [e] X.env=(false,eval e X.env)::starEach [] X.env:=by rfl) (hplain:(backTo cpos (starEach [] X.env)).any (·.1)=false:=by rfl) :
  QE X (.Call (.Attribute a "pop" apos) [e] [] cpos) (fM DN f g) :=
 .mk <| PE.imp (Jx PySem.F.plainAttrs_list PySem.F.slot_list_pop PySem.F.type_list_pop ZP h.un hg.un hbase hfew hline hs hplain) λ_ _ _ z=>Kd Sh z
noncomputable def Hq (x:EV) (i:D) (d:D) (M:Mem):Option Mem:=match x,i with
 |.dat (.ref n),.int i=>match M[n]? with
  |some (.lst xs)=>match ixN xs.length i with
   |some j=>some (M.set n (.lst (xs.set j d)))
   |none=>none
  |_=>none
 |_,_=>none
noncomputable def EB (fv fo fi:FE):FS:=λY M=>match toD fv Y M with
 |some (d,M1)=>match fo Y M1 with
  |some (x,M2)=>match toD fi Y M2 with
   |some (i,M3)=>match Hq x i d M3 with
    |some M4=>some (.nx,Y,M4)
    |none=>none
   |none=>none
  |none=>none
 |none=>none
def Wd (hv:QE X v fv) (ho:QE X o fo) (hi:QE X i fi)
  (ha:∀ v,assign (.Subscript o i p) X.env v=(do
   let ov <- holding [v] (eval o X.env);let iv <- holding [v,ov] (eval i X.env);standAt p;holding [v,ov,iv] (setItem ov iv v);release [v,ov,iv] []):=by intro _;rfl)
  (hs:swapsWithSole [.Subscript o i p] v pos.line X.env=pure false:=by rfl) (hw:swappedStores [.Subscript o i p] v X.env=pure none:=by rfl) (h1:(assignEach [.Subscript o i p] X.env).map (·.2)=[assign (.Subscript o i p) X.env]:=by rfl) :
  QS X (.Assign [.Subscript o i p] v pos) (EB fv fo fi):=.mk <| PS.imp (S7 (Bt hv).un (bX ho.un (Bt hi).un cU ha) hs hw h1) λE τ H zz=>by
 obtain ⟨L,Y,M,out,Y',M',c,rs,hf,q⟩:=zz;unfold EB at hf;split at hf
 .rename_i d M1 e1;split at hf
  .rename_i x M2 e2;split at hf
   .rename_i j M3 e3;split at hf
    .rename_i M4 e4;cases hf;refine ⟨L,Y,M,_,_,c,rs,e1,λL1 H1 u s1 c1 r1=>⟨L1,Y,M1,_,_,c1,rs.stp s1,e2,λL2 H2 w s2 c2 r2=>⟨L2,Y,M2,_,_,c2,rs.stp (s1.trans s2),e3,λL3 H3 z s3 c3 r3=>?_⟩⟩⟩;have st:=(s1.trans s2).trans s3;unfold Hq at e4;split at e4
     .rename_i n k;split at e4
      .rename_i xs e5;split at e4
       .rename_i m e6;cases e4;have r2':=r2.stp s3;unfold zk Rep at r2';obtain ⟨a,rfl,e7⟩:=r2';obtain ⟨ws,e8,r8⟩:=c3.obj n a _ e7 e5;obtain ⟨c9,s9⟩:=c3.write e7 e5 (zK.set ((r1.stp s2).stp s3) m r8);exact ⟨a,ws,k,m,rfl,by unfold Rep at r3;exact r3,e8,by rw[r8.length];exact e6,q L3 _ (st.trans s9) c9 τ ((rs.stp st).stp s9)⟩
       .cases e4
      .cases e4
     .cases e4
    .cases hf
   .cases hf
  .cases hf
 .cases hf
noncomputable def Gd:D->Option V
 |.non=>some .non
 |.bl k=>some (.bl k)
 |.int i=>some (.int i)
 |.str x=>some (.str x)
 |_=>none
def Jc (h:Rep L H d v) (e:Gd d=some u):v=u:=by
 cases d with
 |non=>cases e;unfold Rep at h;exact h
 |bl _=>cases e;unfold Rep at h;exact h
 |int _=>cases e;unfold Rep at h;exact h
 |str _=>cases e;unfold Rep at h;exact h
 |tup _=>cases e
 |ref _=>cases e
 |fn _ _=>cases e
noncomputable def GS (neg:Bool):K2:=λx y M=>match x,y with
 |.dat d,.dat d'=>match Gd d,Gd d' with
  |some u,some w=>if JW u w then some (.dat (.bl (if neg then !decide (u=w) else decide (u=w))),M) else none
  |_,_=>none
 |_,_=>none
def OM (h:GS neg x y M=some (r,M')):∃ d d' u w,x=.dat d/\y=.dat d'/\Gd d=some u/\Gd d'=some w/\JW u w=true/\r=.dat (.bl (if neg then !decide (u=w) else decide (u=w)))/\M'=M:=by
 unfold GS at h;split at h
 .rename_i d d';split at h
  .rename_i u w e1 e2;split at h
   .rename_i hs;cases h;exact ⟨d,d',u,w,rfl,rfl,e1,e2,hs,rfl,rfl⟩
   .cases h
  .cases h
 .cases h
def Qx {K:Yb}:BL K rEq (GS false):=by
 intro L M M' H H0 x y d v w Q c rx ry hk q;obtain ⟨d1,d2,u,z,rfl,rfl,e1,e2,hs,rfl,rfl⟩:=OM hk;have a1:=Jc rx e1;have a2:=Jc ry e2;subst a1 a2;exact ⟨hs,q L H _ (.refl L H) c (Ce (L:=L) (H:=H))⟩
def VH {K:Yb}:BL K rNe (GS true):=by
 intro L M M' H H0 x y d v w Q c rx ry hk q;obtain ⟨d1,d2,u,z,rfl,rfl,e1,e2,hs,rfl,rfl⟩:=OM hk;have a1:=Jc rx e1;have a2:=Jc ry e2;subst a1 a2;exact ⟨hs,q L H _ (.refl L H) c (Ce (L:=L) (H:=H))⟩
noncomputable def LS (neg:Bool) (K:Yb):R2:=λx y H Q=>∃ p q xs,x=.ref p/\y=.ref q/\SqL K H p xs/\SqL K H q []/\Q (.bl (if neg then !xs.isEmpty else xs.isEmpty)) H
def MD (r:zX [] its):its=[]:=by cases r;rfl
def Nf (hu:X.A.units<cLine):OpR X (compareOp .Eq) (LS false X.K):=by
 intro zB s Y H x y v u Q I rx ry h;obtain ⟨p,q,xs,rfl,rfl,h1,h2,hq⟩:=h;cases rx;cases ry;obtain ⟨its,rv,pl,_⟩:=I.list h1;obtain ⟨its2,rv2,pl2,_⟩:=I.list h2;cases MD rv2;cases rv with
 |nil=>exact SeqAt.eq_listAt (e:=λ_=>true) pl.isList pl2.isList rfl hu (λj h1=>by simp at h1) ⟨.bl true,H,I,rfl,hq⟩
 |cons _ _=>exact SeqAt.eq_list_lengthsAt pl.isList pl2.isList (by simp) hu ⟨.bl false,H,I,rfl,hq⟩
def ZK (hu:X.A.units<cLine):OpR X (compareOp .NotEq) (LS true X.K):=by
 intro zB s Y H x y v u Q I rx ry h;obtain ⟨p,q,xs,rfl,rfl,h1,h2,hq⟩:=h;cases rx;cases ry;obtain ⟨its,rv,pl,_⟩:=I.list h1;obtain ⟨its2,rv2,pl2,_⟩:=I.list h2;cases MD rv2;cases rv with
 |nil=>exact SeqAt.RcNeAt.lists (e:=λ_=>true) pl.isList pl2.isList rfl hu (λj h1=>by simp at h1) _ _ _ _ ⟨.bl false,H,I,rfl,hq⟩
 |cons _ _=>exact SeqAt.RcNeAt.lists_lengths pl.isList pl2.isList (by simp) hu _ _ _ _ ⟨.bl true,H,I,rfl,hq⟩
noncomputable def He (neg:Bool):K2:=λx y M=>match CJ M x,CJ M y with
 |some xs,some []=>some (.dat (.bl (if neg then !xs.isEmpty else xs.isEmpty)),M)
 |_,_=>none
def Jw {K:Yb} {neg:Bool}:BL K (LS neg K) (He neg):=by
 intro L M M' H H0 x y d v w Q c rx ry hk q;unfold He at hk;split at hk
 .rename_i xs e1 e2;cases hk;obtain ⟨p1,vs,rfl,h1,r1⟩:=Et c rx e1;obtain ⟨p2,ws,rfl,h2,r2⟩:=Et c ry e2;unfold zK at r2;subst r2;refine ⟨p1,p2,vs,rfl,rfl,.inl h1,.inl h2,q L H _ (.refl L H) c ?_⟩;have:vs.isEmpty=xs.isEmpty:=by
   have:=r1.length;cases vs <;> cases xs <;> simp_all
  rw[this];exact (Ce (L:=L) (H:=H))
 .cases hk
noncomputable def kOr (k1 k2:K2):K2:=λx y M=>match k1 x y M with
 |some r=>some r
 |none=>k2 x y M
def IT {K:Yb} {r1 r2:R2} {k1 k2:K2} (h1:BL K r1 k1) (h2:BL K r2 k2):BL K (λx y H Q=>r1 x y H Q\/r2 x y H Q) (kOr k1 k2):=by
 intro L M M' H H0 x y d v w Q c rx ry hk q;unfold kOr at hk;split at hk
 .rename_i r e1;cases hk;exact .inl (h1 c rx ry e1 q)
 .exact .inr (h2 c rx ry hk q)
noncomputable abbrev kEq:K2:=kOr (GS false) (He false)
noncomputable abbrev kNe:K2:=kOr (GS true) (He true)
variable {f g:FE}
def gF (hu:X.A.units<cLine) (h1:QE X a f) (h2:QE X b g):QE X (.Compare a [.Eq] [b] pos) (fOp kEq f g):=J6 (IT Qx Jw) (OJ.or (Nf hu)) h1 h2 (F0 _)
def Vn (hu:X.A.units<cLine) (h1:QE X a f) (h2:QE X b g):QT X (.Compare a [.Eq] [b] pos) (tst (fOp kEq f g)):=G2 (IT Qx Jw) (OJ.or (Nf hu)) h1 h2 (F0 _)
def RX (hu:X.A.units<cLine) (h1:QE X a f) (h2:QE X b g):QT X (.Compare a [.NotEq] [b] pos) (tst (fOp kNe f g)):=G2 (IT VH Jw) (VR.or (ZK hu)) h1 h2 (F0 _)
noncomputable def Cd:KB:=λxs M=>match xs with
 |[.dat (.int i)]=>some (.dat (.int i),M)
 |[.dat (.bl k)]=>some (.dat (.int (if k then 1 else 0)),M)
 |_=>none
def Uu {K:Yb}:D7 K (λxs H Q=>(∃ i,xs=[.int i]/\Q (.int i) H) \/ ∃ k,xs=[.bl k]/\Q (.int (if k then 1 else 0)) H) Cd:=by
 intro L M M' H H0 xs d vs Q c r hk q;unfold Cd at hk;split at hk
 .rename_i i;cases hk;obtain ⟨v,rfl,r1⟩:=r.one;have:v=.int i:=by unfold zk Rep at r1;exact r1
  subst this;exact .inl ⟨i,rfl,q L H _ (.refl L H) c (Cs (L:=L) (H:=H))⟩
 .rename_i k;cases hk;obtain ⟨v,rfl,r1⟩:=r.one;have:=Fb r1;subst this;exact .inr ⟨k,rfl,q L H _ (.refl L H) c (Cs (L:=L) (H:=H))⟩
 .cases hk
end
section
variable {X:Cx} {a b c e:Expr} {es rest:Yi} {pos p apos cpos:Pos}
def fG {prog:Ym} {w:Yo} {A:Yn} {E:Yc} {s:Yl} {t b:Yt} {ws:Yf} {Q:Yc} (ht:IsTup s.heap t #[]) (hb:IsTup s.heap b ws.toArray) (h1:Q (.ref b) s) :
  wpAny (model prog w) A (binaryOp .Add (.ref t) (.ref b)) Q E s:=by
 obtain ⟨⟨cls,dd,data,sl⟩,ho,hc,n,hd⟩:=id ht;obtain ⟨⟨cls2,dd2,data2,sl2⟩,ho2,hc2,n2,hd2⟩:=id hb;simp only at hc hd hc2 hd2;subst hc hd hc2 hd2
 exact concat_meets ⟨_,ho,rfl⟩ ⟨_,ho2,rfl⟩ noFill_tuple_add seq_tuple_add PySem.F.slot_tuple_add PySem.F.entry_tuple_add (PySem.F.args_tuple_add_2 _ _)
   (tuple_addW0 t b #[] ws.toArray n n2 dd dd2 sl sl2 (by simp)) ⟨ho,ho2,h1⟩
noncomputable def Mp (K:Yb):R2:=λx y H Q=>∃ a b ys,x=.ref a/\y=.ref b/\SqT K H a []/\SqT K H b ys/\Q (.ref b) H
def R4:OpR X (binaryOp .Add) (Mp X.K):=by
 intro zB s Y H x y v u Q I rx ry h;obtain ⟨a,b,ys,rfl,rfl,ha,hb,q⟩:=h;cases rx;cases ry;obtain ⟨its,r1,p1,_⟩:=I.tuple ha;obtain ⟨its2,r2,p2,_⟩:=I.tuple hb;cases MD r1;exact fG p1 p2 ⟨.ref b,H,I,rfl,q⟩
noncomputable def HU:K2:=λx y M=>match Cu x,Cu y with
 |some xs,some ys=>if xs.length+ys.length<=sizeLine then some (.dat (.tup (xs++ys)),M) else none
 |_,_=>none
def Um {K:Yb}:BL K (λx y H Q=>Nt K x y H Q\/Mp K x y H Q) HU:=by
 intro L M M' H H0 x y d v w Q c rx ry hk q;unfold HU at hk;split at hk
 .rename_i xs ys e1 e2;split at hk
  .rename_i hz;cases hk;obtain ⟨p1,vs,rfl,h1,r1⟩:=Fi rx e1;obtain ⟨p2,ws,rfl,h2,r2⟩:=Fi ry e2;cases xs with
   |nil=>
    refine .inr ⟨p1,p2,ws,rfl,rfl,.of (by unfold zK at r1;subst r1;exact h1),.of h2,q L H _ (.refl L H) c ?_⟩;unfold zk Rep;exact ⟨p2,ws,rfl,h2,r2⟩
   |cons x0 xr=>
    have hv:vs≠[]:=λz=>by have:=r1.length;rw[z]at this;simp at this
    refine .inl ⟨p1,p2,vs,ws,rfl,rfl,.of h1,.of h2,hv,by rw[r1.length,r2.length];exact hz,λz=>?_,λz pp hp=>?_⟩
    .have:ys=[]:=by
      have:=r2.length;rw[z]at this;cases ys with
      |nil=>rfl
      |cons _ _=>simp at this
     subst this;refine q L H _ (.refl L H) c ?_;unfold zk Rep;rw[By];exact ⟨p1,vs,rfl,h1,r1⟩
    .exact q L _ _ (.upd hp) (c.upd hp) (Rep.newTup hp (r1.app r2))
  .cases hk
 .cases hk
noncomputable abbrev zY:K2:=kOr ZA HU
variable {f g:FE}
def Xm (h1:QE X a f) (h2:QE X b g):QE X (.BinOp a .Add b pos) (fOp zY f g):=Fm (IT (Fl λ_ _ _ _=>Cs) Um) (TV.or (Rq.or R4)) h1 h2
structure Kinds (K:Yb):Prop where
 k:∀ t T,t∈["NoneType", "bool", "int", "str", "list", "tuple", "dict"]->T∈["int", "bool", "str", "tuple"]->PySem.W.kitOne K (.type t) (.type T)=some (decide (t=T)||(decide (t = "bool")&&decide (T = "int")))
noncomputable def DG (M:Mem):EV->Option String
 |.dat .non=>some "NoneType"
 |.dat (.bl _)=>some "bool"
 |.dat (.int _)=>some "int"
 |.dat (.str _)=>some "str"
 |.dat (.tup _)=>some "tuple"
 |.fl _=>some "list"
 |.dat (.ref n)=>match M[n]? with
  |some (.lst _)=>some "list"
  |some (.fro _)=>some "list"
  |some (.dict _)=>some "dict"
  |some (.dicT _)=>some "dict"
  |_=>none
 |.dat (.fn _ _)=>none
def V7 {K:PySem.W.Frag} {L:List Addr} {M:Mem} {H H0:Hp} {x:EV} {v:V} {t:String} (c:Cor K L M H) (r:zk H0 L H x v) (h:DG M x=some t):TyOf K H v (.type t)/\t∈["NoneType", "bool", "int", "str", "list", "tuple", "dict"]:=by
 unfold DG at h;split at h
 .cases h;unfold zk Rep at r;subst r;exact ⟨.non,by simp⟩
 .cases h;unfold zk Rep at r;subst r;exact ⟨.bl _,by simp⟩
 .cases h;unfold zk Rep at r;subst r;exact ⟨.int _,by simp⟩
 .cases h;unfold zk Rep at r;subst r;exact ⟨.str _,by simp⟩
 .cases h;unfold zk Rep at r;obtain ⟨a,vs,rfl,e,_⟩:=r;exact ⟨.tup e,by simp⟩
 .cases h;obtain ⟨p,vs,rfl,_,e,_⟩:=r;exact ⟨.lst e,by simp⟩
 .unfold zk Rep at r;obtain ⟨a,rfl,e⟩:=r;split at h
  .rename_i e1;cases h;obtain ⟨vs,q,_⟩:=c.obj _ a _ e e1;exact ⟨.lst q,by simp⟩
  .rename_i e1;cases h;obtain ⟨o,vs,q,_⟩:=c.obj _ a _ e e1;exact ⟨.frz q,by simp⟩
  .rename_i e1;cases h;obtain ⟨vs,q,_⟩:=c.obj _ a _ e e1;exact ⟨.dK q,by simp⟩
  .rename_i e1;cases h;obtain ⟨vs,q,_⟩:=c.obj _ a _ e e1;exact ⟨.dT q,by simp⟩
  .cases h
 .cases h
noncomputable def isT (t T:String):Bool:=decide (t=T)||(decide (t = "bool")&&decide (T = "int"))
noncomputable def BK (T:String) (f:FE):FE:=λY M=>match f Y M with
 |some (x,M1)=>match DG M1 x with
  |some t=>some (.dat (.bl (isT t T)),M1)
  |none=>none
 |none=>none
def Qq (K:Yb) (T:String):List V->Hp->VK->Prop:=λxs H Q=>∃ x t b,xs=[x,.ty T]/\TyOf K H x t/\PySem.W.kitOne K t (.type T)=some b/\Q (.bl b) H
def fE:Cm X (.builtin "isinstance") (Qq X.K T):=by
 intro zB s Y H xs us Q I r h;obtain ⟨x,t,b,rfl,ty,e,q⟩:=h;cases r with
 |cons r1 r2=>
  cases r2 with
  |cons r3 r4=>
   cases r4;cases r3;exact Y7 I r1 ty e λtk=>⟨.bl b,H,I.tok _,rfl,q⟩
def K9 (hK:Kinds X.K) (hT:T∈["int", "bool", "str", "tuple"]) (hg:Gl X "isinstance") (hm:X.mg "isinstance" = none) (hg2:Gl X y) (hm2:X.mg y=none) (hv2:bootBuiltins y=some (.type T)) (hn2:y ≠ "__name__") (hd2:(y==("__debug__" : Str))=false) (h:QE X e f)
  (he:starEach (e::[.Name y p2]) X.env=(false,eval e X.env)::starEach [.Name y p2] X.env:=by rfl) (he2:starEach [.Name y p2] X.env=(false,eval (.Name y p2) X.env)::starEach [] X.env:=by rfl) (hpl:(backTo pos (starEach [.Name y p2] X.env)).any (·.1)=false:=by rfl) :
  QE X (.Call (.Name "isinstance" p1) [e,.Name y p2] [] pos) (BK T f) :=
 .mk <| PE.imp (Qv (r:=Qq X.K T) fE hg hm (by rfl) (Gm h.un (Gm (bW (v:=.ty T) hg2 hm2 hv2 rfl hn2 hd2) HW he2) he) (by decide) (by decide) he hpl) λτ H Q zz=>by
  obtain ⟨L,Y,M,d,M',c,rs,hf,q⟩:=zz;unfold BK at hf;split at hf
  .rename_i x M1 e1;split at hf
   .rename_i t e2;cases hf;refine (mkE c rs e1 (λL1 H1 v s1 c1 r1=>?_));obtain ⟨ty,ht⟩:=V7 c1 r1 e2;exact ⟨v,_,_,rfl,ty,hK.k t T ht hT,q L1 H1 _ s1 c1 (Ce (L:=L1) (H:=H1))⟩
   .cases hf
  .cases hf
def zK.two (h:zK L H [d,d'] vs):∃ v v',vs=[v,v']/\Rep L H d v/\Rep L H d' v':=by
 unfold zK at h;obtain ⟨v,r,rfl,h1,h2⟩:=h;obtain ⟨v',rfl,h3⟩:=h2.one;exact ⟨v,v',rfl,h1,h3⟩
section
variable {fa:FAE}
def TU (hg:Gl X "len") (hm:X.mg "len" = none) (ha:QAE X [e] fa) (he:starEach [e] X.env=(false,eval e X.env)::starEach [] X.env:=by rfl) (hpl:(backTo pos (starEach [] X.env)).any (·.1)=false:=by rfl):QE X (.Call (.Name "len" p) [e] [] pos) (fB zV fa) :=
 HZ Zt V9 PySem.boot_len hg hm ha (by decide) (by decide) he hpl
def X9 (hg:Gl X "tuple") (hm:X.mg "tuple" = none) (ha:QAE X [e] fa) (he:starEach [e] X.env=(false,eval e X.env)::starEach [] X.env:=by rfl) (hpl:(backTo pos (starEach [] X.env)).any (·.1)=false:=by rfl):QE X (.Call (.Name "tuple" p) [e] [] pos) (fB Av fa) :=
 KP Vi eE (by rfl) hg hm ha (by decide) (by decide) he hpl
def SN (hg:Gl X "int") (hm:X.mg "int" = none) (ha:QAE X [e] fa) (he:starEach [e] X.env=(false,eval e X.env)::starEach [] X.env:=by rfl) (hpl:(backTo pos (starEach [] X.env)).any (·.1)=false:=by rfl):QE X (.Call (.Name "int" p) [e] [] pos) (fB Cd fa) :=
 KP Uu Vv (by rfl) hg hm ha (by decide) (by decide) he hpl
end
end
noncomputable def Il (sc scope:Y0):Bool:=scope.names.all λy=>
 (y.2 != .local||scope.names.lookup y.1==some .local)&&(y.2 != .cell||scope.names.lookup y.1==some .cell)&&(y.2 != .free||(sc.names.lookup y.1==some .cell||sc.names.lookup y.1==some .free))
noncomputable def JM (N:Yk) (scope:Y0) (own:Yj):Bool:=(List.range N.length).all λi=>match N[i]? with
 |some x=>decide (i∈own)||(scope.names.lookup x==none)||(scope.names.lookup x==some .free)
 |none=>true
def OH (hk:scope.kind=.function) (hs:X.env.scope=sc) (hN:X.N=N) (h1:Il sc scope=true) (h2:JM N scope own=true):CompIn X scope own:=by
 unfold Il at h1;rw[Ae]at h1;refine ⟨⟨hk,λy hy e=>?_,λy hy e=>?_,λy hy e=>?_⟩,λi x e=>?_⟩
 .have:=h1 y hy;simp[e]at this;exact this
 .have:=h1 y hy;simp[e]at this;exact this
 .have:=h1 y hy;simp[e]at this;show X.env.scope.names.lookup y.1=_\/X.env.scope.names.lookup y.1=_;rw[hs];exact this
 .unfold JM at h2;rw[Ae]at h2;rw[hN]at e;have hi:i<N.length:=(AI.mp e).1;have:=h2 i (by simpa using hi);rw[e]at this;simp only[Bool.or_eq_true,DS,beq_iff_eq,or_assoc]at this;exact this
noncomputable def JX (K:Yb):Bool:=K.all λp=>match p.2.cls with
 |.type n=>n != "list"
 |_=>true
theorem OO:∀ {K:Yb},K.lookup a=some o->(a,o)∈K
 |[],h=>by cases h
 | (b,u)::r,h=>by
  have h':List.lookup a ((b,u)::r)=some o:=h;rw[FC]at h';cases q:a==b with
  |true=>rw[q]at h';cases h';rw[beq_iff_eq.mp q];exact Ah
  |false=>rw[q]at h';exact BS _ (OO h')
def WX {K:PySem.W.Frag} (h:JX K=true) {o:Obj} (e:K.lookup a=some o) (hc:o.cls=.type "list"):False:=by
 unfold JX at h;rw[Ae]at h;have:=h (a,o) (OO e);simp[hc]at this
theorem Nh:∀ (ns:Ye),zK L H (ns.map D.int) (ns.map V.int)
 |[]=> .nil
 |n::r=> .cons (by unfold Rep;rfl) (Nh r)
noncomputable def Lj (K:Yb):Bool:=QM.all λx=>(PySem.W.tabIn K x).isNone
def cJ {K:Yb} {H:Hp} (h:Lj K=true):HC K H:=λx hx c P e=>by
 unfold Lj at h;have:=Ae.mp h x hx;rw[e]at this;cases this
def Xp (hO:IX H):∀ b xs,H b≠some (.lst xs):=λb xs h1=>by
 rcases hO b with z|⟨o,xs,z⟩
 .rw[h1]at z;cases z
 .rw[h1]at z;cases z
def XO {K:Yb} {m:FF} {H:Hp} {a:Yt} {ns:Ye} {E:XK} (hL:JX K=true) (hT:HC K H) (hO:∀ b xs,H b≠some (.lst xs)) (hS:SqL K H a (ns.map V.int)) (h:∃ M',m [.ref 0] [.fro (ns.map D.int)]=some (.bl true,M')) :
  spF K 1 m [.ref a] H (λv _=>v=.bl true) E:=by
 obtain ⟨M',e⟩:=h;have hf:∃ o,H a=some (.frz o (.lst (ns.map V.int))):=by
  rcases hS with (h1|h1)|⟨o,its,n,h1,h2,_⟩
  .exact (hO _ _ h1).elim
  .exact h1
  .exact (WX hL h1 h2).elim
 obtain ⟨o,hf⟩:=hf;refine ⟨[a],[.ref 0],[.fro (ns.map D.int)],_,_,⟨rfl,by simp,λn b m e1 e2=>?_,hT⟩,.cons ?_ .nil,rfl,e,λL' H' v s c r=>?_⟩
 .cases n with
  |zero=>simp at e1 e2;subst e1;subst e2;exact ⟨o,_,hf,Nh ns⟩
  |succ n=>simp at e1
 .unfold Rep;exact ⟨a,rfl,rfl⟩
 .unfold Rep at r;exact r
def Ok {α:Type} (x:Option (α × Mem)) (P:α->Mem->Prop):Prop:=∃ a M,x=some (a,M)/\P a M
def OkS (x:Option (Out × Sd × Mem)) (P:Out->Sd->Mem->Prop):Prop:=∃ o Y M,x=some (o,Y,M)/\P o Y M
def Ok.mono {α:Type} {x:Option (α × Mem)} {P Q:α->Mem->Prop} (h:Ok x P) (hq:∀ a M,P a M->Q a M):Ok x Q:=let ⟨a,M,e,p⟩:=h;⟨a,M,e,hq a M p⟩
def OkS.mono {x:Option (Out × Sd × Mem)} {P Q:Out->Sd->Mem->Prop} (h:OkS x P) (hq:∀ o Y M,P o Y M->Q o Y M):OkS x Q:=let ⟨a,Y,M,e,p⟩:=h;⟨a,Y,M,e,hq a Y M p⟩
def BY {α:Type} {a:α} {M:Mem} {P:α->Mem->Prop}:Ok (some (a,M)) P ↔ P a M:=⟨λ⟨_,_,e,p⟩=>by cases e;exact p,λp=>⟨a,M,rfl,p⟩⟩
def Hk {α:Type} {P:α->Mem->Prop}:Ok (none:Option (α × Mem)) P ↔ False:=⟨(λ⟨_,_,e,_⟩=>(nomatch e)),λh=>h.elim⟩
def RT {o:Out} {Y:Sd} {M:Mem} {P:Out->Sd->Mem->Prop}:OkS (some (o,Y,M)) P ↔ P o Y M:=⟨λ⟨_,_,_,e,p⟩=>by cases e;exact p,λp=>⟨o,Y,M,rfl,p⟩⟩
section
variable {Y:Sd} {M:Mem} {f g:FE} {P:EV->Mem->Prop}
def CM {i:Nat}:Ok (zC i Y M) P ↔ ∃ d,Y[i]?=some (some d)/\P (.dat d) M:=by
 unfold zC;constructor
 .rintro ⟨a,M1,e,p⟩;split at e
  .rename_i d e1;cases e;exact ⟨d,e1,p⟩
  .cases e
 .rintro ⟨d,e1,p⟩;rw[e1];exact ⟨_,_,rfl,p⟩
def GN {d:D}:Ok (fC d Y M) P ↔ P (.dat d) M:=BY
def Gp {k:K2}:Ok (fOp k f g Y M) P ↔ Ok (f Y M) λx M1=>Ok (g Y M1) λy M2=>Ok (k x y M2) P:=by
 unfold fOp;constructor
 .rintro ⟨a,M1,e,p⟩;split at e
  .rename_i x M2 e1;split at e
   .rename_i y M3 e2;exact ⟨x,M2,e1,y,M3,e2,a,M1,e,p⟩
   .cases e
  .cases e
 .rintro ⟨x,M2,e1,y,M3,e2,a,M1,e,p⟩;rw[e1];dsimp only;rw[e2];exact ⟨a,M1,e,p⟩
def EJ (P:D->Mem->Prop):EV->Mem->Prop
 |.dat d,M=>P d M
 |.fl xs,M=>P (.ref M.length) (M++[.lst xs])
def Bk {P:D->Mem->Prop}:Ok (toD f Y M) P ↔ Ok (f Y M) (EJ P):=by
 unfold toD;constructor
 .rintro ⟨a,M1,e,p⟩;split at e
  .rename_i d M2 e1;cases e;exact ⟨_,_,e1,p⟩
  .rename_i xs M2 e1;cases e;exact ⟨_,_,e1,p⟩
  .cases e
 .rintro ⟨x,M2,e1,p⟩;rw[e1];cases x with
  |dat d=>exact ⟨d,M2,rfl,p⟩
  |fl xs=>exact ⟨_,_,rfl,p⟩
def zS {P:D->Mem->Prop} {d:D} {M:Mem}:EJ P (.dat d) M ↔ P d M:=Iff.rfl
def gT {P:D->Mem->Prop} {xs:List D} {M:Mem}:EJ P (.fl xs) M ↔ P (.ref M.length) (M++[.lst xs]):=Iff.rfl
section
variable {P:List D->Mem->Prop}
def Ca:Ok (zG Y M) P ↔ P [] M:=BY
def Cp {f:FD} {g:FA}:Ok (zD f g Y M) P ↔ Ok (f Y M) λd M1=>Ok (g Y M1) λds M2=>P (d::ds) M2:=by
 unfold zD;constructor
 .rintro ⟨a,M1,e,p⟩;split at e
  .rename_i x M2 e1;split at e
   .rename_i y M3 e2;cases e;exact ⟨x,M2,e1,y,_,e2,p⟩
   .cases e
  .cases e
 .rintro ⟨x,M2,e1,y,M3,e2,p⟩;rw[e1];dsimp only;rw[e2];exact ⟨_,_,rfl,p⟩
end
def GP {a:FA}:Ok (AQ a Y M) P ↔ Ok (a Y M) λds M1=>ds.length<=sizeLine/\P (.fl ds) M1:=by
 unfold AQ;constructor
 .rintro ⟨x,M1,e,p⟩;split at e
  .rename_i ds M2 e1;split at e
   .rename_i hz;cases e;exact ⟨ds,_,e1,hz,p⟩
   .cases e
  .cases e
 .rintro ⟨ds,M1,e1,hz,p⟩;rw[e1];dsimp only;rw[AB hz];exact ⟨_,_,rfl,p⟩
def Ek {m:FF} {a:FA}:Ok (zO m a Y M) P ↔ Ok (a Y M) λds M1=>Ok (m ds M1) λd M2=>P (.dat d) M2:=by
 unfold zO;constructor
 .rintro ⟨x,M1,e,p⟩;split at e
  .rename_i ds M2 e1;split at e
   .rename_i d M3 e2;cases e;exact ⟨ds,_,e1,d,_,e2,p⟩
   .cases e
  .cases e
 .rintro ⟨ds,M1,e1,d,M2,e2,p⟩;rw[e1];dsimp only;rw[e2];exact ⟨_,_,rfl,p⟩
def DB {k:KM} {a:FA}:Ok (fM k f a Y M) P ↔ Ok (f Y M) λx M1=>(∃ xs,CJ M1 x=some xs)/\Ok (a Y M1) λds M2=>Ok (k x ds M2) λd M3=>P (.dat d) M3:=by
 unfold fM;constructor
 .rintro ⟨x,M1,e,p⟩;split at e
  .rename_i y M2 e1;split at e
   .rename_i xs e2;split at e
    .rename_i ds M3 e3;split at e
     .rename_i d M4 e4;cases e;exact ⟨y,_,e1,⟨xs,e2⟩,ds,_,e3,d,_,e4,p⟩
     .cases e
    .cases e
   .cases e
  .cases e
 .rintro ⟨y,M1,e1,⟨xs,e2⟩,ds,M2,e3,d,M3,e4,p⟩;rw[e1];dsimp only;rw[e2];dsimp only;rw[e3];dsimp only;rw[e4];exact ⟨_,_,rfl,p⟩
section
variable {P:Option Int->Mem->Prop}
def dC:Ok (Bj Y M) P ↔ P none M:=BY
def Nj (P:Option Int->Mem->Prop):EV->Mem->Prop
 |.dat (.int i),M=>P (some i) M
 |_,_=>False
def WU {i:Int} {M:Mem}:Nj P (.dat (.int i)) M ↔ P (some i) M:=Iff.rfl
def bC:Ok (BW f Y M) P ↔ Ok (f Y M) (Nj P):=by
 unfold BW;constructor
 .rintro ⟨x,M1,e,p⟩;split at e
  .rename_i i M2 e1;cases e;exact ⟨_,_,e1,p⟩
  .cases e
 .rintro ⟨x,M1,e1,p⟩;rw[e1];cases x with
  |fl xs=>exact p.elim
  |dat d=>
   cases d with
   |int i=>exact ⟨_,_,rfl,p⟩
   |_=>exact p.elim
end
def WC {l h:FO}:Ok (fSl f l h Y M) P ↔ Ok (f Y M) λx M1=>Ok (l Y M1) λlo M2=>Ok (h Y M2) λhi M3=>Ok (kSl x lo hi M3) P:=by
 unfold fSl;constructor
 .rintro ⟨x,M1,e,p⟩;split at e
  .rename_i y M2 e1;split at e
   .rename_i lo M3 e2;split at e
    .rename_i hi M4 e3;exact ⟨y,_,e1,lo,_,e2,hi,_,e3,x,M1,e,p⟩
    .cases e
   .cases e
  .cases e
 .rintro ⟨y,M1,e1,lo,M2,e2,hi,M3,e3,p⟩;rw[e1];dsimp only;rw[e2];dsimp only;rw[e3];exact p
def blP (P:Bool->Mem->Prop):EV->Mem->Prop
 |.dat (.bl k),M=>P k M
 |_,_=>False
def F5 {P:Bool->Mem->Prop} {k:Bool} {M:Mem}:blP P (.dat (.bl k)) M ↔ P k M:=Iff.rfl
def QU {P:Bool->Mem->Prop}:Ok (tst f Y M) P ↔ Ok (f Y M) (blP P):=by
 unfold tst;constructor
 .rintro ⟨x,M1,e,p⟩;split at e
  .rename_i i M2 e1;cases e;exact ⟨_,_,e1,p⟩
  .cases e
 .rintro ⟨x,M1,e1,p⟩;rw[e1];cases x with
  |fl xs=>exact p.elim
  |dat d=>
   cases d with
   |bl i=>exact ⟨_,_,rfl,p⟩
   |_=>exact p.elim
section
variable {P:Bool->Mem->Prop} {s t:FT}
def Qa:Ok (zf Y M) P ↔ P true M:=BY
def Mb:Ok (BM s Y M) P ↔ Ok (s Y M) λk M1=>P (!k) M1:=by
 unfold BM;constructor
 .rintro ⟨x,M1,e,p⟩;split at e
  .rename_i k M2 e1;cases e;exact ⟨k,_,e1,p⟩
  .cases e
 .rintro ⟨k,M1,e1,p⟩;rw[e1];exact ⟨_,_,rfl,p⟩
end
end
section
variable {Y:Sd} {M:Mem} {f g:FS} {P:Out->Sd->Mem->Prop}
def nxP (k:Sd->Mem->Prop) (P:Out->Sd->Mem->Prop):Out->Sd->Mem->Prop
 |.nx,Y,M=>k Y M
 |o,Y,M=>P o Y M
def zQ {k:Sd->Mem->Prop}:nxP k P .nx Y M ↔ k Y M:=Iff.rfl
def Fc {k:Sd->Mem->Prop} {d:D}:nxP k P (.ret d) Y M ↔ P (.ret d) Y M:=Iff.rfl
def Bx:OkS (Ac Y M) P ↔ P .nx Y M:=RT
def zL:OkS (zM f g Y M) P ↔ OkS (f Y M) (nxP (λσ1 M1=>OkS (g σ1 M1) P) P):=by
 unfold zM;constructor
 .rintro ⟨o,σ1,M1,e,p⟩;split at e
  .rename_i σ2 M2 e1;exact ⟨_,_,_,e1,o,σ1,M1,e,p⟩
  .rename_i hn;refine ⟨o,σ1,M1,e,?_⟩;cases o with
   |nx=>exact absurd e (hn σ1 M1)
   |_=>exact p
 .rintro ⟨o,σ1,M1,e1,p⟩;rw[e1];cases o with
  |nx=>exact p
  |_=>exact ⟨_,_,_,rfl,p⟩
def BQ {c:FT}:OkS (sIf c f g Y M) P ↔ Ok (c Y M) λk M1=>if k then OkS (f Y M1) P else OkS (g Y M1) P:=by
 unfold sIf;constructor
 .rintro ⟨o,σ1,M1,e,p⟩;split at e
  .rename_i M2 e1;exact ⟨_,_,e1,by dsimp only;rw[AB rfl];exact ⟨o,σ1,M1,e,p⟩⟩
  .rename_i M2 e1;exact ⟨_,_,e1,by simpa using ⟨o,σ1,M1,e,p⟩⟩
  .cases e
 .rintro ⟨x,M1,e1,p⟩;rw[e1];cases x with
  |true=>simpa using p
  |false=>simpa using p
def JR {h:FE}:OkS (zv h Y M) P ↔ Ok (h Y M) (EJ λd M1=>P (.ret d) Y M1):=by
 rw[<-Bk];unfold zv;constructor
 .rintro ⟨o,σ1,M1,e,p⟩;split at e
  .rename_i d M2 e1;cases e;exact ⟨_,_,e1,p⟩
  .cases e
 .rintro ⟨x,M1,e1,p⟩;rw[e1];exact ⟨_,_,_,rfl,p⟩
def zi {i:Nat} {h:FE}:OkS (AK i h Y M) P ↔ Ok (h Y M) (EJ λd M1=>P .nx (Y.set i (some d)) M1):=by
 rw[<-Bk];unfold AK;constructor
 .rintro ⟨o,σ1,M1,e,p⟩;split at e
  .rename_i d M2 e1;cases e;exact ⟨_,_,e1,p⟩
  .cases e
 .rintro ⟨x,M1,e1,p⟩;rw[e1];exact ⟨_,_,_,rfl,p⟩
def C0 {h:FE}:OkS (Al h Y M) P ↔ Ok (h Y M) λ_ M1=>P .nx Y M1:=by
 unfold Al;constructor
 .rintro ⟨o,σ1,M1,e,p⟩;split at e
  .rename_i d M2 e1;cases e;exact ⟨_,_,e1,p⟩
  .cases e
 .rintro ⟨x,M1,e1,p⟩;rw[e1];exact ⟨_,_,_,rfl,p⟩
def MQ {v o i:FE}:OkS (EB v o i Y M) P ↔ Ok (v Y M) (EJ λd M1=>Ok (o Y M1) λx M2=>Ok (i Y M2) (EJ λj M3=>∃ M4,Hq x j d M3=some M4/\P .nx Y M4)):=by
 rw[<-Bk];unfold EB;constructor
 .rintro ⟨o,σ1,M1,e,p⟩;split at e
  .rename_i d M2 e1;split at e
   .rename_i x M3 e2;split at e
    .rename_i j M4 e3;split at e
     .rename_i M5 e4;cases e;refine ⟨_,_,e1,_,_,e2,?_⟩;dsimp only;rw[<-Bk];exact ⟨_,_,e3,_,e4,p⟩
     .cases e
    .cases e
   .cases e
  .cases e
 .rintro ⟨d,M1,e1,x,M2,e2,p⟩;rw[<-Bk]at p;obtain ⟨j,M3,e3,M4,e4,p⟩:=p;rw[e1];dsimp only;rw[e2];dsimp only;rw[e3];dsimp only;rw[e4];exact ⟨_,_,_,rfl,p⟩
def BG {n:Nat} {ds:List D} {Q:D->Mem->Prop}:Ok (Ag n f ds M) Q ↔ OkS (f (ds.map some++List.replicate (n-ds.length) none) M) λo _ M1=>match o with|.ret d=>Q d M1|.nx=>Q .non M1|_=>False:=by
 unfold Ag;constructor
 .rintro ⟨o,M1,e,p⟩;split at e
  .rename_i d σ1 M2 e1;cases e;exact ⟨_,_,_,e1,p⟩
  .rename_i σ1 M2 e1;cases e;exact ⟨_,_,_,e1,p⟩
  .cases e
 .rintro ⟨o,σ1,M1,e1,p⟩;rw[e1];cases o with
  |ret d=>exact ⟨_,_,rfl,p⟩
  |nx=>exact ⟨_,_,rfl,p⟩
  |brk=>exact p.elim
  |cnt=>exact p.elim
theorem Dc {g:FG} {b:FS} {all:List D} {gd:Option (Mem->Prop)} (I:List D->Sd->Mem->Prop)
  (hs:∀ x r Y M,I (x::r) Y M->B6 gd all M /\ ∃ σ1,g x Y=some σ1/\OkS (b σ1 M) λo σ2 M2=>match o with|.nx=>I r σ2 M2|.cnt=>I r σ2 M2|.brk=>P .nx σ2 M2|.ret d=>P (.ret d) σ2 M2)
  (he:∀ Y M,I [] Y M->B6 gd all M/\P .nx Y M):∀ (xs:List D) (Y:Sd) (M:Mem),I xs Y M->OkS (Dy g b all gd xs Y M) P
 |[],Y,M,hi=>by
  unfold Dy;obtain ⟨h1,h2⟩:=he Y M hi;rw[AB h1];exact ⟨_,_,_,rfl,h2⟩
 |x::r,Y,M,hi=>by
  unfold Dy;obtain ⟨h1,σ1,e1,o,σ2,M2,e2,q⟩:=hs x r Y M hi;rw[AB h1,e1];dsimp only;rw[e2];cases o with
  |nx=>exact Dc I hs he r σ2 M2 q
  |cnt=>exact Dc I hs he r σ2 M2 q
  |brk=>exact ⟨_,_,_,rfl,q⟩
  |ret d=>exact ⟨_,_,_,rfl,q⟩
def Bp {i:FI} {g:FG} {b:FS}:OkS (Ad i g b Y M) P ↔ ∃ xs gd M1,i Y M=some (xs,gd,M1)/\OkS (Dy g b xs gd xs Y M1) P:=by
 unfold Ad;constructor
 .rintro ⟨o,σ1,M1,e,p⟩;split at e
  .rename_i xs gd M2 e1;exact ⟨_,_,_,e1,_,_,_,e,p⟩
  .cases e
 .rintro ⟨xs,gd,M1,e1,p⟩;rw[e1];exact p
theorem G6 {g:FG} {tc:FT} {te:FE} {all:List D} {gd:Option (Mem->Prop)} (I:List D->List D->Mem->Prop)
  (hs:∀ x r acc M,I (x::r) acc M->B6 gd all M /\ ∃ σ1,g x Y=some σ1/\Ok (tc σ1 M) λk M1=>if k then Ok (te σ1 M1) (EJ λd M2=>I r (acc++[d]) M2) else I r acc M1)
  {Q:List D->Mem->Prop} (he:∀ acc M,I [] acc M->B6 gd all M/\Q acc M):∀ (xs acc:List D) (M:Mem),I xs acc M->Ok (Bc g tc te Y all gd xs M) λys M1=>Q (acc++ys) M1
 |[],acc,M,hi=>by
  unfold Bc;obtain ⟨h1,h2⟩:=he acc M hi;rw[AB h1];exact ⟨_,_,rfl,by simpa using h2⟩
 |x::r,acc,M,hi=>by
  unfold Bc;obtain ⟨h1,σ1,e1,k,M1,e2,q⟩:=hs x r acc M hi;rw[AB h1,e1];dsimp only;rw[e2];cases k with
  |false=>exact G6 I hs he r acc M1 (by simpa using q)
  |true=>
   rw[AB rfl,<-Bk]at q;obtain ⟨d,M2,e3,q⟩:=q;dsimp only;rw[e3];obtain ⟨ys,M3,e4,p⟩:=G6 I hs he r (acc++[d]) M2 q;dsimp only;rw[e4];exact ⟨_,_,rfl,by simpa using p⟩
def HK {own:Yj} {i:FI} {g:FG} {tc:FT} {te:FE} {Q:EV->Mem->Prop}:Ok (zn own i g tc te Y M) Q ↔ ∃ xs gd M1,i Y M=some (xs,gd,M1)/\xs.length<=sizeLine/\Ok (Bc g tc te (Bi own Y) xs gd xs M1) λys M2=>Q (.fl ys) M2:=by
 unfold zn;constructor
 .rintro ⟨o,M1,e,p⟩;split at e
  .rename_i xs gd M2 e1;split at e
   .rename_i hz;split at e
    .rename_i ys M3 e2;cases e;exact ⟨_,_,_,e1,hz,_,_,e2,p⟩
    .cases e
   .cases e
  .cases e
 .rintro ⟨xs,gd,M1,e1,hz,ys,M2,e2,p⟩;rw[e1];dsimp only;rw[AB hz,e2];exact ⟨_,_,rfl,p⟩
def DF {h:FE} {x:EV} {M1:Mem} {xs:List D} (e:h Y M=some (x,M1)) (e2:Az M1 x=some xs):AU h Y M=some (xs,HR x xs,M1):=by
 unfold AU;rw[e];dsimp only;rw[e2]
def Na {a:FA} {M1:Mem} {j:Int} (e:a Y M=some ([.int j],M1)) (h1:0<=j) (h2:j<2 ^ 62):zt a Y M=some ((List.range j.toNat).map λ(k:Nat)=>D.int k,none,M1):=by
 unfold zt;rw[e];dsimp only;rw[AB ⟨by omega,h2⟩]
end
section
variable {M:Mem} {P:EV->Mem->Prop} {i j:Int}
def De:Ok (zY (.dat (.int i)) (.dat (.int j)) M) P ↔ P (.dat (.int (i+j))) M:=BY
def Nq:Ok (CU (.dat (.int i)) (.dat (.int j)) M) P ↔ P (.dat (.int (i-j))) M:=BY
def UQ:Ok (Ex (.dat (.int i)) (.dat (.int j)) M) P ↔ Hd i j=true/\P (.dat (.int (i*j))) M:=by
 unfold Ex kI;dsimp only;split
 .rename_i h;rw[BY];simp[h]
 .rename_i h;rw[Hk];simp[h]
def YA:Ok (Cf (.dat (.int i)) (.dat (.int j)) M) P ↔ 0<j/\P (.dat (.int (i % j))) M:=by
 unfold Cf kI;dsimp only;split
 .rename_i h;rw[BY];simp at h;simp[h]
 .rename_i h;rw[Hk];simp at h;simp;intro h';omega
def gK:Ok (GL (.dat (.int i)) (.dat (.int j)) M) P ↔ (0<j/\j<1073741824)/\P (.dat (.int (i / j))) M:=by
 unfold GL kI;dsimp only;split
 .rename_i h;rw[BY];simp at h;simp[h]
 .rename_i h;rw[Hk];simp at h;simp;intro h' h2;have:=h h';omega
def Vp:Ok (Gq (.dat (.int i)) (.dat (.int j)) M) P ↔ (0<=j/\j<=1000000/\i.natAbs<2 ^ 64)/\P (.dat (.int (i ^ j.toNat))) M:=by
 unfold Gq kI;dsimp only;split
 .rename_i h;rw[BY];simp only[Am,DS]at h;simp[h]
 .rename_i h;rw[Hk];simp only[Am,DS,not_and]at h;simp only[false_iff,not_and];intro ⟨a,b,c⟩;exact absurd c (h ⟨a,b⟩)
def G4:Ok (kLt (.dat (.int i)) (.dat (.int j)) M) P ↔ P (.dat (.bl (decide (i<j)))) M:=BY
def Ku:Ok (kLe (.dat (.int i)) (.dat (.int j)) M) P ↔ P (.dat (.bl (decide (i<=j)))) M:=BY
def Hr:Ok (kGt (.dat (.int i)) (.dat (.int j)) M) P ↔ P (.dat (.bl (decide (j<i)))) M:=BY
def B3:Ok (kEq (.dat (.int i)) (.dat (.int j)) M) P ↔ P (.dat (.bl (decide (i=j)))) M:=by
 have:kEq (.dat (.int i)) (.dat (.int j)) M=some (.dat (.bl (decide (V.int i=V.int j))),M):=rfl;rw[this,BY];simp
def XC {xs ys:List D}:Ok (zY (.dat (.tup xs)) (.dat (.tup ys)) M) P ↔ xs.length+ys.length<=sizeLine/\P (.dat (.tup (xs++ys))) M:=by
 have:zY (.dat (.tup xs)) (.dat (.tup ys)) M=HU (.dat (.tup xs)) (.dat (.tup ys)) M:=rfl;rw[this];unfold HU;dsimp only[Cu];split
 .rename_i h;rw[BY];simp[h]
 .rename_i h;rw[Hk];simp[h]
def U4 {x:EV} {xs:List D} (h:CJ M x=some xs) (hx:∀ d,x=.dat d->Gd d=none):Ok (kNe x (.fl []) M) P ↔ P (.dat (.bl (!xs.isEmpty))) M:=by
 have e1:GS true x (.fl []) M=none:=by cases x <;> rfl
 have e2:kNe x (.fl []) M=some (.dat (.bl (!xs.isEmpty)),M):=by
  unfold kNe kOr;rw[e1];unfold He;rw[h];rfl
 rw[e2,BY]
def NO {x:EV} {xs:List D} {d:D} (h:Az M x=some xs) (hd:atI xs i=some d) (p:P (.dat d) M):Ok (kIx x (.dat (.int i)) M) P:=by
 have:kIx x (.dat (.int i)) M=some (.dat d,M):=by unfold kIx;dsimp only;rw[h];dsimp only;rw[hd]
 rw[this,BY];exact p
def Km {xs:List D} {k:Nat} {d:D} (h:xs[k]?=some d):atI xs (k:Int)=some d:=C6 h
def HA {xs:List D} {i:Int} {d:D} (h0:0<=i) (h:xs[i.toNat]?=some d):atI xs i=some d:=by
 have:i=((i.toNat:Nat):Int):=by omega
 rw[this];exact C6 h
def Tj {x:EV} {xs:List D} (h:Az M x=some xs):Ok (zV [x] M) P ↔ P (.dat (.int xs.length)) M:=by
 have:zV [x] M=some (.dat (.int xs.length),M):=by unfold zV;dsimp only;rw[h]
 rw[this,BY]
def cR {x:EV} {xs:List D} (h:Az M x=some xs):Ok (Av [x] M) P ↔ P (.dat (.tup xs)) M:=by
 have:Av [x] M=some (.dat (.tup xs),M):=by unfold Av;dsimp only;rw[h]
 rw[this,BY]
def OT {k:Bool}:Ok (Cd [.dat (.bl k)] M) P ↔ P (.dat (.int (if k then 1 else 0))) M:=BY
def Oh {x:EV} {xs:List D} {lo hi:Ys} (h:CJ M x=some xs) (ht:Cu x=none):Ok (kSl x lo hi M) P ↔ P (.fl (Ak xs lo hi)) M:=by
 have:kSl x lo hi M=some (.fl (Ak xs lo hi),M):=by unfold kSl;rw[ht];dsimp only;rw[h]
 rw[this,BY]
def za {xs:List D}:Az M (.dat (.tup xs))=some xs:=rfl
def Dx {xs:List D}:Az M (.fl xs)=some xs:=rfl
def YU {xs:List D}:CJ M (.fl xs)=some xs:=rfl
def CN {n:Nat} {xs:List D} (h:M[n]?=some (.lst xs)):CJ M (.dat (.ref n))=some xs:=by unfold CJ;dsimp only;rw[h]
def dX {n:Nat} {xs:List D} (h:M[n]?=some (.fro xs)):CJ M (.dat (.ref n))=some xs:=by unfold CJ;dsimp only;rw[h]
def zh {n:Nat} {xs:List D} (h:M[n]?=some (.lst xs)):Az M (.dat (.ref n))=some xs:=CN h
def Py {n:Nat} {xs:List D} (h:M[n]?=some (.fro xs)):Az M (.dat (.ref n))=some xs:=dX h
def Eo {n:Nat} {xs:List D} {d:D} {Q:D->Mem->Prop} (h:M[n]?=some (.lst xs)) (hz:xs.length<sizeLine):Ok (zw (.dat (.ref n)) [d] M) Q ↔ Q .non (M.set n (.lst (xs++[d]))):=by
 have:zw (.dat (.ref n)) [d] M=some (.non,M.set n (.lst (xs++[d]))):=by unfold zw;dsimp only;rw[h];dsimp only;rw[AB hz]
 rw[this,BY]
def Lv {n k:Nat} {xs:List D} {d:D} (h:M[n]?=some (.lst xs)) (hk:k<xs.length):Hq (.dat (.ref n)) (.int k) d M=some (M.set n (.lst (xs.set k d))):=by
 unfold Hq;dsimp only;rw[h];dsimp only;have e:ixN xs.length (k:Int)=some k:=by unfold ixN;rw[AB (by omega),AB (by omega)];simp
 rw[e]
end
def LI {m:FF} {ds:List D} {M:Mem} {Q:D->Mem->Prop} (h:Ok (m ds M) λd M1=>(D.und M.length d=true/\M.length<=M1.length /\ ∀ (j:Nat) u,j<M.length->M1[j]?=some u->MO.und M.length u=true)/\Q d (M1.take M.length)):Ok (Dr m ds M) Q:=by
 obtain ⟨d,M1,e,⟨h1,h2,h3⟩,q⟩:=h;unfold Dr;rw[e];dsimp only;rw[AB]
 .exact ⟨_,_,rfl,q⟩
 .simp only[Am,DS,Ae];refine ⟨⟨h1,λu hu=>?_⟩,h2⟩;obtain ⟨j,hj⟩:=List.getElem?_of_mem hu;have hlt:j<M.length:=by
   have:=(AI.mp hj).1;rw[BF]at this;omega
  rw[List.getElem?_take_of_lt hlt]at hj;exact h3 j u hlt hj
def Jl {m:FF} {ds:List D} {M:Mem} {Q:D->Mem->Prop} (h0:D.unds 0 ds=true) (h:Ok (m ds []) λd _=>D.und 0 d=true/\Q d M):Ok (GB m ds M) Q:=by
 obtain ⟨d,M1,e,h1,q⟩:=h;unfold GB;rw[AB h0,e];dsimp only;rw[AB h1];exact ⟨_,_,rfl,q⟩
section
variable {prog:Ym} {w:Yo} {A:Yn} {E:Yc} {s:Yl}
def TIt.but (x:h.IsTupleIter a t i) (hs:Heap.ExtBut b h h') (n:a≠b):h'.IsTupleIter a t i:=x.extBut hs n
def Tup.but (x:h.IsTuple a its) (hs:Heap.ExtBut b h h') (n:a≠b):h'.IsTuple a its:=x.extBut hs n
def Jg (I:s.heap.IsTupleIter it t i) (T:s.heap.IsTuple t its) (hx:its[i]?=some x)
  (q:∀ h',h'.IsTupleIter it t (i+1)->Heap.SameBut it s.heap h'->Q x { s with heap:=h' }):wpAny (model prog w) A (Builtin.SmallTypes.nextOf (.ref it)) Q E s:=by
 obtain ⟨o,O,C,FD⟩:=id I;obtain ⟨u,U,_,m,G⟩:=T;unfold Builtin.SmallTypes.nextOf;refine AA (Dq (name:=Str.ofString "__next__") I.typeIs PySem.F.slot_tuple_iterator_next (CO PySem.F.slot_tuple_iterator_next I.typeIs PySem.F.entry_tuple_iterator_next ?_ (PySem.F.args_tuple_iterator_next_1 _)));refine AA (m:=field (.ref it) 0) (Cb O FD (x:=.ref t) rfl ?_);rw[AD (show ¬ ((Value.ref t==Value.none)=true) by exact Ay)];refine AA (m:=field (.ref it) 1) (Cb O FD (x:=.int i 0) rfl ?_);refine AA (m:=seqItems? (.ref t)) (EE U G ?_);simp only[hx,CK];refine AA (wpAny_setField O FD (by simp) (AE ⟨x,rfl,AE (q _ ⟨_,Ej _ O (Obj.isFreed_of_fields (Ey FD _)),(Obj.cls_mapFields ..).trans C,?_⟩ (ED ..))⟩));rw[Ey FD];simp[rawInt]
def Jh (hh:A.handled=none) (I:s.heap.IsTupleIter it t i) (T:s.heap.IsTuple t its) (hx:its[i]?=none)
  (q:∀ h' e,Heap.ExtBut it s.heap h'->(∃ o,h'.get? e=some o/\o.cls=.type "StopIteration")->E (.ref e) { s with heap:=h' }):wpAny (model prog w) A (Builtin.SmallTypes.nextOf (.ref it)) Q E s:=by
 obtain ⟨o,O,C,FD⟩:=id I;obtain ⟨u,U,_,m,G⟩:=T;unfold Builtin.SmallTypes.nextOf;refine AA (Dq (name:=Str.ofString "__next__") I.typeIs PySem.F.slot_tuple_iterator_next (CO PySem.F.slot_tuple_iterator_next I.typeIs PySem.F.entry_tuple_iterator_next ?_ (PySem.F.args_tuple_iterator_next_1 _)));refine AA (m:=field (.ref it) 0) (Cb O FD (x:=.ref t) rfl ?_);rw[AD (show ¬ ((Value.ref t==Value.none)=true) by exact Ay)];refine AA (m:=field (.ref it) 1) (Cb O FD (x:=.int i 0) rfl ?_);refine AA (m:=seqItems? (.ref t)) (EE U G ?_);simp only[hx,CK];refine AA (CA (AA (wpAny_setField O FD (by simp) ?_)));refine AA (m:=newExc (.type "StopIteration") []) ?_;simp only[newTuple,newExc];refine AA (CI (AA (m:=firstArgMember _ _) (wpAny_of_eq (a:=Value.none) (by first|rfl|(simp only[firstArgMember];rfl)) (CI ?_ (by size_fits)))) (by size_fits));simp only[raiseNew];refine AA (wpAny_handled ?_);first|rw[hh]|rw[show A.in1.handled=none from hh]
 exact AA (AE (wpAny_throw (q _ _ (((ED ..).extBut.push _).push _) ⟨_,Aj _ rfl,rfl⟩)))
structure ZipT (h:Heap) (z TI TO i1 i2 t1 t2:Yt) (f:Yu) (k1 k2:Nat):Prop where
 z:IsZip h z TI TO f
 ti:IsPair h TI (.ref i1) (.ref i2)
 to:∃ a b,IsPair h TO a b
 a:h.IsTupleIter i1 t1 k1
 b:h.IsTupleIter i2 t2 k2
def Wg {z TI TO i1 i2 t1 t2:Yt} {k:Nat} {xs ys:Yp} {x y:Yu} {Q:Option Value->Shared->Prop} (D:ZipApart z TI TO i1 i2 t1 t2) (Z:ZipT s.heap z TI TO i1 i2 t1 t2 .none k k)
  (T1:s.heap.IsTuple t1 xs) (T2:s.heap.IsTuple t2 ys) (hx:xs[k]?=some x) (hy:ys[k]?=some y)
  (q:∀ h',ZipT h' z TI TO i1 i2 t1 t2 (rawInt s.heap.objs.size) (k+1) (k+1)->IsPair h' s.heap.objs.size x y ->
   (∀ c o,c∉[z,TO,i1,i2]->s.heap.get? c=some o->h'.get? c=some o)->Q (some (.ref s.heap.objs.size)) { s with heap:=h' }):wpAny (model prog w) A (pyNext (.ref z)) Q E s:=by
 obtain ⟨Z0,P0,⟨a,b,O0⟩,I1,I2⟩:=Z;have ty:s.TypeIs (.ref z) "zip" := ⟨_,Z0,rfl⟩;unfold pyNext;refine AA (wpAny_attempt (Dq (name:=Str.ofString "__next__") ty PySem.F.slot_zip_next (CO PySem.F.slot_zip_next ty PySem.F.entry_zip_next ?_ (PySem.F.args_zip_next_1 _))));refine AA (m:=field (.ref z) 2) (Cb Z0 rfl (x:=.bool false) rfl ?_);refine AA (m:=field (.ref z) 3) (Cb Z0 rfl (x:=.ref TI) rfl ?_);refine AA (EE P0 rfl ?_);refine AA (m:=Builtin.SmallTypes.ownedTupleIsFree (.ref z)) ?_;unfold Builtin.SmallTypes.ownedTupleIsFree;refine AA (Cb Z0 rfl (x:=.none) rfl (AE ?_));simp only[if_true];refine AA (CA (AA (Cb Z0 rfl (x:=.ref TO) rfl (AA (wpAny_setField_rec Z0 (by simp) λh1 Z1 e1=>?_)))));replace Z1:IsZip h1 z TI TO .ellipsis:=Z1;refine AA ?_;simp only[List.forIn_cons,List.forIn_nil,List.zipIdx_cons,List.zipIdx_nil];refine AA (AA (wpAny_onRaise (AA (m:=Builtin.SmallTypes.nextOf (.ref i1)) (Jg (TIt.but I1 e1.extBut D.i1z) (Tup.but T1 e1.extBut D.l1z) hx λh2 J1 e2=>AE ?_))));have O2:IsPair h2 TO a b:=e2.extBut _ _ D.TOi1 (e1.extBut _ _ D.TOz O0);refine AA (EE O2 rfl (AA (wpAny_updateSeq_pair O2 λh3 O3 e3=>AA (wpAny_letGo (AE ?_)))));replace O3:IsPair h3 TO x b:=O3
 refine AA (AA (wpAny_onRaise (AA (m:=Builtin.SmallTypes.nextOf (.ref i2)) (Jg (TIt.but (TIt.but (TIt.but I2 e1.extBut D.i2z) e2.extBut D.i12.symm) e3.extBut D.TOi2.symm)
  (Tup.but (Tup.but (Tup.but T2 e1.extBut D.l2z) e2.extBut D.l2i1) e3.extBut D.l2TO) hy λh4 J2 e4=>AE ?_))))
 have O4:IsPair h4 TO x b:=e4.extBut _ _ D.TOi2 O3;refine AA (EE O4 rfl (AA (wpAny_updateSeq_pair O4 λh5 O5 e5=>AA (wpAny_letGo (AE (AE ?_))))));replace O5:IsPair h5 TO x y:=O5;refine AA (EE O5 rfl (AA (wpAny_newTuple ?_)));have sz:h5.objs.size=s.heap.objs.size:=by rw[e5.1,e4.1,e3.1,e2.1,e1.1]
 have Z5:IsZip h5 z TI TO .ellipsis:=e5.extBut _ _ D.TOz.symm (e4.extBut _ _ D.i2z.symm (e3.extBut _ _ D.TOz.symm (e2.extBut _ _ D.i1z.symm Z1)));have kp:∀ c o,c∉[z,TO,i1,i2]->s.heap.get? c=some o->h5.get? c=some o:=λc o n e=>by
  simp only[AO,Cv,or_false,not_or]at n;obtain ⟨n1,n2,n3,n4⟩:=n;exact e5.extBut _ _ n2 (e4.extBut _ _ n4 (e3.extBut _ _ n2 (e2.extBut _ _ n3 (e1.extBut _ _ n1 e))))
 have A5:h5.IsTupleIter i1 t1 (k+1):=TIt.but (TIt.but (TIt.but J1 e3.extBut D.TOi1.symm) e4.extBut D.i12) e5.extBut D.TOi1.symm;have B5:h5.IsTupleIter i2 t2 (k+1):=TIt.but J2 e5.extBut D.TOi2.symm;have zl:z<h5.objs.size:=AH Z5;refine AA (m:=Builtin.SmallTypes.ownedTupleHandOut (.ref z) (.ref h5.objs.size)) ?_;unfold Builtin.SmallTypes.ownedTupleHandOut;have Z6:IsZip (h5.push { cls:=.type "tuple", data:=.seq #[x,y] }) z TI TO .ellipsis:=AJ _ Z5;refine AA (wpAny_setField_rec Z6 (by simp) λh7 Z7 e7=>?_);replace Z7:IsZip h7 z TI TO (rawInt h5.objs.size):=Z7;refine wpAny_setField_rec Z7 (by simp) λh8 Z8 e8=>?_;replace Z8:IsZip h8 z TI TO (rawInt h5.objs.size):=Z8;have up:∀ c o,c≠z->h5.get? c=some o->h8.get? c=some o:=λc o n e=>e8.extBut _ _ n (e7.extBut _ _ n (AJ _ e));have N8:IsPair h8 h5.objs.size x y:=e8.extBut _ _ (Nat.ne_of_gt zl) (e7.extBut _ _ (Nat.ne_of_gt zl) (Aj _ rfl));rw[sz]at Z8 N8;refine AE ⟨_,rfl,?_⟩;rw[sz];refine AE (q h8 ⟨Z8,up _ _ D.TIz (kp _ _ (by simp[D.TIz,D.TITO,D.TIi1,D.TIi2]) P0),⟨_,_,up _ _ D.TOz O5⟩,?_,?_⟩ N8 λc o n e=>up c o (λm=>n (by simp[m])) (kp c o n e))
 .obtain ⟨o,e,r⟩:=A5;exact ⟨o,up _ _ D.i1z e,r⟩
 .obtain ⟨o,e,r⟩:=B5;exact ⟨o,up _ _ D.i2z e,r⟩
def Vg {z TI TO i1 i2 t1 t2:Yt} {k:Nat} {xs ys:Yp} {Q:Option Value->Shared->Prop} (hh:A.handled=none) (D:ZipApart z TI TO i1 i2 t1 t2) (Z:ZipT s.heap z TI TO i1 i2 t1 t2 .none k k)
  (T1:s.heap.IsTuple t1 xs) (T2:s.heap.IsTuple t2 ys) (he:xs[k]?=none\/ys[k]?=none)
  (q:∀ h',(∀ c o,c∉[z,TO,i1,i2]->s.heap.get? c=some o->h'.get? c=some o)->Q none { s with heap:=h' }):wpAny (model prog w) A (pyNext (.ref z)) Q E s:=by
 obtain ⟨Z0,P0,⟨a,b,O0⟩,I1,I2⟩:=Z;have ty:s.TypeIs (.ref z) "zip" := ⟨_,Z0,rfl⟩
 have stop:∀ (e:Addr) (h':Heap),(∀ c o,c∉[z,TO,i1,i2]->s.heap.get? c=some o->h'.get? c=some o)->(∃ o,h'.get? e=some o/\o.cls=.type "StopIteration") ->
   wpAny (model prog w) A (do if (<- isInstance (.ref e) (.type "StopIteration")) then pure none else throw (.ref e):Sem (Option Value)) Q E { s with heap:=h' }:=λe h' k1 ⟨o,e1,e2⟩=>
  AA (wpAny_isInstance (T := "StopIteration") (b:=true) ⟨o,e1,e2⟩ isSubtype_stop (AE (q h' k1)))
 unfold pyNext;refine AA (wpAny_attempt (Dq (name:=Str.ofString "__next__") ty PySem.F.slot_zip_next (CO PySem.F.slot_zip_next ty PySem.F.entry_zip_next ?_ (PySem.F.args_zip_next_1 _))));refine AA (m:=field (.ref z) 2) (Cb Z0 rfl (x:=.bool false) rfl ?_);refine AA (m:=field (.ref z) 3) (Cb Z0 rfl (x:=.ref TI) rfl ?_);refine AA (EE P0 rfl ?_);refine AA (m:=Builtin.SmallTypes.ownedTupleIsFree (.ref z)) ?_;unfold Builtin.SmallTypes.ownedTupleIsFree;refine AA (Cb Z0 rfl (x:=.none) rfl (AE ?_));simp only[if_true];refine AA (CA (AA (Cb Z0 rfl (x:=.ref TO) rfl (AA (wpAny_setField_rec Z0 (by simp) λh1 Z1 e1=>?_)))));replace Z1:IsZip h1 z TI TO .ellipsis:=Z1;refine AA ?_;simp only[List.forIn_cons,List.forIn_nil,List.zipIdx_cons,List.zipIdx_nil];cases hx:xs[k]? with
 |none=>
  refine AA (AA (wpAny_onRaise (AA (m:=Builtin.SmallTypes.nextOf (.ref i1)) (Jh hh (TIt.but I1 e1.extBut D.i1z) (Tup.but T1 e1.extBut D.l1z) hx λh2 e e2 he=>?_))));obtain ⟨oe,o1,o2⟩:=he;have Z2:IsZip h2 z TI TO .ellipsis:=e2 _ _ D.i1z.symm Z1;have ne:e≠z:=λm=>by subst m;rw[Z2]at o1;cases o1;simp at o2
  refine wpAny_setField_rec Z2 (by simp) λh3 _ e3=>stop e h3 (λc o n x=>?_) ⟨oe,e3.extBut _ _ ne o1,o2⟩;simp only[AO,Cv,or_false,not_or]at n;exact e3.extBut _ _ n.1 (e2 _ _ n.2.2.1 (e1.extBut _ _ n.1 x))
 |some x=>
  have hy:ys[k]?=none:=by
   rcases he with m|m
   .rw[hx]at m;cases m
   .exact m
  refine AA (AA (wpAny_onRaise (AA (m:=Builtin.SmallTypes.nextOf (.ref i1)) (Jg (TIt.but I1 e1.extBut D.i1z) (Tup.but T1 e1.extBut D.l1z) hx λh2 J1 e2=>AE ?_))));have O2:IsPair h2 TO a b:=e2.extBut _ _ D.TOi1 (e1.extBut _ _ D.TOz O0);refine AA (EE O2 rfl (AA (wpAny_updateSeq_pair O2 λh3 O3 e3=>AA (wpAny_letGo (AE ?_)))))
  refine AA (AA (wpAny_onRaise (AA (m:=Builtin.SmallTypes.nextOf (.ref i2)) (Jh hh (TIt.but (TIt.but (TIt.but I2 e1.extBut D.i2z) e2.extBut D.i12.symm) e3.extBut D.TOi2.symm)
   (Tup.but (Tup.but (Tup.but T2 e1.extBut D.l2z) e2.extBut D.l2i1) e3.extBut D.l2TO) hy λh4 e e4 he=>?_))))
  obtain ⟨oe,o1,o2⟩:=he;have Z4:IsZip h4 z TI TO .ellipsis:=e4 _ _ D.i2z.symm (e3.extBut _ _ D.TOz.symm (e2.extBut _ _ D.i1z.symm Z1));have ne:e≠z:=λm=>by subst m;rw[Z4]at o1;cases o1;simp at o2
  refine wpAny_setField_rec Z4 (by simp) λh5 _ e5=>stop e h5 (λc o n x=>?_) ⟨oe,e5.extBut _ _ ne o1,o2⟩;simp only[AO,Cv,or_false,not_or]at n;exact e5.extBut _ _ n.1 (e4 _ _ n.2.2.2 (e3.extBut _ _ n.2.1 (e2.extBut _ _ n.2.2.1 (e1.extBut _ _ n.1 x))))
noncomputable abbrev II (h:Heap) (a:Addr):Heap:=h.push { cls:=.type "tuple_iterator", data:=.fields #[.ref a,.int 0 0] }
noncomputable abbrev JE (h:Heap) (a b:Yt):Heap:=II (II h a) b
noncomputable abbrev JK (h:Heap) (a b:Addr):Heap:=(JE h a b).push { cls:=.type "tuple", data:=.seq #[.ref h.objs.size,.ref (II h a).objs.size] }
noncomputable abbrev JZ (h:Heap) (a b:Addr):Heap:=(JK h a b).push { cls:=.type "tuple", data:=.seq #[.none,.none] }
noncomputable abbrev G3 (h:Heap) (a b:Addr):Heap:=(JZ h a b).push { cls:=.type "zip", data:=.fields #[.none,.bool false,.bool false,.ref (JE h a b).objs.size,.ref (JK h a b).objs.size] }
def ZM (a b:Addr) (xs ys:Array Value):Meets (Builtin.«zip.__new__» ⟨[.type "zip", .ref a,.ref b],[]⟩) (λ_ R s=>s.heap.IsTuple a xs/\s.heap.IsTuple b ys/\R (.ok (.ret (.ref (JZ s.heap a b).objs.size))) { s with heap:=G3 s.heap a b }) :=
 .of_wp λprog w A R s h=>by
  obtain ⟨hp,g,d,tk,os⟩:=s;obtain ⟨Ta,Tb,h⟩:=h;have sz:=sub_zip;have U1:Heap.IsTuple (Shared.heap ⟨hp,g,d,tk,os⟩) a xs:=Ta;have U2:Heap.IsTuple (Shared.heap ⟨hp.push { cls:=.type "tuple_iterator", data:=.fields #[.ref a,.int 0 0] },g,d,tk,os⟩) b ys:=Heap.IsTuple.push Tb _;wp_walk using wpAny_pyIter_tuple U1,wpAny_pyIter_tuple U2;exact ⟨_,rfl,h⟩
def XD (Ta:s.heap.IsTuple a xs) (Tb:s.heap.IsTuple b ys)
  (h:∀ h',ZipT h' (s.heap.objs.size+4) (s.heap.objs.size+2) (s.heap.objs.size+3) s.heap.objs.size (s.heap.objs.size+1) a b .none 0 0->(∀ c o,s.heap.get? c=some o->h'.get? c=some o)->Q (.ref (s.heap.objs.size+4)) { s with heap:=h' }) :
  wpAny (model prog w) A (call (.type "zip") [.ref a,.ref b]) Q E s:=by
 refine callType_new PySem.F.called_zip (by decide) (PySem.F.typeCall_zip_2 _ _) (PySem.F.newCall_zip_2 _ _) (λobj=>PySem.F.args_object_init_3 obj _ _) PySem.F.entry_zip_new (ZM a b xs ys) ⟨Ta,Tb,?_⟩;have q1:(II s.heap a).objs.size=s.heap.objs.size+1:=Cg ..;have q2:(JE s.heap a b).objs.size=s.heap.objs.size+2:=by rw[Cg,q1]
 have q3:(JK s.heap a b).objs.size=s.heap.objs.size+3:=by rw[Cg,q2]
 have q4:(JZ s.heap a b).objs.size=s.heap.objs.size+4:=by rw[Cg,q3]
 have u:∀ {h:Heap} {c:Yt} {o p:Obj},h.get? c=some o->(h.push p).get? c=some o:=λe=>AJ _ e;have p5:(G3 s.heap a b).get? (JZ s.heap a b).objs.size=some _:=Aj _ rfl;have p4:(G3 s.heap a b).get? (JK s.heap a b).objs.size=some _:=u (Aj _ rfl);have p3:(G3 s.heap a b).get? (JE s.heap a b).objs.size=some _:=u (u (Aj _ rfl));have p2:(G3 s.heap a b).get? (II s.heap a).objs.size=some _:=u (u (u (Aj _ rfl)));have p1:(G3 s.heap a b).get? s.heap.objs.size=some _:=u (u (u (u (Aj _ rfl))));show _/\_;rw[q2,q3,q4]at p5;rw[q1,q2]at p3;rw[q3]at p4;rw[q1]at p2;rw[q4];exact ⟨⟨_,p5,rfl⟩,h _ ⟨p5,p3,⟨_,_,p4⟩,⟨_,p1,rfl,rfl⟩,⟨_,p2,rfl,rfl⟩⟩ λc o x=>u (u (u (u (u x))))⟩
end
def Md {X:Cx} {zB:Yd} {Y:L2.St} {H:Hp} {s:Yl} {h':Heap} {t':Nat} {ch:Yg} {T:Yt} {o:HO} (I:Inv X zB Y H s) (hf:∀ b∈ch,Bh X zB H b)
  (k:∀ b u,b∉ch->s.heap.get? b=some u->h'.get? b=some u) (hT:s.heap.objs.size<=T) (new:Aq X.prog X.w (upd H T o) h' T o):Inv X zB Y (upd H T o) { s with heap:=h',toks:=t' }:=by
 have hn:H T=none:=I.hok.fresh hT;have nch:∀ b u,H b=some u->b∉ch:=λb u e z=>by rw[(hf b z).1]at e;cases e
 have un:∀ b u,H b=some u->upd H T o b=some u:=λb u e=>by rw[zZ (DT e hn)];exact e
 refine I.step (g':=s.gens) (d':=s.drawn) (ch:=ch) (λb hb=>⟨(hf b hb).2.2.2.1,(hf b hb).2.1,(hf b hb).2.2.2.2.1,(hf b hb).2.2.2.2.2⟩) (λb u _ _ hc e _=>k b u hc e) (λb u _ _ hc e _=>⟨u.slots,k b u hc e⟩)
  (λb u _ e n=>by rw[zZ (λz=>by rw[z]at e;exact absurd (AH e) (Nat.not_lt.mpr hT))];exact n) (λb u hc e=>⟨u,k b u hc e⟩) (λb xs e=>un b _ e) (λb p u e=>un b _ e) (λb ps e=>⟨#[],by rw[un b _ e];simp⟩) (λm hm=>?_) (λb u e=>?_) I.bare
 .obtain ⟨p,es,ep,ho,r⟩:=hm;exact ⟨p,es,ep,k _ p (λz=>(hf _ z).2.1 rfl) ho,r⟩
 .by_cases hb:b=T
  .subst hb;rw[Ct]at e;cases e;exact new
  .rw[zZ hb]at e;refine (I.hok b u e).stay (λc v hc q=>k c v ?_ q) (λc q=>un c _ q) λc xs q=>un c _ q;rcases hc with z|z
   .rw[z];exact nch b u e
   .exact nch c _ z
def Mi {X:Cx} {zB:Yd} {Y:L2.St} {H:Hp} {s:Yl} {h':Heap} {t':Nat} {ch:Yg} (I:Inv X zB Y H s) (hf:∀ b∈ch,Bh X zB H b)
  (k:∀ b u,b∉ch->s.heap.get? b=some u->h'.get? b=some u):Inv X zB Y H { s with heap:=h',toks:=t' }:=by
 have nch:∀ b u,H b=some u->b∉ch:=λb u e z=>by rw[(hf b z).1]at e;cases e
 refine I.step (g':=s.gens) (d':=s.drawn) (ch:=ch) (λb hb=>⟨(hf b hb).2.2.2.1,(hf b hb).2.1,(hf b hb).2.2.2.2.1,(hf b hb).2.2.2.2.2⟩) (λb u _ _ hc e _=>k b u hc e) (λb u _ _ hc e _=>⟨u.slots,k b u hc e⟩)
  (λb u _ e n=>n) (λb u hc e=>⟨u,k b u hc e⟩) (λb xs e=>e) (λb p u e=>e) (λb ps e=>⟨#[],by rw[e];simp⟩) (λm hm=>?_) (λb u e=>?_) I.bare
 .obtain ⟨p,es,ep,ho,r⟩:=hm;exact ⟨p,es,ep,k _ p (λz=>(hf _ z).2.1 rfl) ho,r⟩
 .refine (I.hok b u e).stay (λc v hc q=>k c v ?_ q) (λc q=>q) λc xs q=>q;rcases hc with z|z
  .rw[z];exact nch b u e
  .exact nch c _ z
noncomputable def Itz (K:Yb) (a b:Yt):It :=
 ⟨λi H=>∃ xs ys x y,SqT K H a xs/\SqT K H b ys/\xs[i]?=some x/\ys[i]?=some y,
  λi H v H'=>∃ T x y,v=.ref T/\H T=none/\H'=upd H T (.tup [x,y])/\(∀ xs,SqT K H a xs->xs[i]?=some x) /\ ∀ ys,SqT K H b ys->ys[i]?=some y,
  λi H=>∃ xs ys,SqT K H a xs/\SqT K H b ys/\(xs.length<=i\/ys.length<=i)⟩
def Z3 {P:Ym} {w:Yo} {K:Yb} {es:Yi} {ek:Nat} {ep:Pos} {z TI TO i1 i2 a b:Yt} (D:ZipApart z TI TO i1 i2 a b) :
  Turn P w K (.Tuple es ek ep) (Itz K a b) [z,TI,TO,i1,i2] z (λi h=>ZipT h z TI TO i1 i2 a b .none i i) where
 mem:=by simp
 obj:=λi h Z c hc=>by
  obtain ⟨Z0,P0,⟨x,y,O0⟩,⟨o1,e1,_,d1⟩,⟨o2,e2,_,d2⟩⟩:=Z;simp only[AO,Cv,or_false]at hc;rcases hc with rfl|rfl|rfl|rfl|rfl
  .exact ⟨_,Z0,λv m=>by cases m⟩
  .exact ⟨_,P0,λv m=>by cases m⟩
  .exact ⟨_,O0,λv m=>by cases m⟩
  .exact ⟨_,e1,λv m=>by rw[d1]at m;cases m⟩
  .exact ⟨_,e2,λv m=>by rw[d2]at m;cases m⟩
 keep:=λi h h' Z k=>by
  obtain ⟨Z0,P0,⟨x,y,O0⟩,⟨o1,e1,r1⟩,⟨o2,e2,r2⟩⟩:=Z;exact ⟨k z (by simp) _ Z0,k TI (by simp) _ P0,⟨x,y,k TO (by simp) _ O0⟩,⟨o1,k i1 (by simp) _ e1,r1⟩,⟨o2,k i2 (by simp) _ e2,r2⟩⟩
 item:=by
  intro X hP hw hK hc i zB s Y H E I hf Z hg;subst hP hw hK;obtain ⟨xs,ys,x,y,sa,sb,hx,hy⟩:=hg;obtain ⟨its,rv,p1,z1⟩:=I.tuple sa;obtain ⟨its2,rv2,p2,z2⟩:=I.tuple sb;obtain ⟨u,hu,ru⟩:=rv.get hx;obtain ⟨u2,hu2,ru2⟩:=rv2.get hy;refine Wg D Z (show s.heap.IsTuple a its.toArray from p1) (show s.heap.IsTuple b its2.toArray from p2) (x:=u) (y:=u2) (by simpa using hu) (by simpa using hu2) λh' Z' N' kp=>⟨_,rfl,?_⟩;refine wpAny_letOwnedTupleGo_zip Z'.z λh2 Z2 e2=>?_;have hch:∀ c∈[z,TO,i1,i2],Bh X zB H c:=λc hm=>hf c (by
   simp only[AO,Cv,or_false]at hm ⊢;rcases hm with q|q|q|q <;> simp[q])
  have kk:∀ c o,c∉[z,TO,i1,i2]->s.heap.get? c=some o->h2.get? c=some o:=λc o n e=>e2.extBut _ _ (λm=>n (by simp[m])) (kp c o n e);have zlt:z<s.heap.objs.size:=AH Z.z;have NT:IsPair h2 s.heap.objs.size u u2:=e2.extBut _ _ (Nat.ne_of_gt zlt) N';have hfr:H s.heap.objs.size=none:=I.hok.fresh (AG _);refine ⟨.ref s.heap.objs.size,upd H s.heap.objs.size (.tup [x,y]),Md (s:=s) (h':=h2) (t':=s.toks) I hch kk (AG _) ?_,rfl,⟨_,x,y,rfl,hfr,rfl,λws hw=>?_,λws hw=>?_⟩,?_,λc hm=>?_⟩
  .exact ⟨by show 2<=sizeLine;decide,[u,u2],.cons ru (.cons ru2 .nil),⟨_,NT,rfl,⟨_,rfl⟩,rfl⟩⟩
  .rw[I.tuple_inj hw sa];exact hx
  .rw[I.tuple_inj hw sb];exact hy
  .obtain ⟨_,P1,⟨q1,q2,O1⟩,⟨o1,f1,r1⟩,⟨o2,f2,r2⟩⟩:=Z';exact ⟨Z2,e2.extBut _ _ D.TIz P1,⟨q1,q2,e2.extBut _ _ D.TOz O1⟩,⟨o1,e2.extBut _ _ D.i1z f1,r1⟩,⟨o2,e2.extBut _ _ D.i2z f2,r2⟩⟩
  .have lt:c<s.heap.objs.size:=by
    obtain ⟨Z0,P0,⟨q1,q2,O0⟩,⟨o1,f1,_⟩,⟨o2,f2,_⟩⟩:=Z;simp only[AO,Cv,or_false]at hm;rcases hm with rfl|rfl|rfl|rfl|rfl
    .exact AH Z0
    .exact AH P0
    .exact AH O0
    .exact AH f1
    .exact AH f2
   rw[zZ (Ap lt)];exact (hf c hm).1
 done:=by
  intro X hP hw hK hc i zB s Y H E I hf Z hg;subst hP hw hK;obtain ⟨xs,ys,sa,sb,hz⟩:=hg;obtain ⟨its,rv,p1,z1⟩:=I.tuple sa;obtain ⟨its2,rv2,p2,z2⟩:=I.tuple sb;have l1:=rv.length;have l2:=rv2.length;refine Vg (I.ok.hd hc) D Z (show s.heap.IsTuple a its.toArray from p1) (show s.heap.IsTuple b its2.toArray from p2) ?_ λh' kp=>⟨rfl,Mi (s:=s) (h':=h') (t':=s.toks) I (λc hm=>hf c (by
   simp only[AO,Cv,or_false]at hm ⊢;rcases hm with q|q|q|q <;> simp[q])) kp⟩
  rcases hz with q|q
  .exact .inl (by simp;omega)
  .exact .inr (by simp;omega)
 self:=λ_ _ _ _ _ Z h=>wpAny_pyIter_zip Z.z h
section
variable {X:Cx} {a b:Expr} {es:Yi} {ek:Nat} {ep p pos:Pos}
def Si {ta:TA} (hg:Gl X "zip") (hm:X.mg "zip" = none) (ha:PA X [a,b] ta) (hs:starEach [a,b] X.env=[(false,eval a X.env),(false,eval b X.env)]:=by rfl) (hs2:starEach [b] X.env=[(false,eval b X.env)]:=by rfl) :
  PI X (.Tuple es ek ep) (.Call (.Name "zip" p) [a,b] [] pos) (λY H R=>ta Y H λvs H1=>∃ l1 l2 xs ys,vs=[.ref l1,.ref l2]/\SqT X.K H1 l1 xs/\SqT X.K H1 l2 ys/\R (Itz X.K l1 l2) H1):=by
 intro zB s Y H R I h;refine Call_ (GU I hg hm (by rfl) (PyProof.Rows.callWith_type1 (thn (ha pos zB s Y H _ I h) λus s1 ⟨vs,H1,I1,r1,q1⟩=>?_) (by rw[hs,hs2]) (by rw[hs2];rfl)));obtain ⟨l1,l2,xs,ys,rfl,s1',s2',q⟩:=q1;cases r1 with
 |cons r rr=>
  cases rr with
  |cons r' rr=>
   cases rr;cases r;cases r';obtain ⟨its,rv,p1,_⟩:=I1.tuple s1';obtain ⟨its2,rv2,p2,_⟩:=I1.tuple s2';have d1:l1<s1.heap.objs.size:=by obtain ⟨_,e,_⟩:=p1;exact AH e
   have d2:l2<s1.heap.objs.size:=by obtain ⟨_,e,_⟩:=p2;exact AH e
   refine XD (show s1.heap.IsTuple l1 its.toArray from p1) (show s1.heap.IsTuple l2 its2.toArray from p2) λh' Z kp=>wpAny_pyIter_zip Z.z ?_;refine ⟨s1.heap.objs.size+4,[s1.heap.objs.size+4,s1.heap.objs.size+2,s1.heap.objs.size+3,s1.heap.objs.size,s1.heap.objs.size+1],_,_,H1,rfl,I1.kept (t':=s1.toks) kp,Z3 (zipApart_new d1 d2),Z,λc hc=>?_,q⟩;have ge:s1.heap.objs.size<=c:=by
    simp only[AO,Cv,or_false]at hc;rcases hc with rfl|rfl|rfl|rfl|rfl
    .exact Fd _ 4
    .exact Fd _ 2
    .exact Fd _ 3
    .exact AG _
    .exact Fd _ 1
   exact I1.fpOk ge (I1.hok.fresh ge)
noncomputable def IS (g:FA):FI:=λY M=>match g Y M with
 |some ([.tup xs,.tup ys],M1)=>some ((xs.zip ys).map λq=>D.tup [q.1,q.2],none,M1)
 |_=>none
def Uz (hg:Gl X "zip") (hm:X.mg "zip" = none) (ha:QA X [a,b] g) (hs:starEach [a,b] X.env=[(false,eval a X.env),(false,eval b X.env)]:=by rfl) (hs2:starEach [b] X.env=[(false,eval b X.env)]:=by rfl) :
  QI X (.Tuple es ek ep) (.Call (.Name "zip" p) [a,b] [] pos) (IS g):=.mk <| PI.imp (Si hg hm ha.un hs hs2) λτ H R zz=>by
 obtain ⟨L,Y,M,xs,gd,M',c,rs,hf,q⟩:=zz;unfold IS at hf;split at hf
 .rename_i ds es' M1 e1;cases hf;refine ⟨L,Y,M,_,_,c,rs,e1,λL1 H1 vs s1 c1 r1=>?_⟩;obtain ⟨v,v',rfl,r2,r3⟩:=r1.two;unfold Rep at r2 r3;obtain ⟨l1,ws1,rfl,h1,q1⟩:=r2;obtain ⟨l2,ws2,rfl,h2,q2⟩:=r3;refine ⟨l1,l2,ws1,ws2,rfl,.of h1,.of h2,q L1 H1 _ s1 c1 λL2 H2 M2 s2 c2 _=>?_⟩;have k1:=s2.tup l1 ws1 h1;have k2:=s2.tup l2 ws2 h2;have p1:=q1.stp s2;have p2:=q2.stp s2;refine ⟨λi d hd=>?_,⟨ws1,ws2,.of k1,.of k2,?_⟩⟩
  .rw[Af]at hd;cases e2:(ds.zip es')[i]? with
   |none=>rw[e2]at hd;cases hd
   |some pr=>
    rw[e2]at hd;cases hd;obtain ⟨f1,f2⟩:=List.getElem?_zip_eq_some.mp e2;obtain ⟨u,hu,ru⟩:=p1.get f1;obtain ⟨u2,hu2,ru2⟩:=p2.get f2;refine ⟨⟨ws1,ws2,u,u2,.of k1,.of k2,hu,hu2⟩,λv H3 hy=>?_⟩;obtain ⟨T,x,y,rfl,hT,rfl,hxx,hyy⟩:=hy;have ex:=hxx ws1 (.of k1);have ey:=hyy ws2 (.of k2);rw[hu]at ex;cases ex;rw[hu2]at ey;cases ey;exact ⟨λa o e=>by rw[zZ (DT e hT)];exact e,Rep.newTup hT (.cons ru (.cons ru2 .nil))⟩
  .rw[AF,List.length_zip,p1.length,p2.length];omega
 .cases hf
noncomputable def Ei (i j:Nat):FG:=λd Y=>match d with
 |.tup [x,y]=>some ((Y.set i (some x)).set j (some y))
 |_=>none
noncomputable abbrev gP2 (K:Yb) (i j:Nat):TG:=Pa K 2 (KG (Ea i) (KG (Ea j) N6))
def YN {K:Yb} {i j:Nat}:GOk (gP2 K i j) (Ei i j):=by
 intro L H Y Y' τ d v Q rs r hf q;unfold Ei at hf;split at hf
 .rename_i x y;cases hf;unfold Rep at r;obtain ⟨a,vs,rfl,e,r⟩:=r;obtain ⟨v1,v2,rfl,r1,r2⟩:=r.two;exact ⟨a,_,rfl,.of e,rfl,v1,[v2],rfl,v2,[],rfl,rfl,q _ ((rs.set r1).set r2)⟩
 .cases hf
def N5 {K:Yb} {own:Yj} {i j:Nat} (hi:i∈own) (hj:j∈own):D1 own (gP2 K i j) (Ei i j):=by
 intro L H Y Y' τ τ0 d v Q rs ex r hf q;unfold Ei at hf;split at hf
 .rename_i x y;cases hf;unfold Rep at r;obtain ⟨a,vs,rfl,e,r⟩:=r;obtain ⟨v1,v2,rfl,r1,r2⟩:=r.two;exact ⟨a,_,rfl,.of e,rfl,v1,[v2],rfl,v2,[],rfl,rfl,q _ ((rs.set r1).set r2) ((ex.set hi).set hj)⟩
 .cases hf
end
section
variable {X:Cx} {a b c e:Expr} {es:Yi} {pos p p2 pos2:Pos} {f g h:FE}
theorem NZ:∀ {bs:List Bool} {its:Yf},zX (bs.map V.bl) its -> ∀ (i:Nat) v,its[i]?=some v -> ∃ k,bs[i]?=some k/\v=.bool k
 |[],_,.nil,_,_,h=>by simp at h
 |k::bs,_,.cons r t,0,v,h=>by
  simp at h;subst h;exact ⟨k,rfl,r⟩
 |k::bs,_,.cons r t,i+1,v,h=>by
  obtain ⟨k',e1,e2⟩:=NZ t i v (by simpa using h);exact ⟨k',by simpa using e1,e2⟩
def Zu (bs:List Bool):((List.range bs.length).all λi=>(bs[i]?).getD true)=bs.all id:=by
 rw[En,Ae,Ae];constructor
 .intro q k hk;obtain ⟨i,hi,rfl⟩:=E6 hk;have:=q i (List.mem_range.mpr hi);rw[AL hi]at this;exact this
 .intro q i hi;rw[AL (List.mem_range.mp hi)];exact q _ (Ab _)
def PN (K:Yb) (F:List Bool->Bool):List V->Hp->VK->Prop:=λxs H Q=>∃ q bs,xs=[.ref q]/\SqL K H q (bs.map V.bl)/\Q (.bl (F bs)) H
def WG (hc:X.calm=true):Cm X (.builtin "all") (PN X.K λbs=>bs.all id):=by
 intro zB s Y H xs us Q I r h;obtain ⟨l,bs,rfl,hq,q⟩:=h;obtain ⟨u,rfl,rx⟩:=Eu r;cases rx;obtain ⟨its,rv,pl,_⟩:=I.list hq;have hlt:l<s.heap.objs.size:=by obtain ⟨_,z,_⟩:=pl.isList;exact AH z
 refine call_all_walk (wpAny_pyIter_list pl.isList ⟨s.heap.objs.size,[s.heap.objs.size,l],[s.heap.objs.size],its.toArray.size,_,_,λi=>(bs[i]?).getD true,rfl,Walks.list (A:=X.A.in1) (I.ok.hd hc) _ l (Ap hlt) its.toArray,
  ⟨⟨_,Aj _ rfl,rfl,rfl⟩,pl.isList.push _⟩,λi v s' Q' E' hP hQ=>?_,λh' tk hk=>?_⟩)
 .obtain ⟨k,z,rfl⟩:=NZ rv i v (by simpa using hP);dsimp only at hQ;rw[z]at hQ;exact Ff hQ
 .have hl:=rv.length;rw[AF]at hl;rw[AW,<-hl,Zu];exact ⟨.bl _,H,I.kept (t':=tk) λb o z=>hk b o (λm=>by rw[BC.mp m]at z;exact Bq _ (AH z)) (AJ _ z),rfl,q⟩
noncomputable def Fs:List D->Option (List Bool)
 |[]=>some []
 |.bl k::r=>match Fs r with
  |some bs=>some (k::bs)
  |none=>none
 |_=>none
theorem Mk:∀ {ds:List D} {bs:List Bool} {vs:List V},Fs ds=some bs->zK L H ds vs->vs=bs.map V.bl
 |[],bs,vs,e,r=>by cases e;unfold zK at r;exact r
 |d::ds,bs,vs,e,r=>by
  unfold zK at r;obtain ⟨v,r',rfl,r1,r2⟩:=r;cases d with
  |bl k=>
   unfold Fs at e;cases q:Fs ds with
   |none=>rw[q]at e;cases e
   |some bs'=>
    rw[q]at e;cases e;unfold Rep at r1;rw[r1,Mk q r2];rfl
  |_=>cases e
noncomputable def HD (F:List Bool->Bool):KB:=λxs M=>match xs with
 |[x]=>match CJ M x with
  |some ds=>match Fs ds with
   |some bs=>some (.dat (.bl (F bs)),M)
   |none=>none
  |none=>none
 |_=>none
def YB {K:Yb} {F:List Bool->Bool}:D7 K (PN K F) (HD F):=by
 intro L M M' H H0 xs d vs Q c r hk q;unfold HD at hk;split at hk
 .rename_i x;split at hk
  .rename_i ds e1;split at hk
   .rename_i bs e2;cases hk;obtain ⟨v,rfl,r1⟩:=r.one;obtain ⟨l,ws,rfl,h1,r2⟩:=Et c r1 e1;have:=Mk e2 r2;subst this;exact ⟨l,bs,rfl,.inl h1,q L H _ (.refl L H) c (Ce (L:=L) (H:=H))⟩
   .cases hk
  .cases hk
 .cases hk
noncomputable abbrev C4:KB:=HD λbs=>bs.all id
section
variable {fa:FAE}
def VL (hc:X.calm=true) (hg:Gl X "all") (hm:X.mg "all" = none) (ha:QAE X [e] fa) (he:starEach [e] X.env=(false,eval e X.env)::starEach [] X.env:=by rfl) (hpl:(backTo pos (starEach [] X.env)).any (·.1)=false:=by rfl):QE X (.Call (.Name "all" p) [e] [] pos) (fB C4 fa) :=
 HZ YB (WG hc) (by rfl) hg hm ha (by decide) (by decide) he hpl
end
def Sw (h:CJ M x=some ds) (hb:Fs ds=some bs):Ok (HD F [x] M) P ↔ P (.dat (.bl (F bs))) M:=by
 have:HD F [x] M=some (.dat (.bl (F bs)),M):=by unfold HD;dsimp only;rw[h];dsimp only;rw[hb]
 rw[this,BY]
theorem Pk:∀ bs:List Bool,Fs (bs.map D.bl)=some bs
 |[]=>rfl
 |k::bs=>by rw[AY];unfold Fs;rw[Pk bs]
noncomputable def E4 (k k':K2) (f g h:FE):FE:=λY M=>match f Y M with
 |some (x,M1)=>match g Y M1 with
  |some (y,M2)=>match k x y M2 with
   |some (.dat (.bl true),M3)=>match h Y M3 with
    |some (w,M4)=>k' y w M4
    |none=>none
   |some (.dat (.bl false),M3)=>some (.dat (.bl false),M3)
   |_=>none
  |none=>none
 |none=>none
def bV {K:Yb} {r r':R2} {k k':K2} (hk:BL K r k) (hk':BL K r' k') {τ:Sv} {H:Hp} {Q:VK} (z:trE K (E4 k k' f g h) τ H Q):QJ r r' (trE K f) (trE K g) (trE K h) τ H Q:=by
 obtain ⟨L,Y,M,d,M',cc,rs,hf,q⟩:=z;unfold E4 at hf;split at hf
 .rename_i x M1 e1;split at hf
  .rename_i y M2 e2;refine (mkE cc rs e1 (λL1 H1 v s1 c1 r1=>(mkE c1 (rs.stp s1) e2 (λL2 H2 w s2 c2 r2=>?_))));split at hf
   .rename_i M3 e3;split at hf
    .rename_i u M4 e4;refine hk (H0:=H) c2 (r1.stp s2) (r2.back s1 cc s2.sub) e3 λL3 H3 t s3 c3 r3=>⟨true,Fb r3,Dn ?_⟩;refine (mkE c3 (rs.stp ((s1.trans s2).trans s3)) e4 (λL4 H4 w4 s4 c4 r4=>?_));have s13:=(s1.trans s2).trans s3;refine hk' (H0:=H) c4 (((r2.back s1 cc s2.sub).stp s3).stp s4) (r4.back s13 cc s4.sub) hf λL5 H5 u5 s5 c5 r5=>?_;exact q L5 H5 u5 ((s13.trans s4).trans s5) c5 (r5.back (s13.trans s4) cc s5.sub)
    .cases hf
   .rename_i M3 e3;cases hf;refine hk (H0:=H) c2 (r1.stp s2) (r2.back s1 cc s2.sub) e3 λL3 H3 t s3 c3 r3=>⟨false,Fb r3,D3 ?_⟩;exact q L3 H3 _ ((s1.trans s2).trans s3) c3 (by have:=Fb r3;subst this;exact r3)
   .cases hf
  .cases hf
 .cases hf
def Wn (hk:BL X.K r k) (hk':BL X.K r' k') (ho:OpR X (compareOp op) r) (ho':OpR X (compareOp op') r') (h1:QE X a f) (h2:QE X b g) (h3:QE X c h)
  (hm:lastMarks [op,op'] [b,c]=false:=by with_unfolding_all rfl):QE X (.Compare a [op,op'] [b,c] pos) (E4 k k' f g h):=.mk <| PE.imp (Wv ho ho' h1.un h2.un h3.un hm) λ_ _ _ z=>bV hk hk' z
section
variable {M:Mem} {Y:Sd} {P:EV->Mem->Prop}
def N2:Ok (E4 k k' f g h Y M) P ↔ Ok (f Y M) λx M1=>Ok (g Y M1) λy M2=>Ok (k x y M2) (blP λt M3=>if t then Ok (h Y M3) λw M4=>Ok (k' y w M4) P else P (.dat (.bl false)) M3):=by
 unfold E4;constructor
 .rintro ⟨x,M1,z,q⟩;split at z
  .rename_i y M2 e1;split at z
   .rename_i y' M3 e2;split at z
    .rename_i M4 e3;split at z
     .rename_i w M5 e4;exact ⟨_,_,e1,_,_,e2,_,_,e3,by rw[F5,AB rfl];exact ⟨_,_,e4,_,_,z,q⟩⟩
     .cases z
    .rename_i M4 e3;cases z;exact ⟨_,_,e1,_,_,e2,_,_,e3,by rw[F5];simpa using q⟩
    .cases z
   .cases z
  .cases z
 .rintro ⟨x,M1,e1,y,M2,e2,t,M3,e3,q⟩;rw[e1];dsimp only;rw[e2];dsimp only;rw[e3];cases t with
  |fl _=>exact q.elim
  |dat d=>
   cases d with
   |bl t=>
    rw[F5]at q;cases t with
    |true=>
     rw[AB rfl]at q;obtain ⟨w,M4,e4,q⟩:=q;dsimp only;rw[e4];exact q
    |false=>exact ⟨_,_,rfl,by simpa using q⟩
   |_=>exact q.elim
end
noncomputable def DL (f:FE):FE:=λY M=>match f Y M with
 |some (.dat (.int i),M1)=>some (.dat (.int (-i)),M1)
 |_=>none
def UX (h1:QE X a f):QE X (.UnaryOp .USub a pos) (DL f):=.mk <| PE.imp (Wu cN h1.un) λτ H Q zz=>by
 obtain ⟨L,Y,M,d,M',cc,rs,hf,q⟩:=zz;unfold DL at hf;split at hf
 .rename_i i M1 e1;cases hf;refine (mkE cc rs e1 (λL1 H1 v s1 c1 r1=>?_));exact ⟨i,by unfold zk Rep at r1;exact r1,q L1 H1 _ s1 c1 (Cs (L:=L1) (H:=H1))⟩
 .cases hf
noncomputable def C5:KB:=λxs M=>match xs with
 |[x]=>match Az M x with
  |some ys=>some (.fl ys,M)
  |none=>none
 |_=>none
def cF:D7 X.K (λxs H Q=>∃ q ys,xs=[.ref q]/\(SqL X.K H q ys\/SqT X.K H q ys) /\ ∀ l,H l=none->Q (.ref l) (upd H l (.lst ys))) C5:=by
 intro L M M' H H0 xs d vs Q cc r hk q;unfold C5 at hk;split at hk
 .rename_i x;split at hk
  .rename_i ys e1;cases hk;obtain ⟨v,rfl,r1⟩:=r.one;obtain ⟨l,ws,rfl,hs,r2⟩:=F6 cc r1 e1;refine ⟨l,ws,rfl,hs,λk hk=>?_⟩;exact q L _ _ (.upd hk) (cc.upd hk) (zk.newLst (.refl L H) cc cc hk r2)
  .cases hk
 .cases hk
def RL (hg:Gl X "list") (hm:X.mg "list" = none) (ha:QAE X [e] fa) (he:starEach [e] X.env=(false,eval e X.env)::starEach [] X.env:=by rfl) (hpl:(backTo pos (starEach [] X.env)).any (·.1)=false:=by rfl):QE X (.Call (.Name "list" p) [e] [] pos) (fB C5 fa) :=
 KP cF Vu (by rfl) hg hm ha (by decide) (by decide) he hpl
end
open AutoSeq1 (wpAny_loadPart')
section
variable {prog:Ym} {w:Yo} {A:Yn} {E:Yc} {s:Yl}
def SX {r:Yt} {lo hi:Int} {t u v:Tok} {n:Nat} {Q:List Value->Shared->Prop} (hh:A.handled=none) (R:IsRange s.heap r lo hi 1 t u v) (sm:Builtin.Range.small lo hi 1=true) (hn:Builtin.Range.rangeSize lo hi 1=n) (hz:n<=2 ^ 24)
  (q:∀ h' tk (acc:Yp),(∀ b o,s.heap.get? b=some o->h'.get? b=some o)->ItemsOf (λi v=>∃ t,v=.int (lo+i*1) t) acc n->Q acc.toList { s with heap:=h',toks:=tk }):wpAny (model prog w) A (collect (.ref r)) Q E s:=by
 unfold collect;refine AA (wpAny_runValue (codeAny_builtin PySem.F.entry_proto_collect ?_));rw[Around.under_plainId PySem.F.plain_proto_collect _];refine AA (m:=newList []) (CI (AE ⟨plainId_quiet PySem.F.plain_list_iadd _,codeAny_builtin PySem.F.entry_list_iadd ?_⟩));rw[Around.under_plainId PySem.F.plain_list_iadd _];have S0:(s.heap.push { cls:=.type "list", data:=.seq ([]:List Value).toArray }).get? s.heap.objs.size=some { cls:=.type "list", data:=.seq #[] 0 }:=Aj _ rfl
 have fin:∀ (h':Heap) (tk:Nat) (acc:Array Value) (k:Nat),(∀ b o,b≠s.heap.objs.size->(s.heap.push { cls:=.type "list", data:=.seq ([]:List Value).toArray }).get? b=some o->h'.get? b=some o) ->
   h'.get? s.heap.objs.size=some { cls:=.type "list", dict:=none,data:=.seq acc k,slots:=#[] }->ItemsOf (λi v=>∃ t,v=.int (lo+i*1) t) acc n ->
   wpAny (model prog w) A (match Value.ref s.heap.objs.size with
    |Value.ref a=>do
     match (<- load a).data with
      |Data.seq xs _=>pure xs.toList
      |_=>unsupported "internal:collect"
    |_=>unsupported "internal:collect") Q E { s with heap:=h',toks:=tk }:=λh' tk acc k kp e it=>by
  refine AA (m:=load s.heap.objs.size) (wpAny_load e (AE (q h' tk acc (λb o m=>kp b o (Ap (AH m)) (AJ _ m)) it)))
 refine AX (wpAny_extend_range (A:=A) (s:={ s with heap:=s.heap.push { cls:=.type "list", data:=.seq ([]:List Value).toArray } })
  (R:=λr s'=>r=.ok (.ret (.ref s.heap.objs.size)) /\ ∃ h' tk acc k,s'={ s with heap:=h',toks:=tk }/\(∀ b o,b≠s.heap.objs.size->(s.heap.push { cls:=.type "list", data:=.seq ([]:List Value).toArray }).get? b=some o->h'.get? b=some o) /\
   h'.get? s.heap.objs.size=some { cls:=.type "list", dict:=none,data:=.seq acc k,slots:=#[] }/\ItemsOf (λi v=>∃ t,v=.int (lo+i*1) t) acc n)
  hh (AJ _ R) sm hn hz s.heap.objs.size (.ref s.heap.objs.size) 0 S0 λh' tk acc k kp e it=>⟨rfl,h',tk,acc,k,rfl,kp,e,it⟩) (λf s' z=>?_) (λe s' z=>?_)
 .cases f with
  |done f=>
   obtain ⟨e,h',tk,acc,k,rfl,z1,z2,z3⟩:=z;cases e;exact fin h' tk acc k z1 z2 z3
  |again c'=>exact ⟨z.1,codeAny_mono z.2 λr s'' z=>by obtain ⟨rfl,h',tk,acc,k,rfl,z1,z2,z3⟩:=z;exact fin h' tk acc k z1 z2 z3⟩
 .exact absurd z.1 (by simp)
end
def cY (r:Yt) (lo hi:Int) (t u v:Tok) (n:Nat) (sm:Builtin.Range.small lo hi 1=true) (hn:Builtin.Range.rangeSize lo hi 1=n) (hz:n<=2 ^ 24) :
  Meets (Builtin.«tuple.__new__» ⟨[.type "tuple", .ref r],[]⟩) (λA R s=>A.handled=none/\IsRange s.heap r lo hi 1 t u v /\
   ∀ (h':Heap) (tk:Nat) (acc:Array Value),(∀ b o,s.heap.get? b=some o->h'.get? b=some o)->ItemsOf (λi v=>∃ t,v=.int (lo+i*1) t) acc n->R (.ok (.ret (.ref h'.objs.size))) { s with heap:=h'.push { cls:=.type "tuple", data:=.seq acc },toks:=tk }) :=
 .of_wp λprog w A R s h=>by
  obtain ⟨hp,g,d,tk,os⟩:=s;obtain ⟨hh,Ra,h⟩:=h;have h1:=sub_tuple_self;have h2:=init_tuple_lookup;have h3:=madeHere_tuple;have T:Shared.TypeIs ⟨hp,g,d,tk,os⟩ (.ref r) "range" := ⟨_,Ra,rfl⟩;wp_walk using wpAny_loadPart' Ra,wpAny_typeOf T,SX (show A.in1.handled=none from hh) Ra sm hn hz;intro h' tk' acc kp it;refine AA (m:=Builtin.Tuple.tupleExact acc.toList.toArray) ?_;unfold Builtin.Tuple.tupleExact;have sz:acc.toList.toArray.size<=sizeLine:=by rw[AW,Bn,it.1,sizeLine_eq];omega
  refine CI (AE ⟨_,rfl,?_⟩) sz;have e:acc.toList.toArray=acc:=by simp
  rw[e];exact h h' tk' acc kp it
section
variable {X:Cx} {a e:Expr} {es:Yi} {pos p p2 pos2:Pos} {f:FE}
def Xw:Cm X (.type "range") (λxs H Q=>∃ j,xs=[.int j] /\ ∀ l,H l=none->Q (.ref l) (upd H l (.rng 0 j))):=by
 intro zB s Y H xs us Q I r h;obtain ⟨j,rfl,q⟩:=h;obtain ⟨u,rfl,rx⟩:=Eu r;obtain ⟨t,rfl⟩:=rx;refine call_range_1 ⟨.ref s.heap.objs.size,_,I.laid (λb o z=>AJ _ z) (AG _) ?_,rfl,q _ (I.hok.fresh (AG _))⟩;exact ⟨_,_,_,Aj _ rfl⟩
noncomputable def upV (n:Nat):List V:=(List.range n).map λ(k:Nat)=>V.int k
def d9 (h:ItemsOf (λi v=>∃ t,v=.int ((0:Int)+i*1) t) acc n):zX (upV n) acc.toList:=by
 obtain ⟨hz,hi⟩:=h;have:∀ (xs:Yf) (k:Nat),(∀ j v,xs[j]?=some v -> ∃ t,v=Value.int ((k+j:Nat):Int) t)->zX ((List.range' k xs.length).map λ(k:Nat)=>V.int k) xs:=by
  intro xs;induction xs with
  |nil=>intro k _;exact .nil
  |cons x xs ih=>
   intro k hk;rw[CS,List.range'_succ,AY];refine .cons ?_ (ih (k+1) λj v e=>?_)
   .obtain ⟨t,e⟩:=hk 0 x rfl;exact ⟨t,by simpa using e⟩
   .obtain ⟨t,e'⟩:=hk (j+1) v (by simpa using e);exact ⟨t,by rw[e'];congr 2;omega⟩
 have q:=this acc.toList 0 (λj v e=>by
  obtain ⟨t,e'⟩:=hi j v (by simpa using e);exact ⟨t,by rw[e'];congr 1;omega⟩)
 unfold upV;rw[List.range_eq_range'];rw[Bn,hz]at q;exact q
def fD (h0:0<=j) (h1:j<=16777216):Builtin.Range.small 0 j 1=true/\Builtin.Range.rangeSize 0 j 1=(j.toNat:Int):=by
 refine ⟨small_one (by omega) (by omega) (by omega) (by omega),?_⟩;rw[rangeSize_one];split <;> omega
def VE (mk:List V->HO):List V->Hp->VK->Prop:=λxs H Q=>∃ r j,xs=[.ref r]/\H r=some (.rng 0 j)/\0<=j/\j<=16777216 /\ ∀ l,H l=none->Q (.ref l) (upd H l (mk (upV j.toNat)))
def Vy (n:Nat):(upV n).length=n:=by unfold upV;simp
def Uk (hc:X.calm=true):Cm X (.type "tuple") (VE HO.tup):=by
 intro zB s Y H xs us Q I r h;obtain ⟨l,j,rfl,hr,h0,h1,q⟩:=h;obtain ⟨u,rfl,rx⟩:=Eu r;cases rx;obtain ⟨t,u,v,er⟩:=(show Aq X.prog X.w H s.heap l (.rng 0 j)from I.hok l _ hr);obtain ⟨sm,sz⟩:=fD h0 h1
 refine callType_new PySem.F.called_tuple (by decide) (PySem.F.typeCall_tuple_1 _) (PySem.F.newCall_tuple_1 _) (λobj=>PySem.F.args_object_init_2 obj _) PySem.F.entry_tuple_new (cY l 0 j t u v j.toNat sm sz (by omega))
  ⟨I.ok.hd hc,er,λh' tk acc kp it=>⟨⟨_,Aj _ rfl,rfl⟩,?_⟩⟩
 have I1:Inv X zB Y H { s with heap:=h',toks:=tk }:=I.kept kp;refine ⟨.ref h'.objs.size,_,I1.laid (t':=tk) (λb o z=>AJ _ z) (AG _) ?_,rfl,q _ (I1.hok.fresh (AG _))⟩;exact ⟨by rw[Vy,sizeLine_eq];omega,acc.toList,d9 it,by simpa using DR.new h' acc⟩
noncomputable def upD (n:Nat):List D:=(List.range n).map λ(k:Nat)=>D.int k
def Zh (n:Nat):zK L H (upD n) (upV n):=by
 have:∀ xs:List Nat,zK L H (xs.map λ(k:Nat)=>D.int k) (xs.map λ(k:Nat)=>V.int k):=by
  intro xs;induction xs with
  |nil=>exact .nil
  |cons x xs ih=>exact .cons Cs ih
 exact this _
noncomputable def JU (f:FE):FE:=λY M=>match f Y M with
 |some (.dat (.int j),M1)=>if 0<=j/\j<=16777216 then some (.dat (.tup (upD j.toNat)),M1) else none
 |_=>none
def SE (hc:X.calm=true) (hg:Gl X "tuple") (hm:X.mg "tuple" = none) (hg2:Gl X "range") (hm2:X.mg "range" = none) (ha:QE X a f)
  (he:starEach [Expr.Call (.Name "range" p2) [a] [] pos2] X.env=(false,eval (Expr.Call (.Name "range" p2) [a] [] pos2) X.env)::starEach [] X.env:=by rfl) (hpl:(backTo pos (starEach [] X.env)).any (·.1)=false:=by rfl)
  (he2:starEach [a] X.env=(false,eval a X.env)::starEach [] X.env:=by rfl) (hpl2:(backTo pos2 (starEach [] X.env)).any (·.1)=false:=by rfl) :
  QE X (.Call (.Name "tuple" p) [.Call (.Name "range" p2) [a] [] pos2] [] pos) (JU f) :=
 .mk <| PE.imp (ME (Uk hc) hg hm (by rfl) (Gm (ME Xw hg2 hm2 boot_range (Gm ha.un HW he2) (by decide) (by decide) he2 hpl2) HW he) (by decide) (by decide) he hpl) λτ H Q zz=>by
  obtain ⟨L,Y,M,d,M',c,rs,hf,q⟩:=zz;unfold JU at hf;split at hf
  .rename_i j M1 e1;split at hf
   .rename_i hb;cases hf;refine (mkE c rs e1 (λL1 H1 v s1 c1 r1=>⟨j,by unfold zk Rep at r1;rw[r1],λl hl=>⟨l,j,rfl,Ct,hb.1,hb.2,λk hk=>?_⟩⟩));exact q L1 _ _ ((s1.trans (.upd hl)).trans (.upd hk)) ((c1.upd hl).upd hk) (Rep.newTup hk (Zh _))
   .cases hf
  .cases hf
end
noncomputable def Hb:Expr->Bool
 |.Starred .. =>false
 |_=>true
def zd (h:Hb e=true):starEach (e::es) env=(false,eval e env)::starEach es env:=by
 cases e <;> first|rfl|cases h
def Kv (h:Hb e=true):starEach [e] env=[(false,eval e env)]:=zd h
def bP (h:Hb e=true) (h':Hb e'=true):starEach [e,e'] env=[(false,eval e env),(false,eval e' env)]:=by rw[zd h,Kv h']
theorem Gi:∀ {es:Yi},es.all Hb=true->(backTo pos (starEach es env)).any (·.1)=false
 |[],_=>rfl
 |e::es,h=>by
  rw[D8,Am]at h;rw[zd h.1];have:=Gi (pos:=pos) (env:=env) h.2;simpa [backTo] using this
def Cor.pushO {K:Yb} {L:Yg} {M:List MO} {H:Hp} {p:Yt} {o:HO} {m:MO} (c:Cor K L M H) (h:H p=none) (new:DK K (L++[p]) (L2.upd H p o) p m) :
  Cor K (L++[p]) (M++[m]) (L2.upd H p o)/\Stp L H (L++[p]) (L2.upd H p o):=by
 have hp:p∉L:=λz=>by obtain ⟨o,e⟩:=c.tracked z;rw[h]at e;cases e
 have st:Stp L H (L++[p]) (L2.upd H p o):=by
  refine ⟨⟨[p],rfl⟩,λa ha=>?_,λa o e _ _=>?_,λa o e=>?_,λa o u e=>?_,Ii (λa o u e=>?_) λa ps e=>?_⟩
  .rcases AS.mp ha with z|z
   .exact .inl z
   .have:a=p:=by simpa using z
    subst this;exact .inr h
  all_goals (rw[zZ (DT e h)];exact e)
 refine ⟨⟨by simp[c.len],?_,λn a m e1 e2=>?_,c.tab.stp st⟩,st⟩
 .rw[E9];exact ⟨c.nd,by simp,λa ha b hb z=>by
   have:b=p:=by simpa using hb
   subst this;subst z;exact hp ha⟩
 .by_cases hn:n<L.length
  .rw[Ai hn]at e1;rw[Ai (by rw[<-c.len];exact hn)]at e2;exact (c.obj n a m e1 e2).stp st λo _ e=>by rw[zZ (DT e h)];exact e
  .have hn':n=L.length:=by
    have:=(AI.mp e1).1;rw[AN]at this;simp at this;omega
   subst hn';simp at e1;rw[c.len]at e2;simp at e2;subst e1;subst e2;exact new
def DK.nt {K:Yb} {L:Yg} {H:Hp} {a:Yt} {m:MO} (h:DK K L H a m) {o:HO} (e:H a=some o):NT o:=λps z=>by
 subst z;cases m with
 |lst xs=>obtain ⟨vs,e',_⟩:=h;rw[e]at e';cases e'
 |fro xs=>obtain ⟨o,vs,e',_⟩:=h;rw[e]at e';cases e'
 |dict ps=>obtain ⟨vs,e',_⟩:=h;rw[e]at e';cases e'
 |dicT ps=>obtain ⟨vs,e',_⟩:=h;rw[e]at e';cases e'
 |set _=>obtain ⟨o,u,e'⟩:=h;rw[e]at e';cases e'
 |froT ps=>obtain ⟨o,vs,e',_⟩:=h;rw[e]at e';cases e'
 |froK ps=>obtain ⟨o,vs,e',_⟩:=h;rw[e]at e';cases e'
def Cor.nt {K:Yb} {L:Yg} {M:List MO} {H:Hp} {n:Nat} {p:Yt} {o:HO} (c:Cor K L M H) (h1:L[n]?=some p) (ho:H p=some o):NT o :=
 (c.obj n p _ h1 (AL (by rw[<-c.len];exact (AI.mp h1).1))).nt ho
def Cor.put {K:Yb} {L:Yg} {M:List MO} {H:Hp} {n:Nat} {p:Yt} {o o':HO} {m:MO} (c:Cor K L M H) (h1:L[n]?=some p) (ho:H p=some o) (ht:∀ xs,o≠.tup xs) (hf:∀ a u,o≠.frz a u)
  (new:Stp L H L (L2.upd H p o')->DK K L (L2.upd H p o') p m):Cor K L (M.set n m) (L2.upd H p o')/\Stp L H L (L2.upd H p o'):=by
 have st:Stp L H L (L2.upd H p o'):=by
  have nt:=c.nt h1 ho;refine ⟨⟨[],by simp⟩,λa ha=> .inl ha,λa o e ha _=>?_,λa xs e=>?_,λa b u e=>?_,Ii (λa b u e=>?_) λa ps e=>?_⟩
  .rw[zZ (show a≠p from λz=>ha (by rw[z];exact Bd h1))];exact e
  .rw[zZ (GW e ho (λz=>ht xs z.symm))];exact e
  .rw[zZ (GW e ho (λz=>hf b u z.symm))];exact e
  .rw[zZ (GW e ho (λz=>hf b u z.symm))];exact e
  .rw[zZ (GW e ho (λz=>nt ps z.symm))];exact e
 refine ⟨⟨by simp[c.len],c.nd,λk a m' e1 e2=>?_,c.tab.stp st⟩,st⟩;rw[FL]at e2;split at e2
 .rename_i hk;subst hk;rw[h1]at e1;cases e1;split at e2
  .cases e2;exact new st
  .cases e2
 .rename_i hk;have hne:a≠p:=λz=>hk (by
   subst z;exact (List.getElem?_inj (AI.mp h1).1 c.nd).mp (h1.trans e1.symm))
  exact (c.obj k a m' e1 e2).stp st λo _ e=>by rw[zZ hne];exact e
section
variable {X:Cx} {a b e:Expr} {pos:Pos} {f g:FE}
noncomputable def G5:FE:=λ_ M=>some (.dat (.ref M.length),M++[.dict []])
noncomputable def JO:FE:=λ_ M=>some (.dat (.ref M.length),M++[.dicT []])
def V4:QE X (.Dict [] [] pos) G5:=.mk <| PE.imp UP λτ H Q ⟨L,Y,M,d,M',c,rs,hf,q⟩ p hp=>by
 unfold G5 at hf;cases hf;obtain ⟨c2,s2⟩:=c.pushO (m:=.dict []) hp ⟨[],Ct,rfl⟩;refine q _ _ _ s2 c2 ?_;unfold zk Rep;exact ⟨p,rfl,by rw[<-c.len];simp⟩
def TX:QE X (.Dict [] [] pos) JO:=.mk <| PE.imp W8 λτ H Q ⟨L,Y,M,d,M',c,rs,hf,q⟩ p hp=>by
 unfold JO at hf;cases hf;obtain ⟨c2,s2⟩:=c.pushO (m:=.dicT []) hp ⟨[],Ct,rfl⟩;refine q _ _ _ s2 c2 ?_;unfold zk Rep;exact ⟨p,rfl,by rw[<-c.len];simp⟩
def Ji (h:Rep L H d v) (e:Bz d=some k):v=kV k:=by
 cases d with
 |int i=>cases e;unfold Rep at h;exact h
 |str x=>cases e;unfold Rep at h;exact h
 |_=>cases e
noncomputable def DZ (M:Mem):EV->Option (List D)
 |.fl xs=>some xs
 |.dat (.ref n)=>match M[n]? with
  |some (.lst xs)=>some xs
  |_=>none
 |_=>none
def Jv {K:Yb} {L:Yg} {M:Mem} {H H0:Hp} {x:EV} {v:V} {xs:List D} (c:Cor K L M H) (r:zk H0 L H x v) (h:DZ M x=some xs):∃ a vs,v=.ref a/\H a=some (.lst vs)/\zK L H xs vs:=by
 cases x with
 |fl ys=>
  cases h;obtain ⟨p,vs,rfl,_,e,_,r⟩:=r;exact ⟨p,vs,rfl,e,r⟩
 |dat d=>
  cases d with
  |ref n=>
   unfold zk Rep at r;obtain ⟨a,rfl,e⟩:=r;unfold DZ at h;dsimp only at h;split at h
   .rename_i ys q;cases h;obtain ⟨vs,e1,r1⟩:=c.obj n a _ e q;exact ⟨a,vs,rfl,e1,r1⟩
   .cases h
  |_=>cases h
noncomputable def CQ:K2:=λx y M=>match DZ M x,DZ M y with
 |some xs,some ys=>if xs.length+ys.length<=sizeLine then some (.fl (xs++ys),M) else none
 |_,_=>none
def RZ {K:Yb}:BL K Qz CQ:=by
 intro L M M' H H0 x y d v w Q c rx ry hk q;unfold CQ at hk;split at hk
 .rename_i xs ys e1 e2;split at hk
  .rename_i hz;cases hk;obtain ⟨l,vs,rfl,h1,r1⟩:=Jv c rx e1;obtain ⟨l2,ws,rfl,h2,r2⟩:=Jv c ry e2;refine ⟨l,l2,vs,ws,rfl,rfl,h1,h2,by rw[r1.length,r2.length];exact hz,λp hp=>?_⟩;exact q L _ _ (.upd hp) (c.upd hp) (zk.newLst (.refl L H) c c hp (r1.app r2))
  .cases hk
 .cases hk
def aU (h1:QE X a f) (h2:QE X b g):QE X (.BinOp a .Add b pos) (fOp CQ f g):=Fm RZ Uw h1 h2
end
section
variable {X:Cx} {a b e o:Expr} {pos p apos cpos:Pos} {f g:FE}
noncomputable def BZ:List D->Option (List Int)
 |[]=>some []
 |.int i::r=>match BZ r with
  |some bs=>some (i::bs)
  |none=>none
 |_=>none
theorem Ia:∀ {ds:List D} {bs:Ye} {vs:List V},BZ ds=some bs->zK L H ds vs->vs=bs.map V.int
 |[],bs,vs,e,r=>by cases e;unfold zK at r;exact r
 |d::ds,bs,vs,e,r=>by
  unfold zK at r;obtain ⟨v,r',rfl,r1,r2⟩:=r;cases d with
  |int k=>
   unfold BZ at e;cases q:BZ ds with
   |none=>rw[q]at e;cases e
   |some bs'=>
    rw[q]at e;cases e;unfold Rep at r1;rw[r1,Ia q r2];rfl
  |_=>cases e
theorem Gz:∀ xs:List Int,BZ (xs.map D.int)=some xs
 |[]=>rfl
 |x::r=>by rw[AY];unfold BZ;rw[Gz r]
def Q9 (xs:Ye):(xs.map V.int).all E5=true:=by
 rw[Ae];intro x hx;obtain ⟨i,_,rfl⟩:=AV.mp hx;rfl
def dA (i:Int) (xs:Ye):inV (.int i) (xs.map V.int)=xs.any λy=>decide (y=i):=by
 unfold inV;rw[List.any_map];congr 1
noncomputable def kIn (neg:Bool):K2:=λx y M=>match x with
 |.dat (.int i)=>match Az M y with
  |some ds=>match BZ ds with
   |some xs=>some (.dat (.bl (if neg then !(xs.any λy=>decide (y=i)) else xs.any λy=>decide (y=i))),M)
   |none=>none
  |none=>none
 |_=>none
def VZ {K:Yb} {neg:Bool}:BL K (rIn K neg) (kIn neg):=by
 intro L M M' H H0 x y d v w Q cc rx ry hk q;unfold kIn at hk;split at hk
 .rename_i i;split at hk
  .rename_i ds e1;split at hk
   .rename_i xs e2;cases hk;have ev:v=.int i:=by unfold zk Rep at rx;exact rx
    obtain ⟨p,vs,rfl,hs,r⟩:=F6 cc ry e1;have:=Ia e2 r;subst this;refine ⟨p,_,rfl,hs,by rw[ev];rfl,Q9 xs,?_⟩;rw[ev,dA];exact q L H _ (.refl L H) cc (Ce (L:=L) (H:=H))
   .cases hk
  .cases hk
 .cases hk
def To (h1:QE X a f) (h2:QE X b g) (hm:behindInMarks .NotIn b=false:=by rfl):QT X (.Compare a [.NotIn] [b] pos) (tst (fOp (kIn true) f g)):=G2 VZ Uq h1 h2 hm
end
end L3
namespace L2
section
variable {prog:Ym} {w:Yo} {A:Yn} {E:Yc} {R:Yx} {s:Yl}
def SS (elt target iter:Expr) (ifs:Yi) (scope:Y0) (pos:Pos) (it acc:Yu) (env:Env) :
  compTurn (.SetComp elt [⟨target,iter,ifs,0⟩] scope pos) 0 it acc env=(do
   standAt iter.pos;match <- pyNext it with
   |none=>pure (.done .next)
   |some v=>
    letOwnedTupleGo target it v;assign target env v;let mut ok:=true
    for c in ifs do
     if ok then ok <- isTrue c env (eval c env)
    if ok then (do let v <- eval elt env;standAt elt.pos;let _ <- call (.builtin "set.add") [acc,v])
    again (.compLoop (.SetComp elt [⟨target,iter,ifs,0⟩] scope pos) 0 it acc env)):=by rfl
def Wb (I:Nat->Shared->Prop)
  (turn:∀ n s,I n s->wpAny (model prog w) A (pyNext it) (λr s₁=>match r with
   |none=>R (.ok .next) s₁
   |some v=>wpAny (model prog w) A (letOwnedTupleGo target it v) (λ_ s₁'=>wpAny (model prog w) A (assign target env v) (λ_ s₂=>
     wpAny (model prog w) A (forIn ifs true λc r=>if r=true then do let ok <- isTrue c env (eval c env);pure (ForInStep.yield ok) else pure (ForInStep.yield r)) (λok s₃=>
      if ok=true then wpAny (model prog w) A (eval elt env) (λx s₄=>
       wpAny (model prog w) A (call (.builtin "set.add") [acc,x]) (λ_ s₅=>∃ m,m<n/\I m s₅) (λ_ _=>False) s₄) (λ_ _=>False) s₃
      else ∃ m,m<n/\I m s₃) (λ_ _=>False) s₂) (λ_ _=>False) s₁') (λ_ _=>False) s₁) (λ_ _=>False) s)
  (n:Nat) (h:I n s) :
  codeAny (model prog w) A (.compLoop (.SetComp elt [⟨target,iter,ifs,0⟩] scope pos) 0 it acc env) R s:=by
 refine codeAny_loop rfl I (λn s hI=>?_) n h;show wpAny _ A ((compTurn (.SetComp elt [⟨target,iter,ifs,0⟩] scope pos) 0 it acc env).onRaise (λx=>do noteFrame x env;theTreesLotGoes x)) _ _ s;refine wpAny_noted ?_;rw[SS];refine AA (DM (AA (AX (turn n s hI) (λr s₁ h₁=>?_) λ_ _ h'=>h'.elim)));cases r with
 |none=>exact AE h₁
 |some v=>
  refine AA (AX h₁ (λ_ s₁' h₁'=>?_) λ_ _ h'=>h'.elim);refine AA (AX h₁' (λ_ s₂ h₂=>AA (AX h₂ (λok s₃ h₃=>?_) λ_ _ h'=>h'.elim)) λ_ _ h'=>h'.elim);cases ok with
  |false=>exact AE ⟨rfl,h₃⟩
  |true=>
   exact AA (AA (AX h₃ (λx s₄ h₄=>AA (DM (AA (AX h₄ (λ_ s₅ h₅=>AE (AE ⟨rfl,h₅⟩)) λ_ _ h'=>h'.elim)))) λ_ _ h'=>h'.elim))
end
end L2
end
namespace ST
open PySem
abbrev Up (xs:Array Nat):Prop:=xs.toList.Pairwise (· < ·)
def Up.get (h:Up xs) (hik:i<k) (hk:k<xs.size):xs[i]'(by omega)<xs[k]:=by
 have:=List.pairwise_iff_getElem.mp h i k (by simpa using (show i<xs.size by omega)) (by simpa using hk) hik;simpa using this
theorem Ln (h:Up xs) (j:Nat):∀ (fuel lo hi:Nat),lo<=hi->hi<=xs.size->hi-lo<=fuel->(∀ i (hi':i<xs.size),i<lo->xs[i]<j)->(∀ i (hi':i<xs.size),hi<=i->j<=xs[i]) ->
  (SetTable.below.go xs j fuel lo hi<=xs.size)/\(∀ i (hi':i<xs.size),i<SetTable.below.go xs j fuel lo hi->xs[i]<j)/\(∀ i (hi':i<xs.size),SetTable.below.go xs j fuel lo hi<=i->j<=xs[i])
 |0,lo,hi,h1,h2,h3,a,b=>by
  have:lo=hi:=by omega
  subst this;unfold SetTable.below.go;exact ⟨h2,a,b⟩
 |fuel+1,lo,hi,h1,h2,h3,a,b=>by
  unfold SetTable.below.go;by_cases hl:lo<hi
  .rw[AB hl];dsimp only;have hm:(lo+hi) / 2<xs.size:=by omega
   have eg:xs.getD ((lo+hi) / 2) j=xs[(lo+hi) / 2]:=by simp[Array.getD,hm]
   rw[eg];by_cases hc:xs[(lo+hi) / 2]<j
   .rw[AB hc];refine Ln h j fuel _ _ (by omega) h2 (by omega) (λi hi' hlt=>?_) b;rcases Nat.lt_or_ge i ((lo+hi) / 2)with z|z
    .exact Nat.lt_trans (h.get z hm) hc
    .have:i=(lo+hi) / 2:=by omega
     subst this;exact hc
   .rw[AD hc];refine Ln h j fuel _ _ (by omega) (by omega) (by omega) a (λi hi' hge=>?_);rcases Nat.lt_or_ge ((lo+hi) / 2) i with z|z
    .have:=h.get z hi';omega
    .have:i=(lo+hi) / 2:=by omega
     subst this;omega
  .rw[AD hl];have:lo=hi:=by omega
   subst this;exact ⟨h2,a,b⟩
def Iq (h:Up xs) (j:Nat):SetTable.below xs j<=xs.size/\(∀ i (hi':i<xs.size),i<SetTable.below xs j->xs[i]<j)/\(∀ i (hi':i<xs.size),SetTable.below xs j<=i->j<=xs[i]):=by
 unfold SetTable.below;exact Ln h j xs.size 0 xs.size (Ba _) (AG _) (by omega) (λi _ z=>by omega) (λi hi' z=>by omega)
def Ur (h:Up xs):SetTable.below xs 0=0:=by
 obtain ⟨a,b,c⟩:=Iq h 0;rcases Nat.eq_zero_or_pos (SetTable.below xs 0)with z|z
 .exact z
 .have:=b 0 (by omega) z;omega
def TK (h:Up xs) (hk:k<xs.size):SetTable.below xs (xs[k]+1)=k+1:=by
 obtain ⟨a,b,c⟩:=Iq h (xs[k]+1);rcases Nat.lt_trichotomy (SetTable.below xs (xs[k]+1)) (k+1)with z|z|z
 .have:=c k hk (by omega);omega
 .exact z
 .have h1:k+1<xs.size:=by omega
  have:=b (k+1) h1 z;have:=h.get (show k<k+1 by omega) h1;omega
def RW {α:Type} (xs:Array α) (p:Nat) (x:α):(SetTable.insertAt xs p x).toList=xs.toList.take p++x::xs.toList.drop p:=by
  unfold SetTable.insertAt;simp;have:xs.toList.length<=xs.size:=by simp
  rw[Gs (by simp)]
def gB (h : Up xs) (hj : j ∉ xs.toList) : Up (SetTable.insertAt xs (SetTable.below xs j) j) := by
  obtain ⟨a, b, c⟩ := Iq h j;unfold Up;rw [RW];rw [List.pairwise_append];have hT : ∀ x ∈ xs.toList.take (SetTable.below xs j), x < j := fun x hx => by
    obtain ⟨i,hi,e⟩:=E6 hx;rw[List.getElem_take]at e;rw[BF]at hi
    have h1 : i < xs.size := by have : xs.toList.length = xs.size := by simp
                                omega
    have:=b i h1 (by omega);rw[<-e];simpa using this
  have hD : ∀ x ∈ xs.toList.drop (SetTable.below xs j), j < x := fun x hx => by
    obtain ⟨i,hi,e⟩:=E6 hx;rw[List.getElem_drop]at e;rw[EW]at hi
    have h1 : SetTable.below xs j + i < xs.size := by have : xs.toList.length = xs.size := by simp
                                                      omega
    have h2:=c _ h1 (by omega);have h3:x≠j:=λz=>hj (z▸EL hx);have e':xs[SetTable.below xs j+i]=x:=by simpa using e
    omega
  refine ⟨h.sublist (List.take_sublist _ _),CD.mpr ⟨hD,h.sublist (List.drop_sublist _ _)⟩,λx hx y hy=>?_⟩;rcases AO.mp hy with z|z
  .rw[z];exact hT x hx
  .exact Nat.lt_trans (hT x hx) (hD y z)
def NX (j:Nat):SetTable.has #[] j=false:=by
 unfold SetTable.has;simp
def VD {t:SetTable} (h:Up t.place) (he:t.slot j=.empty):j∉t.place.toList:=λhm=>by
 obtain ⟨a,b,c⟩:=Iq h j;obtain ⟨k,hk,e⟩:=E6 hm;have hk':k<t.place.size:=by simpa using hk
 have e':t.place[k]=j:=by simpa using e
 have eb:SetTable.below t.place j=k:=by
  rcases Nat.lt_trichotomy (SetTable.below t.place j) k with z|z|z
  .have h1:SetTable.below t.place j<t.place.size:=by omega
   have:=c _ h1 (AG _);have:=h.get z hk';omega
  .exact z
  .have:=b k hk' z;omega
 unfold SetTable.slot at he;dsimp only at he;rw[eb,AB (by simp[hk',e'])]at he;cases he
theorem Mt (hd:t.dummies = #[]):∀ (fuel:Nat) (p:SetTable.Probe) {j:Nat} {d:Option Nat},p.dummy=none->SetTable.probe.go t hashAt h fuel p=some (.empty j d)->d=none/\t.slot j=.empty
 |0,_,_,_,_,e=>by unfold SetTable.probe.go at e;cases e
 |fuel+1,p,j,d,hp,e=>by
  unfold SetTable.probe.go at e;split at e
  .rename_i hs;cases e;exact ⟨hp,hs⟩
  .rename_i hs;unfold SetTable.slot at hs;dsimp only at hs;rw[hd,NX]at hs;split at hs <;> first|cases hs|simp at hs
  .split at e
   .cases e
   .refine Mt hd fuel _ ?_ e;unfold SetTable.advance;split <;> simp[hp]
def Rf {t:SetTable} (hu:Up t.place) (hd:t.dummies = #[]) (e:t.freeSlot h=some (j,b)):b=false/\j∉t.place.toList:=by
 unfold SetTable.freeSlot at e;split at e
 .rename_i j' d hp;unfold SetTable.probe at hp;obtain ⟨h1,h2⟩:=Mt hd _ _ (by rfl) hp;subst h1;simp at e;obtain ⟨rfl,rfl⟩:=e;exact ⟨rfl,VD hu h2⟩
 .cases e
structure TabOk (w:Yo) (t:SetTable):Prop where
 led:t.led = !w.params.followText "set-order"
 up:Up t.place
 nod:t.dummies = #[]
def fW (n:Nat):Up (Array.range n):=by
 unfold Up;rw[Array.toList_range];exact List.pairwise_lt_range
def TabOk.standIn (h:TabOk w t) (n:Nat):TabOk w (t.standIn n):=⟨h.led,fW n,rfl⟩
def TabOk.orStandIn (h:TabOk w t) (n:Nat):TabOk w (t.orStandIn n):=by
 unfold SetTable.orStandIn;split
 .exact h
 .exact h.standIn n
def TabOk.put (h:TabOk w t) (hj:j∉t.place.toList):TabOk w (t.put j).1:=by
 unfold SetTable.put;refine ⟨h.led,gB h.up hj,?_⟩;show (if SetTable.has t.dummies j=true then _ else t.dummies) = #[];rw[h.nod,NX];rfl
theorem TabOk.layNew (h:TabOk w t) (es:Yw) (hh:Int) (x:Yu):TabOk w (layNew t es hh x).2.1:=by
 unfold PySem.layNew;split
 .rename_i j b e;exact (h.put (Rf h.up h.nod e).2).orStandIn _
 .exact h.standIn _
def TabOk.relaid (h:TabOk w t) (e:t.relaid hs wanted=some (t',order)):TabOk w t':=by
 unfold SetTable.relaid SetTable.laid at e;cases q:SetTable.layClean (SetTable.sizeAbove wanted-1) hs with
 |none=>rw[q]at e;cases e
 |some owner=>
  rw[q]at e;simp only[Option.bind_eq_bind,Option.bind_some,Option.pure_def,Option.some.injEq,Prod.mk.injEq]at e;obtain ⟨rfl,_⟩:=e;refine ⟨h.led,?_,rfl⟩;unfold Up;dsimp only;rw[List.pairwise_map,List.pairwise_filterMap];refine List.pairwise_lt_range.imp λ{a b} hab x hx y hy=>?_;cases o1:owner.getD a none with
  |none=>rw[o1]at hx;cases hx
  |some u=>
   cases o2:owner.getD b none with
   |none=>rw[o2]at hy;cases hy
   |some v=>
    rw[o1]at hx;rw[o2]at hy;cases hx;cases hy;exact hab
theorem TabOk.relayAll (h:TabOk w t) (es:Yw) (wanted:Nat):TabOk w (relayAll t es wanted).2.1:=by
 unfold PySem.relayAll;split
 .rename_i t' order e;dsimp only;split
  .exact h.relaid e
  .exact h.standIn _
 .exact h.standIn _
theorem TabOk.plain (h:TabOk w t) (b:Bool):TabOk w { t with plain:=b }:=⟨h.led,h.up,h.nod⟩
def TabOk.fresh:TabOk w (SetTable.fresh 0 0 (!w.params.followText "set-order")):=⟨rfl,List.Pairwise.nil,rfl⟩
open Sem (wp)
set_option genInjectivity true in
inductive F2 {α β:Type} (R:α->β->Prop):List α->List β->Prop
 |nil:F2 R [] []
 |cons {x y xs ys}:R x y->F2 R xs ys->F2 R (x::xs) (y::ys)
section
variable {prog:Ym} {w:Yo} {K:Type} [DecidableEq K]
def Jr (knd:KeyKind prog w K) (e:Int × Value) (k:K):Prop:=(knd.is k e.2=true/\e.1=knd.hash k)/\e.2.scannable=true
structure SetK (knd:KeyKind prog w K) (o:Obj) (es:Yw) (ep:Nat) (t:SetTable) (ks:List K):Prop where
 ex:o.ExactSet
 data:o.data=.set es ep t
 tab:TabOk w t
 fits:t.fits es.size=true
 bound:es.size<scanBound
 ent:∃ ks',ks'.Perm ks/\F2 (Jr knd) es.toList ks'
noncomputable def ins (ks:List K) (k:K):List K:=if k∈ks then ks else ks++[k]
variable {knd:KeyKind prog w K} {o:Obj} {es:Yw} {ep:Nat} {t:SetTable} {ks:List K}
theorem OR {α β:Type} {R:α->β->Prop}:∀ {xs:List α} {ys:List β},F2 R xs ys->xs.length=ys.length
 |_,_,.nil=>rfl
 |_,_,.cons _ h=>by simp[OR h]
theorem Lq {α β:Type} {R:α->β->Prop}:∀ {xs:List α} {ys:List β},F2 R xs ys -> ∀ x∈xs,∃ y∈ys,R x y
 |_,_,.nil,x,hx=>by cases hx
 |_,_,.cons h r,x,hx=>by
  rcases AO.mp hx with z|z
  .subst z;exact ⟨_,Ah,h⟩
  .obtain ⟨y,hy,q⟩:=Lq r x z;exact ⟨y,BS _ hy,q⟩
theorem Mw {α β:Type} {R:α->β->Prop}:∀ {xs:List α} {ys:List β},F2 R xs ys -> ∀ y∈ys,∃ x∈xs,R x y
 |_,_,.nil,x,hx=>by cases hx
 |_,_,.cons h r,x,hx=>by
  rcases AO.mp hx with z|z
  .subst z;exact ⟨_,Ah,h⟩
  .obtain ⟨y,hy,q⟩:=Mw r x z;exact ⟨y,BS _ hy,q⟩
theorem Mh {α β:Type} {R:α->β->Prop}:∀ {xs:List α} {ys:List β} {us:List α} {vs:List β},F2 R xs ys->F2 R us vs->F2 R (xs++us) (ys++vs)
 |_,_,_,_,.nil,h=>h
 |_,_,_,_,.cons h r,q=> .cons h (Mh r q)
def QN {α β:Type} {R:α->β->Prop} {xs xs':List α} (p:xs'.Perm xs):∀ {ys:List β},F2 R xs ys -> ∃ ys',ys'.Perm ys/\F2 R xs' ys':=by
 have p':=p.symm;clear p;induction p' with
 |nil=>intro ys h;exact ⟨ys,.refl _,h⟩
 |cons x _ ih=>
  intro ys h;cases h with
  |cons h r=>
   obtain ⟨ys',q1,q2⟩:=ih r;exact ⟨_,q1.cons _,.cons h q2⟩
 |swap x y l=>
  intro ys h;cases h with
  |cons h r=>
   cases r with
   |cons h2 r=>
    exact ⟨_,List.Perm.swap _ _ _,.cons h2 (.cons h r)⟩
 |trans _ _ ih1 ih2=>
  intro ys h;obtain ⟨ys',q1,q2⟩:=ih1 h;obtain ⟨ys'',r1,r2⟩:=ih2 q2;exact ⟨ys'',r1.trans q1,r2⟩
def SetK.size (h:SetK knd o es ep t ks):es.size=ks.length:=by
 obtain ⟨ks',p,f⟩:=h.ent;rw[<-p.length_eq,<-OR f,Bn]
def SetK.elems (h:SetK knd o es ep t ks):ElemsOf knd es.toList:=λe he=>by
 obtain ⟨ks',p,f⟩:=h.ent;obtain ⟨k,_,q⟩:=Lq f e he;exact ⟨⟨k,q.1⟩,q.2⟩
def SetK.mem (h:SetK knd o es ep t ks) (k:K):k∈ks ↔ ∃ e∈es.toList,knd.is k e.2=true:=by
 obtain ⟨ks',p,f⟩:=h.ent;rw[<-p.mem_iff];constructor
 .intro hk;obtain ⟨e,he,q⟩:=Mw f k hk;exact ⟨e,he,q.1.1⟩
 .rintro ⟨e,he,q⟩;obtain ⟨k',hk',q'⟩:=Lq f e he;rw[knd.inj e.2 k k' q q'.1.1];exact hk'
variable {A:Yn} {E:Yc} {s:Yl} {a:Yt} {k:K} {x:Yu}
def SetK.typeIs (h:SetK knd o es ep t ks) (ho:s.heap.get? a=some o):s.TypeIs (.ref a) "set" := ⟨o,ho,h.ex.1⟩
def P7 {h:Heap} (ho:h.get? a=some o) (hd:o.data=.set es ep t) :
  (h.update a (Obj.putSet es' t')).get? a=some { o with data:=.set es' (ep+1) t' }:=by
 have:=Ej (Obj.putSet es' t') ho (by rw[putSet_of es' t' hd];rfl);rw[putSet_of es' t' hd]at this;exact this
def W6 {Q:Bool->Shared->Prop} (hkey:knd.is k x=true) (hsc:x.scannable=true) (ho:s.heap.get? a=some o) (hS:SetK knd o es ep t ks) (hroom:ks.length+1<scanBound)
  (h:∀ h' o' es' ep' t' b,Heap.SameBut a s.heap h'->h'.get? a=some o'->SetK knd o' es' ep' t' (ins ks k)->Q b { s with heap:=h' }) :
  wpAny (model prog w) A (setAddHashed a x (knd.hash k)) Q E s:=by
 have hd:=hS.data;have hf:=hS.fits;have hel:=hS.elems;have hb:=hS.bound;have hb1:es.size+1<scanBound:=by rw[hS.size];exact hroom
 unfold setAddHashed setAddHashedIn;refine C7 (AA (wpAny_setState_of ho hd hf ?_));dsimp only;rw[byScan_of hsc hb hel];simp only[↓reduceIte];unfold setAddByScan;refine AA ?_;refine AA (CA ?_);refine AA (wpAny_setScan_of hkey ho hd hf hel ?_);cases hr:List.findIdx? (λe=>knd.is k e.2) es.toList with
 |some j=>
  dsimp only;obtain ⟨hj,hpj,_⟩:=List.findIdx?_eq_some_iff_getElem.mp hr;have hSk:k∈ks:=(hS.mem k).mpr ⟨es.toList[j],Ab hj,hpj⟩;refine AE (AE ?_);have e:s={ s with heap:=s.heap }:=by cases s;rfl
  rw[e];refine h s.heap o es ep t _ (Heap.SameBut.refl a s.heap) ho ?_;unfold ins;rw[AB hSk];exact hS
 |none=>
  dsimp only;have hSk:k∉ks:=λhk=>by
   obtain ⟨e,he,hp⟩:=(hS.mem k).mp hk;have:=List.findIdx?_eq_none_iff.mp hr e he;rw[hp]at this;exact Bool.noConfusion this
  have hgw:∀ (b:Bool) {s₁:Shared} {Q':Unit->Shared->Prop},Q' () s₁->wpAny (model prog w) A (match b with|true=>rule "set.scan.the-table-gave-way" |false=>pure ()) Q' E s₁ :=
   λb s₁ Q' hq=>by cases b <;> first|exact AE hq|exact CA hq
  have hperm:=layNew_perm t es (knd.hash k) x;have hfits:=layNew_fits t es (knd.hash k) x;have htab:=hS.tab.layNew es (knd.hash k) x;generalize hL:layNew t es (knd.hash k) x=L at hperm hfits htab ⊢;obtain ⟨es1,t1,wasDummy,gave⟩:=L;dsimp only at hperm hfits htab ⊢;rw[Array.toList_push]at hperm;have hb1':es1.size<scanBound:=by rw[<-Bn,hperm.length_eq,AN,Bn];simpa using hb1
  obtain ⟨ks',p,f⟩:=hS.ent;have f1:F2 (Jr knd) (es.toList++[(knd.hash k,x)]) (ks'++[k]):=Mh f (.cons ⟨⟨hkey,rfl⟩,hsc⟩ .nil);obtain ⟨ks1,p1,f2⟩:=QN hperm f1;have pI:ks1.Perm (ins ks k):=by
   unfold ins;rw[AD hSk];exact p1.trans (p.append_right _)
  refine AA (hgw _ ?_)
  have tail:∀ t2:SetTable,TabOk w t2->t2.fits es1.size=true->wpAny (model prog w) A (do
    storeSet a es1 t2
    if (!wasDummy&&t2.tooFull)=true then do
      (match (relayAll t2 es1 (SetTable.grown es1.size)).2.2 with|true=>rule "set.scan.the-table-gave-way" |false=>pure ())
      storeSet a (relayAll t2 es1 (SetTable.grown es1.size)).1 (relayAll t2 es1 (SetTable.grown es1.size)).2.1;pure (some true)
     else pure (some true)) (λr s'=>wpAny (model prog w) A (match r with|some added=>pure added|none=>setAddHashedIn a x (knd.hash k) 99999) Q E s') E s:=by
   intro t2 T2 F2;refine AA (wpAny_storeSet_of ho hd ?_ (fits_of_scanBound hb1'));have g1:=P7 (es':=es1) (t':=t2) ho hd;have sb1:=ED s.heap a (Obj.putSet es1 t2);have S1:SetK knd { o with data:=.set es1 (ep+1) t2 } es1 (ep+1) t2 (ins ks k):=⟨hS.ex,rfl,T2,F2,hb1',ks1,pI,f2⟩;split
   .have hp:=relayAll_perm t2 es1 (SetTable.grown es1.size);have hfr:=relayAll_fits t2 es1 (SetTable.grown es1.size);have htr:=T2.relayAll es1 (SetTable.grown es1.size);generalize hRl:relayAll t2 es1 (SetTable.grown es1.size)=Rl at hp hfr htr ⊢;obtain ⟨es2,t3,gave2⟩:=Rl;dsimp only at hp hfr htr ⊢;have hsz:es2.size=es1.size:=by rw[<-Bn,hp.length_eq,Bn]
    have hb2:es2.size<scanBound:=by rw[hsz];exact hb1'
    obtain ⟨ks2,p2,f3⟩:=QN hp f2;refine AA (hgw _ ?_);refine AA (wpAny_storeSet_of g1 rfl ?_ (fits_of_scanBound hb2));have g2:=P7 (es':=es2) (t':=t3) g1 rfl;exact AE (AE (h _ _ _ _ _ _ (sb1.trans (ED _ a _)) g2 ⟨hS.ex,rfl,htr,hfr,hb2,ks2,p2.trans pI,f3⟩))
   .exact AE (AE (h _ _ _ _ _ _ sb1 g1 S1))
  split
  .refine AA ?_;rw[hashByValue_scannable 8 hsc];refine AE ?_;refine tail _ ?_ ?_
   .split
    .exact htab
    .exact htab.plain _
   .split
    .exact hfits
    .exact SetTable.fits_plain_off hfits
  .refine AA (AE ?_);simp only[↓reduceIte];exact tail _ htab hfits
def Q3 (hkey:knd.is k x=true) (hsc:x.scannable=true) (ho:s.heap.get? a=some o) (hS:SetK knd o es ep t ks) (hroom:ks.length+1<scanBound)
  (h:∀ h' o' es' ep' t',Heap.SameBut a s.heap h'->h'.get? a=some o'->SetK knd o' es' ep' t' (ins ks k)->Q .none { s with heap:=h',toks:=s.toks+1 }) :
  wpAny (model prog w) A (call (.builtin "set.add") [.ref a,x]) Q E s:=by
 refine CO F.slot_set_add (hS.typeIs ho) F.entry_set_add ?_ (F.args_set_add_2 _ _);unfold Builtin.«set.add» Builtin.Frozenset.oneOther;simp only[List.isEmpty_nil,bind_assoc];unfold Builtin.Frozenset.addrOf setAdd;refine AA (AE ?_);try dsimp only
 refine AA (AE ?_);try dsimp only
 refine AA ?_;refine C7 ?_;refine AA (knd.pyHash hkey ?_);refine W6 (s:={ s with toks:=s.toks+1 }) hkey hsc ho hS hroom λh' o' es' ep' t' b hsb ho' hS'=>?_;show wpAny _ _ (ret Value.none) _ _ _;exact AE ⟨_,rfl,h h' o' es' ep' t' hsb ho' hS'⟩
noncomputable def FK (w:World):Obj:={ cls:=.type "set", dict:=none,data:=.set #[] 0 (.fresh 0 0 (!w.params.followText "set-order")) }
def SetK.fresh:SetK knd (FK w) #[] 0 (.fresh 0 0 (!w.params.followText "set-order")) []:=⟨⟨rfl,rfl,rfl⟩,rfl,.fresh,by rfl,by decide,[],.refl _,.nil⟩
def gD (h:Q (.ref s.heap.objs.size) { s with heap:=s.heap.push (FK w) }) :
  wpAny (model prog w) A (newSet (.type "set")) Q E s:=by
 unfold newSet setsByText;refine AA (AA (wpAny_askSetting (AE ?_)));dsimp only;simp only[newObj];exact AA (wpAny_alloc (AE h))
end
open PySem.Spec PyProof.Rows
open Sem (wp)
def Pd:Manifest.owners.lookup (String.ofList ['r','o','t','a','r','e','t','i','_','t','e','s'].reverse)=some Manifest.sig_set_iterator:=by kernel_rfl
def Eb:Slot "set_iterator" "__next__" "set_iterator.__next__" := .of (owner := "set_iterator") (n := "__next__") (by rw[typeLookup_type,builtinLookup_eq_fast];kernel_rfl) (by decide+kernel) (by decide+kernel) (by decide+kernel) (by first|exact .inl (by decide+kernel)|exact .inr (by decide+kernel)) (by rw[isSubtype_type];kernel_rfl)
def OU:Slot "set_iterator" "__iter__" "set_iterator.__iter__" := .of (owner := "set_iterator") (n := "__iter__") (by rw[typeLookup_type,builtinLookup_eq_fast];kernel_rfl) (by decide+kernel) (by decide+kernel) (by decide+kernel) (by first|exact .inl (by decide+kernel)|exact .inr (by decide+kernel)) (by rw[isSubtype_type];kernel_rfl)
def JT (a:Value):argsOk "set_iterator.__next__" ⟨[a],[]⟩:=by
 unfold argsOk;rw[signature?_of (id := "set_iterator.__next__") (n:=['_','_','t','x','e','n','_','_']) (o:=['r','o','t','a','r','e','t','i','_','t','e','s']) (by kernel_rfl) Pd];kernel_rfl
def US (a:Value):argsOk "set_iterator.__iter__" ⟨[a],[]⟩:=by
 unfold argsOk;rw[signature?_of (id := "set_iterator.__iter__") (n:=['_','_','r','e','t','i','_','_']) (o:=['r','o','t','a','r','e','t','i','_','t','e','s']) (by kernel_rfl) Pd];kernel_rfl
def JC:entryFor table "set_iterator.__next__" = some Builtin.«set_iterator.__next__»:=entryFor_of_tree (by kernel_rfl)
def Q6:entryFor table "set_iterator.__iter__" = some Builtin.«dict_keyiterator.__iter__» :=
 entryFor_alias (id' := "dict_keyiterator.__iter__") (by kernel_rfl) (by first|rfl|decide+kernel|(unfold String.splitOn;simp +decide [String.splitOnAux])) (by decide+kernel) (by kernel_rfl)
def Ri:entryFor table "set.__iter__" = some Builtin.«frozenset.__iter__» :=
 entryFor_alias (id' := "frozenset.__iter__") (by kernel_rfl) rfl (by decide+kernel) (by kernel_rfl)
noncomputable def Bf (f:Value) (i:Nat) (a:Addr) (n ep:Nat):Obj:={ cls:=.type "set_iterator", data:=.fields #[f,rawInt i,.ref a,rawInt n,rawInt ep] }
theorem Lz {α:Type}:∀ {l:List α} {i:Nat} (h:i<l.length),(l[i]::l.eraseIdx i).Perm l
 |[],i,h=>by simp at h
 |x::l,0,h=>by simp
 |x::l,i+1,h=>by
  have:=Lz (l:=l) (i:=i) (by simpa using h);rw[List.getElem_cons_succ,List.eraseIdx_cons_succ];exact (List.Perm.swap _ _ _).trans (this.cons x)
def Oo {α:Type} {l:List α} (h:i<l.length) (e:n+1=l.length):n=(l.eraseIdx i).length:=by
 rw[List.length_eraseIdx,AB h];omega
theorem Pp {α:Type} (next:Nat->Nat):∀ (fuel k:Nat) (left:List α) (out:Array α),fuel=left.length->(pickOrder.go next fuel k left out).toList.Perm (out.toList++left)
 |0,k,left,out,h=>by
  have:left=[]:=HI.mp h.symm;subst this;unfold pickOrder.go;simp
 |fuel+1,k,left,out,h=>by
  unfold pickOrder.go;have hl:0<left.length:=by omega
  have hm:next k % left.length<left.length:=Nat.mod_lt _ hl
  rw[AL hm];dsimp only;refine (Pp next fuel (k+1) _ _ (Oo hm h)).trans ?_;rw[Array.toList_push,DJ];exact (Lz hm).append_left _
def NK {α:Type} (next:Nat->Nat) (xs:Array α):(pickOrder next xs).toList.Perm xs.toList:=by
 unfold pickOrder;simpa using Pp next xs.size 0 xs.toList #[] (by simp)
section
variable {prog:Ym} {w:Yo} {A:Yn} {E:Yc} {s:Yl}
def Ws (h0:n≠0) (h:∀ r d,r<n->Q r { s with drawn:=d }):wpAny (model prog w) A (choose src n) Q E s :=
 λΓ p hΓ=>⟨h0,h _ _ (Nat.mod_lt _ (by omega))⟩
theorem Og {α:Type}:∀ (n:Nat) (xs:List α) {s:Yl} {Q:List α->Shared->Prop},n=xs.length->(∀ ys d,ys.Perm xs->Q ys { s with drawn:=d })->wpAny (model prog w) A (drawOrder n xs) Q E s
 |0,xs,s,Q,h,q=>by
  have:xs=[]:=HI.mp h.symm;subst this;have e:s={ s with drawn:=s.drawn }:=by cases s;rfl
  rw[e];exact AE (q [] s.drawn (.refl _))
 |n+1,[],s,Q,h,q=>by cases h
 |n+1,x::xs,s,Q,h,q=>by
  unfold drawOrder;refine AA (Ws (by simp) λr d hr=>?_);rw[AL hr];dsimp only;refine AA (Og n _ (Oo hr h) λys d' hp=>AE ?_);exact q _ d' ((hp.cons _).trans (Lz hr))
variable {K:Type} [DecidableEq K] {knd:KeyKind prog w K} {o:Obj} {es:Yw} {ep:Nat} {t:SetTable} {ks:List K} {a I:Yt}
def GY (h:s.heap.get? I=some (Bf f i a n ep)):s.TypeIs (.ref I) "set_iterator" := ⟨_,h,rfl⟩
def OZ (hI:s.heap.get? I=some (Bf f i a n ep)) (h:Q (.ref I) s):wpAny (model prog w) A (pyIter (.ref I)) Q E s:=by
 refine wpAny_pyIter_slot (GY hI) OU (CO OU (GY hI) Q6 ?_ (US _));show wpAny _ _ (ret (.ref I)) _ _ s;exact AE ⟨_,rfl, "set_iterator", _,GY hI,Eb.lookup,h⟩
structure Nexts (prog:Ym) (w:Yo) (o:Obj) (a:Yt) (ep:Nat) (n:Nat) (at_:Nat->Nat) (ord:Yf):Prop where
 len:ord.length=n
 nx:∀ (A:Yn) (E:Yc) (i:Nat) (s:Yl) (Q:Option (Value × Nat)->Shared->Prop),i<=n->s.heap.get? a=some o->Q ((ord[i]?).map λx=>(x,at_ (i+1))) s->wpAny (model prog w) A (setNext a (at_ i) i ep) Q E s
def Rx (N:Nexts prog w o a ep ks.length at_ ord) (hS:SetK knd o es ep t ks) (hI:s.heap.get? I=some (Bf (rawInt (at_ i)) i a ks.length ep)) (ho:s.heap.get? a=some o)
  (hx:ord[i]?=some x) (hQ:∀ h',h'.get? I=some (Bf (rawInt (at_ (i+1))) (i+1) a ks.length ep)->Heap.SameBut I s.heap h'->Q (some x) { s with heap:=h' }):wpAny (model prog w) A (pyNext (.ref I)) Q E s:=by
 have hT:=GY hI;have hi:i<ks.length:=by have:=(AI.mp hx).1;rw[N.len]at this;exact this
 unfold pyNext;refine AA (wpAny_attempt (Dq (name:=Str.ofString "__next__") hT Eb (CO Eb hT JC ?_ (JT _))));unfold Builtin.«set_iterator.__next__» slotArgs;simp only[List.isEmpty_nil,Bool.not_true,Dl,↓reduceIte,D0,bne_self_eq_false,pure_bind,bind_assoc];refine AA (wpAny_fieldsOf hI rfl ?_);dsimp only[rawInt];refine AA (wpAny_setEntries_of ho hS.data hS.fits ?_);rw[AD (by rw[hS.size];simp)];refine AA (N.nx _ _ i s _ (by omega) ho ?_);rw[hx];dsimp only[Option.map];refine AA (wpAny_setField hI rfl (by simp) ?_);have e1:=Ej (Obj.mapFields λvs=>vs.set! 0 (rawInt (at_ (i+1)))) hI (Obj.isFreed_of_fields (Ey rfl _));refine AA (wpAny_setField e1 (Ey rfl _) (by simp) ?_);have e2:=Ej (Obj.mapFields λvs=>vs.set! 1 (rawInt ((i:Int)+1))) e1 (Obj.isFreed_of_fields (Ey (Ey rfl _) _));refine AE ⟨x,rfl,AE (hQ _ ?_ ((ED ..).trans (ED ..)))⟩;refine e2.trans ?_;simp[Obj.mapFields,Bf,rawInt]
end
open Sem (wp)
section
variable {prog:Ym} {w:Yo} {A:Yn} {E:Yc} {s:Yl}
variable {K:Type} [DecidableEq K] {knd:KeyKind prog w K} {o:Obj} {es:Yw} {ep:Nat} {t:SetTable} {ks:List K} {a I:Yt}
def Tr (hh:A.handled=none) (N:Nexts prog w o a ep ks.length at_ ord) (hS:SetK knd o es ep t ks) (hI:s.heap.get? I=some (Bf (rawInt (at_ ks.length)) ks.length a ks.length ep)) (ho:s.heap.get? a=some o)
  (hQ:∀ h',Heap.ExtBut I s.heap h'->Q none { s with heap:=h' }):wpAny (model prog w) A (pyNext (.ref I)) Q E s:=by
 have hT:=GY hI;unfold pyNext;refine AA (wpAny_attempt (Dq (name:=Str.ofString "__next__") hT Eb (CO Eb hT JC ?_ (JT _))));unfold Builtin.«set_iterator.__next__» slotArgs;simp only[List.isEmpty_nil,Bool.not_true,Dl,↓reduceIte,D0,bne_self_eq_false,pure_bind,bind_assoc];refine AA (wpAny_fieldsOf hI rfl ?_);dsimp only[rawInt];refine AA (wpAny_setEntries_of ho hS.data hS.fits ?_);rw[AD (by rw[hS.size];simp)];refine AA (N.nx _ _ ks.length s _ (AG _) ho ?_);rw[Ec (by rw[N.len];exact AG _)];dsimp only[Option.map];refine AA (wpAny_setField hI rfl (by simp) ?_);simp only[newExc,newTuple,bind_assoc,pure_bind];refine AA (CI (AA (m:=firstArgMember _ _) (wpAny_of_eq (a:=Value.none) (by first|rfl|(simp only[firstArgMember];rfl)) (AA (CI ?_ (by size_fits))))) (by size_fits));simp only[raiseNew];refine AA (wpAny_handled ?_);rw[show A.in1.handled=none from hh];refine AA (AE (wpAny_throw ?_));refine AA (wpAny_isInstance (T := "StopIteration") (b:=true) ⟨_,Aj _ rfl,rfl⟩ isSubtype_stop (AE ?_));exact hQ _ (((ED ..).extBut.push _).push _)
def W7 (hh:A.handled=none) (hne:a≠I) (N:Nexts prog w o a ep ks.length at_ ord) (hS:SetK knd o es ep t ks) :
  Walks prog w A I [I,a] [I] ks.length (λi v=>ord[i]?=some v) (λi h=>h.get? I=some (Bf (rawInt (at_ i)) i a ks.length ep)/\h.get? a=some o) where
 sub:=λb hb=>by simp at hb;simp[hb]
 frame:=λ_ _ _ st hk=>⟨hk I (by simp) _ st.1,hk a (by simp) _ st.2⟩;item:=λi s Q E hi st hQ=>by
  have hx:ord[i]?=some (ord[i]'(by rw[N.len];exact hi)):=AL _;refine Rx N hS st.1 st.2 hx λh' hI' hs'=>?_;exact hQ _ h' s.toks hx ⟨hI',hs'.extBut a o hne st.2⟩ λb u hb ee=>hs'.extBut b u (λh=>hb (by simp[h])) ee
 done:=λs Q E st hQ=>Tr hh N hS st.1 st.2 λh' he'=>hQ h' s.toks λb u hb ee=>he' b u (λh=>hb (by simp[h])) ee;self:=λ_ _ _ _ st hQ=>OZ st.1 hQ
def cW {pl:Yj} (hS:SetK knd o es ep t ks) (hl:pl.length=ks.length) (hI:s.heap.get? I=some (Bf (.ref T) i a ks.length ep)) (ho:s.heap.get? a=some o)
  (hT:IsTup s.heap T (pl.map λ(k:Nat)=>rawInt k).toArray)
  (hx:(pl[i]?).bind (λk=>(es[k]?).map (·.2))=some x) (hQ:∀ h',h'.get? I=some (Bf (.ref T) (i+1) a ks.length ep)->Heap.SameBut I s.heap h'->Q (some x) { s with heap:=h' }):wpAny (model prog w) A (pyNext (.ref I)) Q E s:=by
 have hTy:=GY hI;obtain ⟨oT,hoT,hcT,nT,hdT⟩:=id hT;cases hp:pl[i]? with
 |none=>rw[hp]at hx;cases hx
 |some k=>
  rw[hp]at hx;cases he:es[k]? with
  |none=>simp only[Option.bind_some]at hx;rw[he]at hx;cases hx
  |some e=>
   simp only[Option.bind_some]at hx;rw[he]at hx;cases hx;unfold pyNext;refine AA (wpAny_attempt (Dq (name:=Str.ofString "__next__") hTy Eb (CO Eb hTy JC ?_ (JT _))));unfold Builtin.«set_iterator.__next__» slotArgs;simp only[List.isEmpty_nil,Bool.not_true,Dl,↓reduceIte,D0,bne_self_eq_false,pure_bind,bind_assoc];refine AA (wpAny_fieldsOf hI rfl ?_);dsimp only[rawInt];refine AA (wpAny_setEntries_of ho hS.data hS.fits ?_);rw[AD (by rw[hS.size];simp)];refine AA (EE hoT hdT ?_);dsimp only;have e5:(List.map (λ(k:Nat)=>rawInt k) pl).toArray[(i:Int).toNat]?=some (rawInt k):=by simp[hp]
   rw[e5];dsimp only[rawInt];unfold setNextDrawn;simp only[bind_assoc];refine AA (wpAny_setState_of ho hS.data hS.fits ?_);dsimp only;rw[AD (by simp)];have e6:es[(k:Int).toNat]?=some e:=by simpa using he
   rw[e6];obtain ⟨e1,e2⟩:=e;dsimp only;simp only[pure_bind];refine AA (wpAny_setField hI rfl (by simp) ?_);refine AE ⟨e2,rfl,AE (hQ _ ?_ (ED ..))⟩;refine (Ej _ hI (Obj.isFreed_of_fields (Ey rfl _))).trans ?_;simp[Obj.mapFields,Bf,rawInt]
def aI {pl:Yj} (hh:A.handled=none) (hS:SetK knd o es ep t ks) (hl:pl.length=ks.length) (hI:s.heap.get? I=some (Bf (.ref T) ks.length a ks.length ep)) (ho:s.heap.get? a=some o)
  (hT:IsTup s.heap T (pl.map λ(k:Nat)=>rawInt k).toArray) (hQ:∀ h',Heap.ExtBut I s.heap h'->Q none { s with heap:=h' }):wpAny (model prog w) A (pyNext (.ref I)) Q E s:=by
 have hTy:=GY hI;obtain ⟨oT,hoT,hcT,nT,hdT⟩:=id hT;unfold pyNext;refine AA (wpAny_attempt (Dq (name:=Str.ofString "__next__") hTy Eb (CO Eb hTy JC ?_ (JT _))));unfold Builtin.«set_iterator.__next__» slotArgs;simp only[List.isEmpty_nil,Bool.not_true,Dl,↓reduceIte,D0,bne_self_eq_false,pure_bind,bind_assoc];refine AA (wpAny_fieldsOf hI rfl ?_);dsimp only[rawInt];refine AA (wpAny_setEntries_of ho hS.data hS.fits ?_);rw[AD (by rw[hS.size];simp)];refine AA (EE hoT hdT ?_);dsimp only;have e5:(List.map (λ(k:Nat)=>rawInt k) pl).toArray[(ks.length:Int).toNat]?=none:=by simp[hl]
 rw[e5];dsimp only[rawInt];refine AA (wpAny_setField hI rfl (by simp) ?_);have e1:=Ej (Obj.mapFields λvs=>vs.set! 0 (rawInt 0)) hI (Obj.isFreed_of_fields (Ey rfl _));refine AA (wpAny_setField e1 (Ey rfl _) (by simp) ?_);simp only[newExc,newTuple,bind_assoc,pure_bind];refine AA (CI (AA (m:=firstArgMember _ _) (wpAny_of_eq (a:=Value.none) (by first|rfl|(simp only[firstArgMember];rfl)) (AA (CI ?_ (by size_fits))))) (by size_fits));simp only[raiseNew];refine AA (wpAny_handled ?_);rw[show A.in1.handled=none from hh];refine AA (AE (wpAny_throw ?_));refine AA (wpAny_isInstance (T := "StopIteration") (b:=true) ⟨_,Aj _ rfl,rfl⟩ isSubtype_stop (AE ?_));exact hQ _ ((((ED ..).trans (ED ..)).extBut.push _).push _)
def YM {pl:Yj} (hh:A.handled=none) (hne:a≠I) (hneT:T≠I) (hS:SetK knd o es ep t ks) (hl:pl.length=ks.length) (hb:∀ k∈pl,k<es.size) :
  Walks prog w A I [I,a,T] [I] ks.length (λi v=>(pl[i]?).bind (λk=>(es[k]?).map (·.2))=some v) (λi h=>h.get? I=some (Bf (.ref T) i a ks.length ep)/\h.get? a=some o/\IsTup h T (pl.map λ(k:Nat)=>rawInt k).toArray) where
 sub:=λb hb=>by simp at hb;simp[hb]
 frame:=λ_ _ _ st hk=>⟨hk I (by simp) _ st.1,hk a (by simp) _ st.2.1,let ⟨oT,ho,r⟩:=st.2.2;⟨oT,hk T (by simp) oT ho,r⟩⟩;item:=λi s Q E hi st hQ=>by
  have hi':i<pl.length:=by rw[hl];exact hi
  have hk:pl[i]<es.size:=hb _ (Ab hi');have hx:(pl[i]?).bind (λk=>(es[k]?).map (·.2))=some (es[pl[i]].2):=by
   rw[AL hi'];simp[hk]
  refine cW hS hl st.1 st.2.1 st.2.2 hx λh' hI' hs'=>?_;exact hQ _ h' s.toks hx ⟨hI',hs'.extBut a o hne st.2.1,st.2.2.extBut hs'.extBut hneT⟩ λb u hb ee=>hs'.extBut b u (λh=>hb (by simp[h])) ee
 done:=λs Q E st hQ=>aI hh hS hl st.1 st.2.1 st.2.2 λh' he'=>hQ h' s.toks λb u hb ee=>he' b u (λh=>hb (by simp[h])) ee;self:=λ_ _ _ _ st hQ=>OZ st.1 hQ
end
open Sem (wp)
def X8 {prog:Ym} {w:Yo} {A:Yn} {I:Yt} {fp wr:Yg} {n:Nat} {P P':Nat->Value->Prop} {St:Nat->Heap->Prop} (W:Walks prog w A I fp wr n P St) (h:∀ i v,P i v->P' i v):Walks prog w A I fp wr n P' St where
 sub:=W.sub;frame:=W.frame;item:=λi s Q E hi st hQ=>W.item i s Q E hi st λv h' tk hP=>hQ v h' tk (h i v hP);done:=W.done;self:=W.self
section
variable {prog:Ym} {w:Yo} {A:Yn} {E:Yc} {s:Yl}
variable {K:Type} [DecidableEq K] {knd:KeyKind prog w K} {o:Obj} {es:Yw} {ep:Nat} {t:SetTable} {ks:List K} {a I:Yt}
def JS (h:Q (w.params.followText "set-order") s):wpAny (model prog w) A setsByText Q E s:=by
 unfold setsByText;exact AA (wpAny_askSetting (AE h))
def fH (hS:SetK knd o es ep t ks) (hT:w.params.followText "set-order" = true):Nexts prog w o a ep ks.length (λ_=>0) ((pickOrder (w.params.setOrder a ep) es).toList.map (·.2)) where
 len:=by rw[AF,(NK _ es).length_eq,Bn,hS.size]
 nx:=λA E i s Q hi ho hQ=>by
  unfold setNext;refine AA (wpAny_setState_of ho hS.data hS.fits ?_);dsimp only;refine AA (JS ?_);rw[hT,AB rfl,AD (by simp)];refine AA ?_;unfold setWalk;refine AA (wpAny_setState_of ho hS.data hS.fits ?_);dsimp only;refine AA (JS ?_);rw[hT,AB rfl];refine AA (wpAny_askSetting (AE ?_));refine AE ?_;have e:(Option.map (λ(e:Int × Value)=>(e.2,0)) (pickOrder (w.params.setOrder a ep) es)[i]?)=Option.map (λx=>(x,0)) ((pickOrder (w.params.setOrder a ep) es).toList.map (·.2))[i]?:=by
   rw[Af,CC];cases (pickOrder (w.params.setOrder a ep) es)[i]? <;> rfl
  show Q (Option.map (λ(e:Int × Value)=>(e.2,0)) (pickOrder (w.params.setOrder a ep) es)[i]?) s;rw[e];exact hQ
noncomputable def Kc (t:SetTable):Nat->Nat
 |0=>0
 |i+1=>t.place.getD i 0+1
def Sq (h:Up t.place) (hi:i<=t.place.size):SetTable.below t.place (Kc t i)=i:=by
 cases i with
 |zero=>exact Ur h
 |succ i=>
  show SetTable.below t.place (t.place.getD i 0+1)=i+1;have hl:i<t.place.size:=by omega
  have e:t.place.getD i 0=t.place[i]:=by simp[Array.getD,hl]
  rw[e];exact TK h hl
def aP (hS:SetK knd o es ep t ks):t.place.size=es.size:=by
 have:=hS.fits;simp only[SetTable.fits,Am,beq_iff_eq]at this;exact this.1
def WD (hS:SetK knd o es ep t ks) (hT:w.params.followText "set-order" = false) (hd:(!t.plain&&decide (es.size>1))=false):Nexts prog w o a ep ks.length (Kc t) (es.toList.map (·.2)) where
 len:=by rw[AF,Bn,hS.size]
 nx:=λA E i s Q hi ho hQ=>by
  have hz:=aP hS;unfold setNext;refine AA (wpAny_setState_of ho hS.data hS.fits ?_);dsimp only;refine AA (JS ?_);rw[hT,AD (by decide)];show wpAny _ _ (if (!t.plain&&decide (es.size>1))=true then _ else _) _ _ _;rw[AD (by rw[hd];decide)];have hl:t.led=true:=by rw[hS.tab.led,hT];rfl
  refine AA ?_;show wpAny _ _ (if (!t.led && !es.isEmpty)=true then unsupported "set:maker-not-led" else pure ()) _ _ _;rw[AD (by rw[hl];simp)];refine AE ?_;rw[Sq hS.tab.up (by rw[hz,hS.size];exact hi)];refine AE ?_;rw[Af,CC]at hQ;by_cases q:i<es.size
  .have q2:i<t.place.size:=by rw[hz];exact q
   rw[EF q,EF q2];rw[EF q]at hQ;have e:Kc t (i+1)=t.place[i]+1:=by
    show t.place.getD i 0+1=_;simp[Array.getD,q2]
   simp only[Option.map]at hQ;rw[e]at hQ;exact hQ
  .have:i=es.size:=by rw[hS.size]at q ⊢;omega
   rw[Array.getElem?_eq_none (by omega)]at hQ ⊢;exact hQ
def VI (ho:s.heap.get? a=some o) (hS:SetK knd o es ep t ks)
  (h:∀ (h':Heap) (d:Drawn) (I:Yt) (fp:Yg) (ord:Yf) (St:Nat->Heap->Prop),(∀ b u,s.heap.get? b=some u->h'.get? b=some u)->s.heap.objs.size<=I->(∀ b∈fp,b<h'.objs.size/\(b=a\/s.heap.objs.size<=b)) ->
   (∀ A:Around,A.handled=none->Walks prog w A I fp [I] ks.length (λi v=>ord[i]?=some v) St)->St 0 h'->ord.Perm (es.toList.map (·.2))->Q (.ref I) { s with heap:=h',drawn:=d }) :
  wpAny (model prog w) A (pyIter (.ref a)) Q E s:=by
 have hT:=hS.typeIs ho;have hal:a<s.heap.objs.size:=AH ho;refine wpAny_pyIter_slot hT F.slot_set_iter (CO F.slot_set_iter hT Ri ?_ (F.args_set_iter_1 _));unfold Builtin.«frozenset.__iter__» Builtin.Frozenset.slot0 slotArgs Builtin.Frozenset.addrOf Builtin.Frozenset.sizeOf;simp only[List.isEmpty_nil,Bool.not_true,Dl,↓reduceIte,D0,bne_self_eq_false,pure_bind,bind_assoc];refine AA (wpAny_setEntries_of ho hS.data hS.fits ?_);unfold setDrawn;simp only[bind_assoc];refine AA (wpAny_setState_of ho hS.data hS.fits ?_);dsimp only;refine AA (JS ?_);simp only[pure_bind];have hsz:=hS.size;have plain:∀ (at_:Nat->Nat) (ord:Yf),at_ 0=0->Nexts prog w o a ep ks.length at_ ord->ord.Perm (es.toList.map (·.2))->Q (.ref s.heap.objs.size) { s with heap:=s.heap.push (Bf (rawInt 0) 0 a ks.length ep) }:=by
  intro at_ ord h0 N hp;have e:s.heap.push (Bf (rawInt 0) 0 a ks.length ep)=s.heap.push (Bf (rawInt 0) 0 a ks.length ep):=rfl
  have:=h (s.heap.push (Bf (rawInt 0) 0 a ks.length ep)) s.drawn s.heap.objs.size [s.heap.objs.size,a] ord (λi h=>h.get? s.heap.objs.size=some (Bf (rawInt (at_ i)) i a ks.length ep)/\h.get? a=some o)
   (λb u e=>AJ _ e) (AG _) (λb hb=>by
    rw[Cg];rcases AO.mp hb with z|z
    .rw[z];exact ⟨E1 _,.inr (AG _)⟩
    .rw[BC.mp z];exact ⟨EH hal,.inl rfl⟩)
   (λA hh=>W7 hh (Ap hal) N hS) ⟨by rw[h0];exact Aj _ rfl,AJ _ ho⟩ hp
  exact this
 have mk:∀ (s1:Yl) (f:Yu) (hv:s1.heap.get? a=some o) {Q':Fin->Shared->Prop},Q' (.done (.ret (.ref s1.heap.objs.size))) { s1 with heap:=s1.heap.push (Bf f 0 a ks.length ep) }->wpAny (model prog w) A.in1 (do
   let e <- setEpoch a;let r <- newFields "set_iterator" [f,rawInt 0,Value.ref a,rawInt es.size,rawInt e];ret r) Q' E s1:=by
  intro s1 f hv Q' hq;refine AA (wpAny_setEpoch_of hv hS.data hS.fits ?_);unfold newFields;refine AA (CI (AE ?_));rw[hsz];exact hq
 have ty:∀ (s1:Shared) (f:Value),(∃ T' r,Shared.TypeIs { s1 with heap:=s1.heap.push (Bf f 0 a ks.length ep) } (.ref s1.heap.objs.size) T'/\typeLookup (Value.type T') (Str.ofString "__next__")=pure (some r)/\True):=λs1 f=>⟨"set_iterator", _,⟨_,Aj _ rfl,rfl⟩,Eb.lookup,trivial⟩;show wpAny _ _ (if (!w.params.followText "set-order" && (!t.plain&&decide (es.size>1)))=true then _ else _) _ _ _;by_cases hc:(!w.params.followText "set-order" && (!t.plain&&decide (es.size>1)))=true
 .rw[AB hc];refine AA (Og _ _ (by simp) λpl d hp=>?_);refine AA ?_;unfold newTuple;have hpl:pl.length=ks.length:=by rw[hp.length_eq,List.length_range,hsz]
  refine CI ?_ (by
   show (List.map (λ(i:Nat)=>rawInt i) pl).toArray.size<=sizeLine;rw[AW,AF,hpl,<-hsz];exact fits_of_scanBound hS.bound)
  generalize hH:s.heap.push { cls:=.type "tuple", data:=.seq (List.map (λ(i:Nat)=>rawInt i) pl).toArray }=H;have kH:∀ b u,s.heap.get? b=some u->H.get? b=some u:=λb u e=>by rw[<-hH];exact AJ _ e
  have hT1:IsTup H s.heap.objs.size (pl.map λ(k:Nat)=>rawInt k).toArray:=⟨_,by rw[<-hH];exact Aj _ rfl,rfl,0,rfl⟩;have szH:H.objs.size=s.heap.objs.size+1:=by rw[<-hH];exact Cg ..
  have szlt:s.heap.objs.size<H.objs.size:=by rw[szH];exact E1 _
  have alt:a<H.objs.size:=Nat.lt_trans hal szlt;refine mk { s with heap:=H,drawn:=d } (.ref s.heap.objs.size) (kH _ _ ho) ?_;obtain ⟨T',r,e1,e2,_⟩:=ty { s with heap:=H,drawn:=d } (.ref s.heap.objs.size);refine ⟨_,rfl,T',r,e1,e2,?_⟩;have kH2:∀ b u,s.heap.get? b=some u->(H.push (Bf (.ref s.heap.objs.size) 0 a ks.length ep)).get? b=some u:=λb u e=>AJ _ (kH b u e);refine h _ d H.objs.size [H.objs.size,a,s.heap.objs.size] (pl.map λk=>((es[k]?).map (·.2)).getD .none) (λi h=>h.get? H.objs.size=some (Bf (.ref s.heap.objs.size) i a ks.length ep)/\h.get? a=some o/\IsTup h s.heap.objs.size (pl.map λ(k:Nat)=>rawInt k).toArray) kH2 (by rw[szH];exact Nat.le_succ _) (λb hb=>?_) (λA hh=>?_) ⟨Aj _ rfl,kH2 a o ho,?_⟩ ?_
  .rw[Cg];simp only[AO,Cv,or_false]at hb;rcases hb with z|z|z
   .rw[z];exact ⟨E1 _,.inr (Dd szlt)⟩
   .rw[z];exact ⟨EH alt,.inl rfl⟩
   .rw[z];exact ⟨EH szlt,.inr (AG _)⟩
  .have hb:∀ k∈pl,k<es.size:=λk hk=>by have:=hp.mem_iff.mp hk;simpa using this
   refine X8 (YM hh (a:=a) (I:=H.objs.size) (T:=s.heap.objs.size) (Ap alt) (Ap szlt) hS hpl hb) λi v hv=>?_;rw[Af];cases q:pl[i]? with
   |none=>rw[q]at hv;cases hv
   |some k=>
    rw[q]at hv;simp only[Option.bind_some]at hv;rw[Option.map_some,hv];rfl
  .exact hT1.push _
  .have e:es.toList.map (·.2)=(List.range es.size).map λk=>((es[k]?).map (·.2)).getD .none:=by
    apply List.ext_getElem?;intro i;rw[Af,Af,CC];by_cases q:i<es.size
    .rw[List.getElem?_range q,EF q];simp[q]
    .rw[Array.getElem?_eq_none (by omega),Ec (by simp;omega)];rfl
   rw[e];exact hp.map _
 .rw[AD hc];refine mk s (rawInt 0) ho ?_;obtain ⟨T',r,e1,e2,_⟩:=ty s (rawInt 0);refine ⟨_,rfl,T',r,e1,e2,?_⟩;cases hX:w.params.followText "set-order" with
  |true=>exact plain _ _ rfl (fH hS hX) ((NK _ es).map _)
  |false=>
   rw[hX]at hc;exact plain _ _ rfl (WD hS hX (by simpa using hc)) (.refl _)
end
open Sem (wp)
section
variable {prog:Ym} {w:Yo} {A:Yn} {E:Yc} {s:Yl}
variable {K:Type} [DecidableEq K] {knd:KeyKind prog w K} {o:Obj} {es:Yw} {ep:Nat} {t:SetTable} {ks:List K} {a I:Yt}
def V8:isSubtype (.type "set") (.type "set")=pure true:=sub_set_self
def UM (hT:s.TypeIs (.ref a) "set") (h:Q false s):wpAny (model prog w) A (Builtin.List.listLengthHint (.ref a)) Q E s:=by
 unfold Builtin.List.listLengthHint;refine AA (wpAny_specialOf hT F.slot_set_len.lookup ?_);have hsp:splitId "set.__len__" = some ("set", "__len__"):=by decide+kernel
 dsimp only;rw[hsp];dsimp only;refine AA (wpAny_isInstance hT V8 ?_);rw[AD (by decide),AB (by decide+kernel)];refine AA (wpAny_typeOf hT ?_);exact AE h
def SU (hh:A.handled=none) (ho:s.heap.get? a=some o) (hS:SetK knd o es ep t ks)
  (hQ:∀ (s':Yl) (acc:Yf),(∀ b u,s.heap.get? b=some u->s'.heap.get? b=some u)->s'.os=s.os->s'.gens=s.gens->acc.Perm (es.toList.map (·.2))->Q acc s'):wpAny (model prog w) A (collect (.ref a)) Q E s:=by
 have hal:a<s.heap.objs.size:=AH ho;have hn:ks.length<=sizeLine:=by rw[<-hS.size];exact fits_of_scanBound hS.bound
 unfold collect;refine AA (wpAny_runValue (codeAny_builtin F.entry_proto_collect ?_));rw[Around.under_plainId F.plain_proto_collect _];show wpAny _ A.in1 (newList [] >>= λl=>again (.builtin "list.__iadd__" ⟨[l,.ref a],[]⟩)) _ _ s;refine AA (CI (AE ⟨plainId_quiet F.plain_list_iadd _,codeAny_builtin F.entry_list_iadd ?_⟩));rw[Around.under_plainId F.plain_list_iadd _];generalize hH:s.heap.push { cls:=.type "list", data:=.seq ([]:List Value).toArray }=H;have kH:∀ b u,s.heap.get? b=some u->H.get? b=some u:=λb u e=>by rw[<-hH];exact AJ _ e
 have szH:H.objs.size=s.heap.objs.size+1:=by rw[<-hH];exact Cg ..
 have hL1:H.get? s.heap.objs.size=some { cls:=.type "list", data:=.seq ([]:List Value).toArray }:=by rw[<-hH];exact Aj _ rfl
 have ho1:=kH a o ho;show wpAny _ A.in1 (Builtin.List.listExtendWith (.ref s.heap.objs.size) (.ref a) (.ref s.heap.objs.size)) _ _ { s with heap:=H };unfold Builtin.List.listExtendWith;have hT1:Shared.TypeIs { s with heap:=H } (.ref a) "set" := ⟨o,ho1,hS.ex.1⟩;refine AA (wpAny_typeOf hT1 ?_);have hneL:s.heap.objs.size≠a:=Nat.ne_of_gt hal;have h1:Builtin.List.listSameRef (.ref s.heap.objs.size) (.ref a)=false:=by simp[Builtin.List.listSameRef,hneL]
 have h2:(Value.type "set" == Value.type "list")=false:=by decide
 have h3:(Value.type "set" == Value.type "tuple")=false:=by decide
 simp only[h1,h2,h3,Bool.or_false,Dl,if_false];refine AA (VI (s:={ s with heap:=H }) ho1 hS λh2 d I fp ord St k2 hI2 hfp W st0 hp=>?_);have ho2:=k2 a o ho1;refine AA (C7 (UM (s:={ s with heap:=h2,drawn:=d }) ⟨o,ho2,hS.ex.1⟩ ?_));rw[AB (by decide+kernel)];refine AA (CA (AA ?_));show wpAny _ A.in1 (updateSeq s.heap.objs.size (·.push .none) >>= λ_=>updateSeq s.heap.objs.size (·.pop)) _ _ _;have hL2:=k2 _ _ hL1;refine AA (wpAny_updateSeq (s:={ s with heap:=h2,drawn:=d }) hL2 rfl ?_);have hS2:=Ej (Obj.mapSeq (·.push Value.none)) hL2 rfl;refine wpAny_updateSeq hS2 rfl ?_;have hS3:=Ej (Obj.mapSeq (·.pop)) hS2 rfl;generalize hH3:(h2.update s.heap.objs.size (Obj.mapSeq (·.push Value.none))).update s.heap.objs.size (Obj.mapSeq (·.pop))=H3 at hS3;have oth:∀ b u,b≠s.heap.objs.size->h2.get? b=some u->H3.get? b=some u:=λb u hb e=>by
  rw[<-hH3];exact (Dz _ _ (Ne.symm hb)).trans ((Dz _ _ (Ne.symm hb)).trans e)
 have hSf:s.heap.objs.size∉fp:=λhm=>by
  rcases (hfp _ hm).2 with z|z
  .exact hneL z
  .have z':H.objs.size<=s.heap.objs.size:=z;rw[szH]at z';exact absurd z' (Nat.not_succ_le_self _)
 have WS:=(W A.in1.in1 hh).toS;have st3:St 0 H3:=(W A.in1.in1 hh).frame 0 _ _ st0 λb hb u e=>oth b u (λz=>hSf (z▸hb)) e;have hI3:I≠s.heap.objs.size:=λz=>by
  have z':H.objs.size<=I:=hI2;rw[szH,z]at z';exact absurd z' (Nat.not_succ_le_self _)
 refine AE ⟨plainId_quiet F.plain_extend_loop _,codeAny_extend_loopS (A:=A) (WalksS.of_in1 WS) hn _ hSf _ ks.length 0 { s with heap:=H3,drawn:=d } _ _ rfl (Ba _) st3 hS3 (ItemsOf.nil _) λs' acc' c' hm hS' hacc=>?_⟩;show wpAny _ A (load s.heap.objs.size >>= _) _ _ s';refine AA (wpAny_load hS' (AE (hQ s' _ (λb u e=>hm.heap b u (λq=>?_) (oth b u (λz=>Bq _ (z▸AH e)) (k2 b u (kH b u e)))) hm.os hm.gens ?_)))
 .rcases AO.mp q with z|z
  .exact Bq _ (z▸AH e)
  .have z':H.objs.size<=I:=hI2;rw[<-BC.mp z,szH]at z';exact Bq _ (Nat.lt_trans (Ax (E1 _) z') (AH e))
 .have e:acc'.toList=ord:=by
   have hl:ord.length=ks.length:=by rw[hp.length_eq,AF,Bn,hS.size]
   apply List.ext_getElem?;intro i;rw[CC];by_cases q:i<ks.length
   .have q':i<acc'.size:=by rw[hacc.1];exact q
    rw[EF q'];exact (hacc.2 i _ (EF q')).symm
   .rw[Array.getElem?_eq_none (by rw[hacc.1];omega),Ec (by omega)]
  rw[e];exact hp
end
end ST
section
open PySem PySem.Spec PyProof.Rows
namespace L2
open ST
section
variable {prog:Ym} {w:Yo} {A:Yn} {R:Yx} {s:Yl}
def YG {elt target iter ifs rest scope pos it acc env}
  (h0:codeAny (model prog w) A (.compLoop (.SetComp elt (⟨target,iter,ifs,0⟩::rest) scope pos) 0 it acc env) R s)
  (h:wpAny (model prog w) A (pyIter it) (λit' s'=>codeAny (model prog w) A (.compLoop (.SetComp elt (⟨target,iter,ifs,0⟩::rest) scope pos) 0 it' acc env) R s')
   (notedBy (model prog w) A env λx s'=>R (.error x) s') s) :
  codeAny (model prog w) A (.compStart (.SetComp elt (⟨target,iter,ifs,0⟩::rest) scope pos) 0 it acc env) R s:=by
 refine codeAny_of_tree ?_;show wpAny _ _ ((compStart (.SetComp elt (⟨target,iter,ifs,0⟩::rest) scope pos) 0 it acc env).onRaise (λx=>do noteFrame x env;standAt theWindowsPlace)) _ _ s;refine wpAny_notedAt ?_;unfold compStart;show wpAny _ _ (ask >>= _) _ _ s;refine AA (wpAny_askSetting (wpAny_ite ?_));split
 .first
   |exact AA (AE (AE (And.intro rfl h0)))
   |exact AE (And.intro rfl h0)
 .first
   |exact AA (CA (AA (DM (AA (AX h (λit' s' h'=>AE (And.intro rfl h')) λ_ _ x=>x)))))
   | (refine AA (CA ?_);show wpAny _ _ (standAt iter.pos >>= _) _ _ s;exact AA (DM (AA (AX h (λit' s' h'=>AE (And.intro rfl h')) λ_ _ x=>x))))
end
section
variable {X:Cx} {zB:Yd} {Y:St} {H:Hp} {s:Yl} {scope:Y0} {cl:Yv} {fp:Yg} {it:Yt} {tn:Nat->Heap->Prop} {J:It} {tg elt iter:Expr} {ifs:Yi} {pos:Pos}
 {own:Yj} {g:TG} {tc:TT} {te:TE} {E:Yc}
def dD (h:SetK (intKind prog w) o es ep t ks):∀ v,o.data≠.cell v:=λv z=>by rw[h.data]at z;cases z
def S2 (C:CompIn X scope own) (hcalm:X.calm=true) (I:Inv X zB Y H s) (T:Turn X.prog X.w X.K tg J fp it tn) (st:tn 0 s.heap) (hf:∀ b∈fp,Bh X zB H b)
  (c1:∀ x c,cl.lookup x=some c->X.env.cells.lookup x=some c) (c2:∀ y∈scope.names,y.2=.free->(cl.lookup y.1).isSome=true)
  (hg:PG (zP X zB scope cl s H fp) tg g) (hi:Dt (zP X zB scope cl s H fp) ifs tc) (he:PE (zP X zB scope cl s H fp) elt te)
  {RR:Value->Addr->Result->Shared->Prop} {QQ:List Int->Hp->Prop} {W:Nat->Nat->List Int->Hp->Prop} {m0:Nat} (w0:W 0 m0 [] H)
  (turn:∀ i m ys H,W i m ys H->(J.stop i H/\QQ ys H) \/
   (J.go i H /\ ∀ x H',J.yld i H x H'->g x (clr own Y) H' λσ2 H2=>Ext (clr own Y) σ2/\tc σ2 H2 λb H3=>
    if b=true then te σ2 H3 λv H4=>∃ k,v=.int k/\ys.length+1<scanBound /\ ∃ m',m'<m/\W (i+1) m' (ins ys k) H4 else ∃ m',m'<m/\W (i+1) m' ys H3))
  (fin:∀ σc H' s' o es ep t ys,Inv (zP X zB scope cl s H fp) [(s.heap.objs.size,o)] σc H' s'->SetK (intKind X.prog X.w) o es ep t ys->QQ ys H'->RR (.ref s.heap.objs.size) (s.heap.objs.size+1) (.ok .next) s') :
  wpAny (model X.prog X.w) X.A (newSet (.type "set")) (λacc s₃=>wpAny (model X.prog X.w) X.A (newFunctionEnv scope X.env.globals cl [] X.env.qual none .none (some X.env)) (λcenv s₄=>
   codeAny (model X.prog X.w) X.A (.compStart (.SetComp elt [⟨tg,iter,ifs,0⟩] scope pos) 0 (.ref it) acc { cenv with scope:=relabel scope X.env }) (RR acc cenv.locals) s₄) E s₃) E s:=by
 have ob:∀ b:Nat,b∈fp->b<s.heap.objs.size:=λb hb=>let ⟨_,e,_⟩:=T.obj 0 _ st b hb;AH e;refine gD (Kb ?_);have sz1:(s.heap.push (FK X.w)).objs.size=s.heap.objs.size+1:=Cg ..;have I4:=Ls (X:=X) (zB:=zB) (Y:=Y) (σc:=clr own Y) (H:=H) (s:=s) (scope:=scope) (cl:=cl) (fp:=fp) C.sc I hf ob c1 c2 (G9 own Y) (λi x v h1 h2 h3=>by
  obtain ⟨a,b⟩:=GG own Y i v h2;rcases C.nm i x h1 with z|z|z
  .exact absurd z b
  .exact absurd (Jz x z) h3
  .exact ⟨z,a⟩) (FK X.w) (by intro v z;cases z) rfl rfl
 have st4:tn 0 (pushCells ((s.heap.push (FK X.w)).push { cls:=.type "dict", data:=.dict #[] }) scope.names):=T.keep 0 _ _ st λb _ o e=>pushCells_keeps _ _ b o (AJ _ (AJ _ e));dsimp only;unfold newEnv;dsimp only;rw[sz1];have hDfp:s.heap.objs.size∉fp:=λz=>Bq _ (ob _ z);have hcD:∀ x c,(zP X zB scope cl s H fp).env.cells.lookup x=some c->c≠s.heap.objs.size:=λx c e z=>by
  obtain ⟨v,o,ho,hd⟩:=I4.cell x c e;obtain ⟨q,_⟩:=I4.pin (s.heap.objs.size,FK X.w) (by simp);rw[z,q]at ho;cases ho;cases hd
 have fpk:∀ {H':Hp} {pl:Yd},(∀ b∈fp,H' b=none)->(∀ p∈pl,p.1=s.heap.objs.size) -> ∀ b∈fp,Bh (zP X zB scope cl s H fp) pl H' b:=λ{H' pl} hn hp b hb=>
  ⟨hn b hb,(I4.ok.exf b hb).1,I4.ok.exfs b hb,.inl hb,(I4.ok.exf b hb).2,λp hq=>by
   rcases AS.mp hq with z|z
   .exact (hf b hb).2.2.2.2.2 p z
   .intro e;have e2:=hp p z;rw[e]at e2;exact hDfp (e2▸hb)⟩
 have loop:codeAny (model X.prog X.w) X.A (.compLoop (.SetComp elt [⟨tg,iter,ifs,0⟩] scope pos) 0 (.ref it) (.ref s.heap.objs.size) (zP X zB scope cl s H fp).env) (RR (.ref s.heap.objs.size) (s.heap.objs.size+1))
   { s with heap:=pushCells ((s.heap.push (FK X.w)).push { cls:=.type "dict", data:=.dict #[] }) scope.names }:=by
  refine Wb (λn s'=>∃ i H' ys o es ep t,Inv (zP X zB scope cl s H fp) [(s.heap.objs.size,o)] (clr own Y) H' s'/\SetK (intKind X.prog X.w) o es ep t ys/\tn i s'.heap/\(∀ b∈fp,H' b=none)/\W i n ys H') ?_ m0
   ⟨0,H,[],FK X.w,_,_,_,I4,.fresh,st4,λb hb=>(hf b hb).1,w0⟩
  rintro n s5 ⟨i,H5,ys,o,es,ep,t,I5,r5,st5,f5,w5⟩;have pinD:∀ p∈[(s.heap.objs.size,o)],p.1=s.heap.objs.size:=λp hp=>by
   have:p=(s.heap.objs.size,o):=by simpa using hp
   rw[this]
  rcases turn i n ys H5 w5 with ⟨stop,qq⟩|⟨go,step⟩
  .refine thn (T.done (zP X zB scope cl s H fp) rfl rfl rfl hcalm i _ s5 _ H5 _ I5 (fpk f5 pinD) st5 stop) λr s6 ⟨hr,I6⟩=>?_;subst hr;exact fin _ H5 s6 o es ep t ys I6 r5 qq
  .refine thn (T.item (zP X zB scope cl s H fp) rfl rfl rfl hcalm i _ s5 _ H5 _ I5 (fpk f5 pinD) st5 go) λr s6 ⟨u,hr,h6⟩=>?_;subst hr;refine thn h6 λ_ s7 ⟨x,H7,I7,r7,y7,st7,f7⟩=>?_;have I7':=I7.pinned (fpk f7 pinD) (T.obj _ _ st7);refine thn (hg _ s7 _ H7 x u _ I7' r7 (step x H7 y7)) λ_ s8 ⟨σ8,H8,I8,x8,q8⟩=>?_;refine thn (hi _ s8 σ8 H8 _ I8 q8) λok s9 ⟨H9,I9,q9⟩=>?_;have back:∀ {s':Yl} {Hx:Hp},Inv (zP X zB scope cl s H fp) ([(s.heap.objs.size,o)]++Ef fp s7.heap) σ8 Hx s'->tn (i+1) s'.heap /\ ∀ b∈fp,Hx b=none:=λ{s' Hx} Ix=>
    ⟨T.keep _ _ _ st7 λb hb o e=>(Ix.pin (b,o) (Ar _ (Ar _ (EA hb e)))).1,λb hb=>by
     obtain ⟨o,e,d⟩:=T.obj _ _ st7 b hb;exact (Ix.pin (b,o) (Ar _ (Ar _ (EA hb e)))).2.1⟩
   cases ok with
   |false=>
    obtain ⟨m',hm,w'⟩:=q9;obtain ⟨b1,b2⟩:=back I9;exact ⟨m',hm,i+1,H9,ys,o,es,ep,t,(I9.weak (by rw[x8.1]) x8.2).unpinned,r5,b1,b2,w'⟩
   |true=>
    refine thn (he _ s9 σ8 H9 _ I9 q9) λv s10 ⟨y,H10,I10,r10,k,hk,hlt,m',hm,w'⟩=>?_;subst hk;obtain ⟨b1,b2⟩:=back I10;have J10:=(I10.weak (by rw[x8.1]) x8.2).unpinned;obtain ⟨e10,n10,ne10,nf10,d10⟩:=J10.pin (s.heap.objs.size,o) (by simp);obtain ⟨tk,hv⟩:∃ tk,v=.int k tk:=r10;subst hv;refine Q3 (knd:=intKind X.prog X.w) (intKind_is _ _ _ _) rfl e10 r5 hlt λh' o' es' ep' t' hs' e' S'=>?_;refine ⟨m',hm,i+1,H10,ins ys k,o',es',ep',t',?_,S',T.keep _ _ _ b1 λb hb o e=>hs'.extBut b o (λz=>hDfp (z▸hb)) e,b2,w'⟩;refine (Inv.repin (pl:=[]) J10 (λp hp=>?_) hs' (AG _) hcD e' (dD S')).tok _;rw[By]at hp;have hp':p∈X.pn++zB:=hp;exact Ap (AH (I.pin p hp').1)
 exact YG loop (T.self _ 0 _ _ _ st4 loop)
def XQ (I:Inv X zB Y H s) (hf:∀ b∈fp,Bh X zB H b)
  (Ic:Inv (zP X zB scope cl s H fp) [(s.heap.objs.size,oD)] σc H' s') (hs:Heap.SameBut (s.heap.objs.size+1) s'.heap h') :
  Inv X zB Y H' { s' with heap:=h' }/\h'.get? s.heap.objs.size=some oD:=by
 obtain ⟨eD,nD,_⟩:=Ic.pin (s.heap.objs.size,oD) (by simp);have nC:H' (s.heap.objs.size+1)=none:=Ic.free;have eD':h'.get? s.heap.objs.size=some oD:=hs.extBut _ _ (Ap (E1 _)) eD;have lt1:∀ {b:Yt} {o:Obj},s.heap.get? b=some o->b≠s.heap.objs.size+1:=λe=>Ap (EH (AH e));have tr:∀ b u,H' b=some u->b≠s.heap.objs.size+1:=λb u e z=>by rw[z,nC]at e;cases e
 refine ⟨?_,eD'⟩;have B:=Ic.base;have un:Un (frs X.stack) fp H H' s.heap h':=by
  refine ⟨λb o e q hb hx=>hs.extBut b o (lt1 e) (B.keep b o e q hb hx),λb o e q hb hx=>?_,λb o e q hx=>B.free b o e q hx,λb o e hx=>?_,λb xs e=>B.tups b xs e,λb o xs e=>B.frzs b o xs e,λb ps e=>B.tbls b ps e⟩
  .obtain ⟨sl,e1⟩:=B.slot b o e q hb hx;exact ⟨sl,hs.extBut b _ (lt1 e) e1⟩
  .obtain ⟨o',e1⟩:=B.there b o e hx;exact ⟨o',hs.extBut b _ (lt1 e) e1⟩
 have hok:HOk X.prog X.w H' h':=λb u e=>by
  refine (Ic.hok b u e).stay (λc v hc q=>hs.extBut c v ?_ q) (λc q=>q) λc xs q=>q;rcases hc with z|z
  .rw[z];exact tr b u e
  .exact tr c _ z
 exact I.call' (s':={ s' with heap:=h' }) (ch:=fp) Ic.os un hok Ic.bare λb hb=>⟨(hf b hb).2.2.2.1,(hf b hb).2.1,(hf b hb).2.2.2.2.1,(hf b hb).2.2.2.2.2⟩
end
noncomputable abbrev TZ:=St->Hp->(List Int->Hp->Prop)->Prop
def PZ (X:Cx) (e:Expr) (t:TZ):Prop:=∀ (zB:Yd) (s:Yl) (Y:St) (H:Hp) (Q:List Int->Hp->Prop),Inv X zB Y H s->t Y H Q ->
 wpAny (model X.prog X.w) X.A (eval e X.env) (λv s'=>∃ a o es ep tb ks H',v=.ref a/\s'.heap.get? a=some o/\SetK (intKind X.prog X.w) o es ep tb ks/\Inv X zB Y H' s'/\Q ks H') X.xe s
noncomputable def Oy (own:Yj) (wi:TI) (g:TG) (tc:TT) (te:TE):TZ:=λY H Q=>wi Y H λJ H1=>∃ W:Nat->Nat->List Int->Hp->Prop,(∃ m,W 0 m [] H1) /\ ∀ i m ys H,W i m ys H ->
 (J.stop i H/\Q ys H) \/
 (J.go i H /\ ∀ x H',J.yld i H x H'->g x (clr own Y) H' λσ2 H2=>Ext (clr own Y) σ2/\tc σ2 H2 λb H3=>
  if b=true then te σ2 H3 λv H4=>∃ k,v=.int k/\ys.length+1<scanBound /\ ∃ m',m'<m/\W (i+1) m' (ins ys k) H4 else ∃ m',m'<m/\W (i+1) m' ys H3)
section
variable {X:Cx} {scope:Y0} {tg elt iter:Expr} {ifs:Yi} {pos:Pos} {own:Yj} {wi:TI} {g:TG} {tc:TT} {te:TE}
def ZL (C:CompIn X scope own) (hcalm:X.calm=true) (hi:PI X tg iter wi) (p:CompParts X scope tg ifs elt g tc te) (hs:∀ x,foldedSetIterable iter X.env x=pure x:=by intro _;rfl) :
  PZ X (.SetComp elt [⟨tg,iter,ifs,0⟩] scope pos) (Oy own wi g tc te):=by
 intro zB s Y H Q I h;obtain ⟨cl,hcl,c1,c2⟩:=C.sc.closure I;rw[arm_eval_SetComp];refine wpAny_comprehension_free (use:=none) rfl hs hcl C.sc.kind C.sc.names (thn (hi zB s Y H _ I h) λv s1 h1=>thn h1 λitv s2 h2=>?_);obtain ⟨it,fp,tn,J,H2,e,I2,T,st2,f2,W,⟨m0,w0⟩,turn⟩:=h2;subst e;refine S2 C hcalm I2 T st2 f2 c1 c2 (p.g _ _ _ _ _) (p.c _ _ _ _ _) (p.e _ _ _ _ _) (RR:=λacc C r s'=>compPost (model X.prog X.w) X.A X.xe none (λv s'=>∃ a o es ep tb ks H',v=.ref a/\s'.heap.get? a=some o/\SetK (intKind X.prog X.w) o es ep tb ks/\Inv X zB Y H' s'/\Q ks H') acc C r s') (QQ:=Q) w0 turn ?_;intro σc H' s' o es ep t ys Ic rv qq;obtain ⟨m,hn,_⟩:=Ic.loc;refine ⟨m,hn,λh' hs'=>?_⟩;obtain ⟨J',eD⟩:=XQ I2 f2 Ic hs';exact ⟨_,o,es,ep,t,ys,H',rfl,eD,rv,J',qq⟩
end
end L2
namespace ST
open PySem.Sem (wp)
section
variable {prog:Ym} {w:Yo} {A:Yn} {E:Yc} {s:Yl}
variable {K:Type} [DecidableEq K] {knd:KeyKind prog w K}
noncomputable def CY (ks:List K):List K:=ks.foldl ins []
def bO (ks:List K) (k:K):CY (ks++[k])=ins (CY ks) k:=by unfold CY;rw[List.foldl_append];rfl
def YC (ks:List K) (k:K):(ins ks k).length<=ks.length+1:=by unfold ins;split <;> simp
def Qw (ks:List K):(CY ks).length<=ks.length:=by
 have:∀ (l acc:List K),(l.foldl ins acc).length<=acc.length+l.length:=by
  intro l;induction l with
  |nil=>intro acc;simp
  |cons x r ih=>intro acc;have:=ih (ins acc x);have:=YC acc x;simp only[List.foldl_cons,CS];omega
 simpa [CY] using this ks []
def XR (ks:List K) (k x:K):x∈ins ks k ↔ x∈ks\/x=k:=by
 unfold ins;split
 .rename_i h;constructor
  .exact .inl
  .rintro (z|z)
   .exact z
   .rw[z];exact h
 .simp
def VN (ks:List K) (x:K):x∈CY ks ↔ x∈ks:=by
  have:∀ (l acc:List K),x∈l.foldl ins acc ↔ x∈acc\/x∈l:=by
    intro l;induction l with
    |nil=>intro acc;simp
    |cons y r ih=>intro acc;rw[List.foldl_cons,ih,XR,AO];simp[or_assoc]
  simpa [CY] using this ks []
def cC (h : ks.Nodup) (k : K) : (ins ks k).Nodup := by
  unfold ins;split
  .exact h
  · rename_i q
    rw[E9]
    exact ⟨h, by simp, fun a ha b hb z => by have : b = k := by simpa using hb
                                             subst this;subst z;exact q ha⟩
def WQ (ks:List K):(CY ks).Nodup:=by
 have:∀ (l acc:List K),acc.Nodup->(l.foldl ins acc).Nodup:=by
  intro l;induction l with
  |nil=>intro acc h;exact h
  |cons y r ih=>intro acc h;exact ih _ (cC h y)
 exact this ks [] (by simp)
variable {R:Yx} {I:Yt} {fp wr:Yg} {G:Array GenState->Array GenState->Prop} {n:Nat} {P:Nat->Value->Prop} {St:Nat->Shared->Prop}
end
noncomputable def Bm (ks:Ye):List Int:=ks.mergeSort λa b=>decide (a<=b)
def Fx (ks:Ye):(Bm ks).Perm ks:=List.mergeSort_perm _ _
def Ib (ks:Ye):(Bm ks).Pairwise (· <= ·):=by
 have:=List.pairwise_mergeSort (le:=λ(a b:Int)=>decide (a<=b)) (λa b c h1 h2=>by simp at h1 h2 ⊢;omega) (λa b=>by simp;omega) ks;exact this.imp λh=>by simpa using h
theorem Mo:∀ {xs ys:Ye},xs.Perm ys->xs.Pairwise (· <= ·)->ys.Pairwise (· <= ·)->xs=ys
 |[],ys,p,_,_=>by have:=p.length_eq;simp at this;rw[HI.mp this.symm]
 |x::xs,[],p,_,_=>by have:=p.length_eq;simp at this
 |x::xs,y::ys,p,h1,h2=>by
  have hx:=CD.mp h1;have hy:=CD.mp h2;have e:x=y:=by
   have a:x∈y::ys:=p.mem_iff.mp Ah;have b:y∈x::xs:=p.mem_iff.mpr Ah;rcases AO.mp a with z|z
   .exact z
   .rcases AO.mp b with q|q
    .exact q.symm
    .exact Int.le_antisymm (hx.1 y q) (hy.1 x z)
  subst e;rw[Mo (p.cons_inv) hx.2 hy.2]
def Nz (p:xs.Perm ys) (h:xs.Pairwise (· <= ·)):xs=Bm ys:=Mo (p.trans (Fx ys).symm) h (Ib ys)
section
variable {prog:Ym} {w:Yo} {A:Yn} {E:Yc} {s:Yl}
def Of
  (hc:wpAny (model prog w) A.in1 (collect v) (λvs s1=>∃ ns,IntsAre vs ns/\vs.length<64 /\ ∀ (h':Heap) (out:List Value) (n:Nat),(∀ b u,s1.heap.get? b=some u->h'.get? b=some u)->h'.get? s1.heap.objs.size=some (seqObj "list" out.toArray n)->IntsAre out (Bm ns)->Q (.ref s1.heap.objs.size) { s1 with heap:=h' }) E s) :
  wpAny (model prog w) A (call (.builtin "sorted") [v]) Q E s:=by
 refine Calls.call_function_entry kind_sorted plain_sorted entry_sorted (args_sorted1 _) ?_;unfold Builtin.«sorted»;refine AA (m:=checkCount "sorted" 1 1 _) (AE ?_);refine AA (AX hc (λvs s1 h1=>?_) λ_ _ h'=>h');obtain ⟨ns,hI,h64,h⟩:=h1;refine AA (wpAny_newList ?_ (by rw[sizeLine_eq];omega));have hoL:(s1.heap.push (seqObj "list" vs.toArray 0)).get? s1.heap.objs.size=some (seqObj "list" vs.toArray 0):=Aj _ rfl;refine AA (C7 (CO slot_list_sort ⟨_,hoL,rfl⟩ entry_list_sort (list_sort_tree (s:={ s1 with heap:=s1.heap.push (seqObj "list" vs.toArray 0) }) hoL hI h64 λout ns' a1 a2 a3=>⟨_,rfl,?_⟩) (args_list_sort _)));refine AE ⟨_,rfl,?_⟩;have g1:=get?_update_seq hoL (λ_=> #[]);have g2:(((s1.heap.push (seqObj "list" vs.toArray 0)).update s1.heap.objs.size (Obj.mapSeq λ_=> #[])).push (seqObj "tuple" vs.toArray 0)).get? s1.heap.objs.size=_:=AJ _ g1;have g3:=AJ (seqObj "list" #[] 0) g2;have g4:=get?_update_seq g3 (λ_=>out);have eS:=Nz a2 a3;subst eS;refine h _ out.toList _ (λb u e=>?_) (by rw[Array.toArray_toList];exact g4) a1;have hb:s1.heap.objs.size≠b:=λz=>Bq _ (z▸AH e);exact (Dz _ _ hb).trans (AJ _ (AJ _ ((Dz _ _ hb).trans (AJ _ e))))
def X4 (h:F2 (Jr (intKind prog w)) es ks):IntsAre (es.map (·.2)) ks:=by
 induction h with
 |nil=>exact .nil
 |cons h _ ih=>
  obtain ⟨⟨h1,_⟩,_⟩:=h;obtain ⟨t,e⟩:=Value.isInt_shape h1;rw[AY,e];exact .cons _ _ ih
def bB (p:us.Perm vs):∀ {ks:Ye},IntsAre vs ks -> ∃ ks',ks'.Perm ks/\IntsAre us ks':=by
 have p':=p.symm;clear p;induction p' with
 |nil=>intro ks h;exact ⟨ks,.refl _,h⟩
 |cons x _ ih=>
  intro ks h;cases h with
  |cons n t r=>
   obtain ⟨ys',q1,q2⟩:=ih r;exact ⟨_,q1.cons _,.cons _ _ q2⟩
 |swap x y l=>
  intro ks h;cases h with
  |cons n t r=>
   cases r with
   |cons n2 t2 r=>exact ⟨_,List.Perm.swap _ _ _,.cons _ _ (.cons _ _ r)⟩
 |trans _ _ ih1 ih2=>
  intro ks h;obtain ⟨ys',q1,q2⟩:=ih1 h;obtain ⟨ys'',r1,r2⟩:=ih2 q2;exact ⟨ys'',r1.trans q1,r2⟩
def Xq (p:xs.Perm ys):Bm xs=Bm ys:=Nz ((Fx xs).trans p) (Ib xs)
def bQ (hh:A.handled=none) (ho:s.heap.get? a=some o) (hS:SetK (intKind prog w) o es ep t ks) (h64:ks.length<64)
  (h:∀ (s1:Shared) (h':Heap) (out:List Value) (n:Nat),(∀ b u,s.heap.get? b=some u->s1.heap.get? b=some u)->s1.os=s.os->s1.gens=s.gens->(∀ b u,s1.heap.get? b=some u->h'.get? b=some u)->h'.get? s1.heap.objs.size=some (seqObj "list" out.toArray n)->IntsAre out (Bm ks)->Q (.ref s1.heap.objs.size) { s1 with heap:=h' }) :
  wpAny (model prog w) A (call (.builtin "sorted") [.ref a]) Q E s:=by
 refine Of (SU (A:=A.in1) hh ho hS λs' acc k1 k2 k3 hp=>?_);obtain ⟨ks',p,f⟩:=hS.ent;obtain ⟨ks2,p2,f2⟩:=bB hp (X4 f);refine ⟨ks2,f2,?_,λh' out n e1 e2 e3=>?_⟩
 .rw[hp.length_eq,AF,Bn,hS.size];exact h64
 .rw[Xq (p2.trans p)]at e3;exact h s' h' out n k1 k2 k3 e1 e2 e3
def Pn (hty:ty = "list" \/ ty = "tuple") (hl:∃ ol,s.heap.get? l=some ol/\ol.cls=.type ty /\ ∃ nl,ol.data=.seq vs.toArray nl)
  (h:Q vs { s with heap:=(s.heap.push (seqObj "list" #[] 0)).update s.heap.objs.size (Obj.mapSeq (· ++ vs.toArray)) }) (hsz:vs.length<=sizeLine) :
  wpAny (model prog w) A (collect (.ref l)) Q E s:=by
 obtain ⟨o,ho,hc,n,hd⟩:=id hl;unfold collect;refine AA (wpAny_runValue (codeAny_builtin entry_proto_collect' ?_));show wpAny _ _ (do again (.builtin "list.__iadd__" ⟨[<-newList [],.ref l],[]⟩)) _ _ s;refine AA (wpAny_newList (AE ⟨Code.quiet_builtin _ (by decide+kernel),codeAny_builtin entry_list_iadd' ?_⟩));show wpAny _ _ (Builtin.List.listExtendWith (.ref s.heap.objs.size) (.ref l) (.ref s.heap.objs.size)) _ _ { s with heap:=s.heap.push (seqObj "list" #[] 0) };unfold Builtin.List.listExtendWith;have ho':(s.heap.push (seqObj "list" #[] 0)).get? l=some o:=AJ _ ho;refine AA (wpAny_typeOf (T:=ty) ⟨o,ho',hc⟩ ?_);have ht:(Value.type ty==Value.type "list" || Value.type ty==Value.type "tuple")=true:=by rcases hty with rfl|rfl <;> decide
 rw[AB (by rw[Bool.or_assoc,ht];simp)];refine AA (listItems_at ho' hd ?_);refine AA (listItems_at (xs:=#[]) (n:=0) (Aj _ rfl) rfl ?_);rw[AD (by simp)];refine AA (listUpdate_at (xs:=#[]) (n:=0) (Aj _ rfl) rfl ?_ (Ba _) (by show (#[]++vs.toArray).size<=sizeLine+1;simp only[Array.size_append,AW,D0];omega));refine AE ?_
 show wpAny (model prog w) A (do
   let o <- load s.heap.objs.size;match o.data with
   |.seq xs _=>pure xs.toList
   |_=>unsupported "internal:collect") Q E { s with heap:=(s.heap.push (seqObj "list" #[] 0)).update s.heap.objs.size (Obj.mapSeq (· ++ vs.toArray)) }
 refine AA (wpAny_load (get?_update_seq (Aj _ rfl) _) ?_);show wpAny _ _ (pure ((#[]:Array Value)++vs.toArray).toList) Q E _;rw[show ((#[]:Array Value)++vs.toArray).toList=vs by simp];exact AE h
def WK (hty:ty = "list" \/ ty = "tuple") (hl:∃ ol,s.heap.get? l=some ol/\ol.cls=.type ty /\ ∃ nl,ol.data=.seq vs.toArray nl) (hI:IntsAre vs ns) (h64:vs.length<64)
  (h:∀ (h1 h':Heap) (out:List Value) (n:Nat),(∀ b u,s.heap.get? b=some u->h1.get? b=some u)->(∀ b u,h1.get? b=some u->h'.get? b=some u)->h'.get? h1.objs.size=some (seqObj "list" out.toArray n)->IntsAre out (Bm ns)->Q (.ref h1.objs.size) { s with heap:=h' }) :
  wpAny (model prog w) A (call (.builtin "sorted") [.ref l]) Q E s:=by
 refine Of (Pn hty hl ⟨ns,hI,h64,λh' out n e1 e2 e3=>h _ h' out n (λb u e=>?_) e1 e2 e3⟩ (by rw[sizeLine_eq];omega));have hb:s.heap.objs.size≠b:=λz=>Bq _ (z▸AH e);exact (Dz _ _ hb).trans (AJ _ e)
end
end ST
namespace L2
open ST
section
variable {X:Cx} {e:Expr} {p pos:Pos} {zB:Yd} {Y:St} {H:Hp} {s:Yl}
def Inv.kept' (I:Inv X zB Y H s) (k:∀ b u,s.heap.get? b=some u->s1.heap.get? b=some u) (ho:s1.os=s.os) (hg:s1.gens=s.gens):Inv X zB Y H s1 :=
 I.call' (ch:=[]) ho (Un.kept k) (I.hok.kept k) (by rw[hg];exact I.bare) λb hb=>nomatch hb
theorem Jy:∀ {ns:Ye} {us:Yf},IntsAre us ns->zX (ns.map V.int) us
 |_,_,.nil=> .nil
 |_,_,.cons n t h=> .cons ⟨t,rfl⟩ (Jy h)
theorem Nl:∀ {ns:Ye} {us:Yf},zX (ns.map V.int) us->IntsAre us ns
 |[],_,.nil=> .nil
 |n::ns,_,.cons r h=>by obtain ⟨t,rfl⟩:=r;exact .cons n t (Nl h)
def NJ (ks:Ye):(Bm ks).length=ks.length:=(Fx ks).length_eq
def YZ (hc:X.calm=true) (hg:Gl X "sorted") (hm:X.mg "sorted" = none) (ha:PZ X e t) (hs:starEach [e] X.env=(false,eval e X.env)::starEach [] X.env:=by rfl) (hpl:(backTo pos (starEach [] X.env)).any (·.1)=false:=by rfl) :
  PE X (.Call (.Name "sorted" p) [e] [] pos) (λY H Q=>t Y H λks H1=>ks.length<64 /\ ∀ q,H1 q=none->Q (.ref q) (upd H1 q (.lst ((Bm ks).map V.int)))):=by
 intro zB s Y H Q I h;refine wpAny_Call_Name_kw (GU I hg hm (by rfl) ?_ (by decide) (by decide));refine callWith_builtin1 ?_ hs hpl;rw[hs];show wpAny _ _ (spliced ((false,eval e X.env)::backTo pos (starEach [] X.env))) _ _ s;refine Calls.spliced_cons (thn (ha zB s Y H _ I h) λu s1 ⟨a,o,es,ep,tb,ks,H1,hv,ho,hS,I1,h64,q⟩=>Calls.spliced_nil ?_);subst hv;refine bQ (I1.ok.hd hc) ho hS h64 λs2 h' out n k1 k2 k3 k4 e4 i4=>?_;have I2:Inv X zB Y H1 s2:=I1.kept' k1 k2 k3;have hf:H1 s2.heap.objs.size=none:=I2.hok.fresh (AG _);refine ⟨.ref s2.heap.objs.size,upd H1 s2.heap.objs.size (.lst ((Bm ks).map V.int)),I2.laid (t':=s2.toks) k4 (AG _) ⟨by rw[AF,NJ,sizeLine_eq];omega,out,n,Jy i4,e4⟩,rfl,q _ hf⟩
def R9:Cm X (.builtin "sorted") (λxs H Q=>∃ a ns,xs=[.ref a]/\(SqL X.K H a (ns.map V.int)\/SqT X.K H a (ns.map V.int))/\ns.length<64 /\ ∀ q,H q=none->Q (.ref q) (upd H q (.lst ((Bm ns).map V.int)))):=by
 intro zB s Y H xs us Q I r h;obtain ⟨a,ns,rfl,hq,h64,q⟩:=h;obtain ⟨u,rfl,rfl⟩:∃ u,us=[u]/\u=.ref a:=by
  cases r with
  |cons r1 r2=>cases r2;exact ⟨_,rfl,r1⟩
 have key:∃ (ty:String) (its:List Value),(ty = "list" \/ ty = "tuple")/\(∃ ol,s.heap.get? a=some ol/\ol.cls=.type ty /\ ∃ nl,ol.data=.seq its.toArray nl)/\zX (ns.map V.int) its:=by
  rcases hq with hq|hq
  .obtain ⟨its,rv,⟨ol,nl,e1,e2,_,e3⟩,_⟩:=I.list hq;exact ⟨"list", its,.inl rfl,⟨ol,e1,e2,nl,e3⟩,rv⟩
  .obtain ⟨its,rv,⟨ol,e1,e2,nl,e3⟩,_⟩:=I.tuple hq;exact ⟨"tuple", its,.inr rfl,⟨ol,e1,e2,nl,e3⟩,rv⟩
 obtain ⟨ty,its,hty,hl,rv⟩:=key;refine WK hty hl (Nl rv) (by rw[<-rv.length,AF];exact h64) λh1 h' out n k1 k4 e4 i4=>?_;have I2:Inv X zB Y H { s with heap:=h1 }:=I.kept (t':=s.toks) k1;have hf:H h1.objs.size=none:=I2.hok.fresh (AG _);exact ⟨.ref h1.objs.size,upd H h1.objs.size (.lst ((Bm ns).map V.int)),I2.laid (t':=s.toks) k4 (AG _) ⟨by rw[AF,NJ,sizeLine_eq];omega,out,n,Jy i4,e4⟩,rfl,q _ hf⟩
end
end L2
namespace L3
open L2 ST
noncomputable abbrev FZ:=Sd->Mem->Option (List Int × Mem)
noncomputable def trZ (K:Yb) (f:FZ):TZ:=λτ H Q=>∃ L Y M ks M',Cor K L M H/\An L H Y τ/\f Y M=some (ks,M') /\ ∀ L' H',Stp L H L' H'->Cor K L' M' H'->Q ks H'
structure QZ (X:Cx) (e:Expr) (f:FZ):Prop where
 un:PZ X e (trZ X.K f)
def PZ.imp (h:PZ X e t) (hi:∀ τ H Q,t' τ H Q->t τ H Q):PZ X e t':=λzB s Y H Q I q=>h zB s Y H Q I (hi _ _ _ q)
noncomputable def Gv (own:Yj) (fi:FI) (g:FG) (tc:FT) (te:FE):FZ:=λY M=>match zn own fi g tc te Y M with
 |some (.fl ys,M2)=>match BZ ys with
  |some ks=>if ks.length+1<scanBound then some (CY ks,M2) else none
  |none=>none
 |_=>none
theorem P9:∀ {as bs:List D} {zs:Ye},BZ (as++bs)=some zs -> ∃ xs ys,BZ as=some xs/\BZ bs=some ys/\zs=xs++ys
 |[],bs,zs,h=>⟨[],zs,rfl,h,rfl⟩
 |a::as,bs,zs,h=>by
  cases a with
  |int i=>
   rw[List.cons_append]at h;unfold BZ at h;split at h
   .rename_i us e;cases h;obtain ⟨xs,ys,e1,e2,e3⟩:=P9 e;refine ⟨i::xs,ys,?_,e2,by rw[e3];rfl⟩;unfold BZ;rw[e1]
   .cases h
  |_=>cases h
def d7 (h:BZ as=some xs):BZ (as++[.int i])=some (xs++[i]):=by
 induction as generalizing xs with
 |nil=>cases h;rfl
 |cons a as ih=>
  cases a with
  |int j=>
   unfold BZ at h;split at h
   .rename_i us e;cases h;rw[List.cons_append];unfold BZ;rw[ih e];rfl
   .cases h
  |_=>cases h
def dJ {K:Yb} {own:Yj} {fi:FI} {g:TG} {fg:FG} {tc:FT} {te:FE} (hg:D1 own g fg) {τ:Sv} {H:Hp} {Q:List Int->Hp->Prop} (h:trZ K (Gv own fi fg tc te) τ H Q):Oy own (trI K fi) g (trT K tc) (trD K (toD te)) τ H Q:=by
 obtain ⟨L,Y,M,d,Mf,c,rs,hf,q⟩:=h;unfold Gv zn at hf;cases e1:fi Y M with
 |none=>rw[e1]at hf;cases hf
 |some r=>
  obtain ⟨xs,gd,M1⟩:=r;rw[e1]at hf;dsimp only at hf;by_cases hz:xs.length<=sizeLine
  .rw[AB hz]at hf;cases e2:Bc fg tc te (Bi own Y) xs gd xs M1 with
   |none=>rw[e2]at hf;cases hf
   |some r=>
    obtain ⟨zs,M2⟩:=r;rw[e2]at hf;dsimp only at hf;split at hf
    .rename_i kz ez;split at hf
     .rename_i hb;cases hf;refine (mkI c rs e1 (λL1 H1 J s1 c1 it=>?_))
      refine ⟨λi m ys H'=>m=xs.length-i/\i<=xs.length /\ ∃ L' M' as bs ka,Stp L1 H1 L' H'/\Cor K L' M' H'/\BZ as=some ka/\ys=CY ka/\Bc fg tc te (Bi own Y) xs gd (xs.drop i) M'=some (bs,Mf)/\as++bs=zs,
       ⟨xs.length,by simp,Ba _,L1,M1,[],zs,[],.refl _ _,c1,rfl,rfl,by simpa using e2,rfl⟩,?_⟩
      intro i m ys H' hI;refine Classical.byContradiction λG=>?_;obtain ⟨eI1,hi,L',M',as,bs,ka,s',c',r',hl,e',hab⟩:=hI;refine G ?_;clear G;subst eI1;by_cases hlt:i<xs.length
      .rw[HP hlt]at e';unfold Bc at e';split at e'
       .rename_i hgd;obtain ⟨step,_⟩:=it L' H' M' s' c' hgd;obtain ⟨go,yl⟩:=step i xs[i] (AL hlt);split at e'
        .rename_i σ1 eg;refine .inr ⟨go,λv H2 hy=>?_⟩;obtain ⟨gr,rv⟩:=yl v H2 hy;have s2:Stp L1 H1 L' H2:=s'.yld gr;refine hg (IF own ((rs.stp s1).stp s2)) (.refl _) rv eg λτ2 r2 x2=>⟨x2,?_⟩;split at e'
         .rename_i M3 e3;split at e'
          .rename_i d M4 e4;split at e'
           .rename_i ds M5 e5;cases e';refine (mkT (c'.grow gr) r2 e3 (λL3 H3 s3 c3=>Dn ?_));refine (mkD c3 (r2.stp s3) e4 (λL4 H4 w s4 c4 r4=>?_));have st:Stp L' H' L4 H4:=((Stp.grow gr).trans s3).trans s4;have ez':=ez;rw[<-hab]at ez';obtain ⟨x1,y1,g1,g2,g3⟩:=P9 ez';obtain ⟨k,hk⟩:∃ k,d=.int k:=by
             cases d with
             |int k=>exact ⟨k,rfl⟩
             |_=>cases g2
            subst hk;have ew:w=.int k:=by unfold Rep at r4;exact r4
            have hka:ka.length<=kz.length:=by
             rw[r']at g1;cases g1;rw[g3,AN];omega
            refine ⟨k,ew,?_,xs.length-(i+1),by omega,rfl,hlt,L4,M4,as++[.int k],ds,ka++[k],s'.trans st,c4,d7 r',by rw[hl,bO],e5,by rw[<-hab];simp⟩;rw[hl];have:=Qw ka;omega
           .cases e'
          .cases e'
         .rename_i M3 e3;refine (mkT (c'.grow gr) r2 e3 (λL3 H3 s3 c3=>D3 ?_));have st:Stp L' H' L3 H3:=(Stp.grow gr).trans s3;exact ⟨xs.length-(i+1),by omega,rfl,hlt,L3,M3,as,bs,ka,s'.trans st,c3,r',hl,e',hab⟩
         .cases e'
        .cases e'
       .cases e'
      .have hi':i=xs.length:=by omega
       subst hi';rw[List.drop_length]at e';unfold Bc at e';split at e'
       .rename_i hgd;cases e';obtain ⟨_,stop⟩:=it L' H' _ s' c' hgd;rw[By]at hab;subst hab;rw[r']at ez;cases ez;refine .inl ⟨stop,?_⟩;rw[hl];exact q L' H' (s1.trans s') c'
       .cases e'
     .cases hf
    .cases hf
  .rw[AD hz]at hf;cases hf
section
variable {X:Cx} {scope:Y0} {tg elt iter:Expr} {ifs:Yi} {pos p:Pos} {own:Yj} {e:Expr} {f:FE}
def Rc (hg:D1 own g fg) (C:CompIn X scope own) (hcalm:X.calm=true) (hi:QI X tg iter fi) (p:QParts X scope tg ifs elt g tc te) (hs:∀ x,foldedSetIterable iter X.env x=pure x:=by intro _;rfl) :
  QZ X (.SetComp elt [⟨tg,iter,ifs,0⟩] scope pos) (Gv own fi fg tc te) :=
 .mk <| PZ.imp (ZL C hcalm hi.un p.parts hs) λ_ _ _ h=>dJ hg h
noncomputable def IG (f:FZ):FE:=λY M=>match f Y M with
 |some (ks,M1)=>if ks.length<64 then some (.fl ((Bm ks).map D.int),M1) else none
 |none=>none
theorem K8:∀ (ns:Ye),zK L H (ns.map D.int) (ns.map V.int)
 |[]=> .nil
 |n::ns=> .cons Cs (K8 ns)
def U9 (hc:X.calm=true) (hg:Gl X "sorted") (hm:X.mg "sorted" = none) (h:QZ X e fz) (hs:starEach [e] X.env=(false,eval e X.env)::starEach [] X.env:=by rfl) (hpl:(backTo pos (starEach [] X.env)).any (·.1)=false:=by rfl) :
  QE X (.Call (.Name "sorted" p) [e] [] pos) (IG fz):=.mk <| PE.imp (YZ hc hg hm h.un hs hpl) λτ H Q zz=>by
 obtain ⟨L,Y,M,d,M',c,rs,hf,q⟩:=zz;unfold IG at hf;split at hf
 .rename_i ks M1 e1;split at hf
  .rename_i hb;cases hf;refine ⟨L,Y,M,_,_,c,rs,e1,λL1 H1 s1 c1=>⟨hb,λp hp=>?_⟩⟩;exact q L1 _ _ (s1.trans (.upd hp)) (c1.upd hp) (zk.newLst s1 c c1 hp (K8 _))
  .cases hf
 .cases hf
noncomputable def Gy:KB:=λxs M=>match xs with
 |[x]=>match Az M x with
  |some ds=>match BZ ds with
   |some ks=>if ks.length<64 then some (.fl ((Bm ks).map D.int),M) else none
   |none=>none
  |none=>none
 |_=>none
def zk.newLst' {L:Yg} {H:Hp} {K:Yb} {M:List MO} {p:Yt} {ds:List D} {vs:List V} (c:Cor K L M H) (hp:H p=none) (r:zK L H ds vs):zk H L (upd H p (.lst vs)) (.fl ds) (.ref p):=zk.newLst (.refl L H) c c hp r
def UA:D7 X.K (λxs H Q=>∃ a ns,xs=[.ref a]/\(SqL X.K H a (ns.map V.int)\/SqT X.K H a (ns.map V.int))/\ns.length<64 /\ ∀ q,H q=none->Q (.ref q) (upd H q (.lst ((Bm ns).map V.int)))) Gy:=by
 intro L M M' H H0 xs d vs Q c r hk q;unfold Gy at hk;split at hk
 .rename_i x;split at hk
  .rename_i ys e1;split at hk
   .rename_i ks e2;split at hk
    .rename_i hb;cases hk;obtain ⟨v,rfl,r1⟩:=r.one;obtain ⟨a,ws,rfl,hs,r2⟩:=F6 c r1 e1;have:=Ia e2 r2;subst this;exact ⟨a,ks,rfl,hs,hb,λp hp=>q L _ _ (.upd hp) (c.upd hp) (zk.newLst' c hp (K8 _))⟩
    .cases hk
   .cases hk
  .cases hk
 .cases hk
def TN (hg:Gl X "sorted") (hm:X.mg "sorted" = none) (ha:QAE X [e] fa) (he:starEach [e] X.env=(false,eval e X.env)::starEach [] X.env:=by rfl) (hpl:(backTo pos (starEach [] X.env)).any (·.1)=false:=by rfl):QE X (.Call (.Name "sorted" p) [e] [] pos) (fB Gy fa) :=
 HZ UA R9 (by rfl) hg hm ha (by decide) (by decide) he hpl
end
open AutoSeq1 (wpAny_loadPart')
def YX (hh:A.handled=none) (it l:Yt) (hne:l≠it) (items:Yp) :
  Draws prog w A it [it,l] items.size (λi v=>items[i]?=some v) (λi h=>h.IsTupleIter it l i/\h.IsTuple l items) where
 live:=λ_ _ st=>let ⟨o,ho,_⟩:=st.1;⟨o,ho⟩;frame:=λ_ _ _ st hk=>⟨let ⟨o,ho,r⟩:=st.1;⟨o,hk it (by simp) o ho,r⟩,let ⟨o,ho,r⟩:=st.2;⟨o,hk l (by simp) o ho,r⟩⟩;item:=λi s Q E hi st hQ=>by
  refine Jg st.1 st.2 (x:=items[i]) (by simp[hi]) λh' hit' hs'=>?_;exact hQ _ h' s.toks (by simp[hi]) ⟨hit',Tup.but st.2 hs'.extBut hne⟩ hs'
 done:=λs Q E st hE=>Jh hh st.1 st.2 (by simp) hE
def Xg (l:Yt) (items:Yp) (n:Nat) (dct:Option Addr) (sl:Array (Option Value)) :
  Meets (Builtin.«enumerate.__new__» ⟨[.type "enumerate", .ref l],[]⟩) (λ_ R s=>s.heap.get? l=some { cls:=.type "tuple", dict:=dct,data:=.seq items n,slots:=sl } /\
   R (.ok (.ret (.ref (s.heap.push { cls:=.type "tuple_iterator", data:=.fields #[.ref l,.int 0 0] }).objs.size)))
    { s with heap:=(s.heap.push { cls:=.type "tuple_iterator", data:=.fields #[.ref l,.int 0 0] }).push { cls:=.type "enumerate", data:=.fields #[.none,.bool false,.ref s.heap.objs.size,rawInt 0,.none,.none] } }) :=
 .of_wp λprog w A R s h=>by
  obtain ⟨hp,g,d,tk,os⟩:=s;obtain ⟨hl,h⟩:=h;have hsub:=sub_enumerate;have hL:Heap.IsTuple (Shared.heap ⟨hp,g,d,tk,os⟩) l items:=⟨_,hl,rfl,n,rfl⟩;wp_walk using wpAny_loadPart' hl;refine wpAny_stack_any λst=>AE ?_;split
  .rename_i c _ _ _ _ _;cases (c==Value.type "enumerate")
   .wp_walk using wpAny_loadPart' hl,wpAny_pyIter_tuple hL;exact ⟨_,rfl,h⟩
   .wp_walk using wpAny_loadPart' hl,wpAny_pyIter_tuple hL;exact ⟨_,rfl,h⟩
  .wp_walk using wpAny_loadPart' hl,wpAny_pyIter_tuple hL;exact ⟨_,rfl,h⟩
section
variable {prog:Ym} {w:Yo} {A:Yn} {E:Yc} {s:Yl}
def ZT (hL:s.heap.IsTuple l items)
  (h:∀ h',IsEnum h' (s.heap.objs.size+1) s.heap.objs.size 0 .none->h'.IsTupleIter s.heap.objs.size l 0->(∀ c o,s.heap.get? c=some o->h'.get? c=some o)->Q (.ref (s.heap.objs.size+1)) { s with heap:=h' }) :
  wpAny (model prog w) A (call (.type "enumerate") [.ref l]) Q E s:=by
 obtain ⟨o,ho,hc,n,hd⟩:=hL;obtain ⟨ocls,odict,odata,oslots⟩:=o;simp only at hc hd;subst hc;subst hd;refine callType_new PySem.F.called_enumerate (by decide) (PySem.F.typeCall_enumerate_1 _) (PySem.F.newCall_enumerate_1 _) (λobj=>PySem.F.args_object_init_2 obj _) PySem.F.entry_enumerate_new (Xg l items n odict oslots) ⟨ho,?_⟩;have q1:(s.heap.push { cls:=.type "tuple_iterator", data:=.fields #[.ref l,.int 0 0] }).objs.size=s.heap.objs.size+1:=Cg ..;have p2:((s.heap.push { cls:=.type "tuple_iterator", data:=.fields #[.ref l,.int 0 0] }).push { cls:=.type "enumerate", data:=.fields #[.none,.bool false,.ref s.heap.objs.size,rawInt 0,.none,.none] }).get? (s.heap.push { cls:=.type "tuple_iterator", data:=.fields #[.ref l,.int 0 0] }).objs.size=some _:=Aj _ rfl;show _/\_;rw[q1]at p2;rw[q1];exact ⟨⟨_,p2,rfl⟩,h _ p2 ⟨_,AJ _ (Aj _ rfl),rfl,rfl⟩ λc o x=>AJ _ (AJ _ x)⟩
def NA (he:IsEnum s.heap e it i old)
  (hn:∀ (Q':Value->Shared->Prop) (E':Value->Shared->Prop),(∀ h' x,Heap.ExtBut it s.heap h'->(∃ o,h'.get? x=some o/\o.cls=.type "StopIteration")->E' (.ref x) { s with heap:=h' })->wpAny (model prog w) A.in1 (Builtin.SmallTypes.nextOf (.ref it)) Q' E' s)
  (hQ:∀ h',Heap.ExtBut it s.heap h'->Q none { s with heap:=h' }):wpAny (model prog w) A (pyNext (.ref e)) Q E s:=by
 have hT:s.TypeIs (.ref e) "enumerate" := ⟨_,he,rfl⟩;unfold pyNext
 refine AA (wpAny_attempt (Dq (name:=Str.ofString "__next__") hT PySem.F.slot_enumerate_next
  (CO PySem.F.slot_enumerate_next hT PySem.F.entry_enumerate_next ?_ (PySem.F.args_enumerate_next_1 _))))
 show wpAny _ _ (field (.ref e) 2 >>= _) _ _ _;refine AA (Cb he rfl (x:=.ref it) rfl ?_);refine AA (hn _ _ λh' x he' hx'=>?_);obtain ⟨o,ho,hc⟩:=hx';refine AA (wpAny_isInstance (T := "StopIteration") (b:=true) ⟨o,ho,hc⟩ isSubtype_stop ?_);exact AE (hQ _ he')
end
noncomputable def FN (K:Yb) (isT:Bool) (a:Yt):It :=
 ⟨λi H=>∃ xs x,(if isT then SqT K H a xs else SqL K H a xs)/\xs[i]?=some x,
  λi H v H'=>∃ T x,v=.ref T/\H T=none/\H'=upd H T (.tup [.int i,x]) /\ ∀ xs,(if isT then SqT K H a xs else SqL K H a xs)->xs[i]?=some x,
  λi H=>∃ xs,(if isT then SqT K H a xs else SqL K H a xs)/\xs.length<=i⟩
def Jd (isT:Bool) (it a:Yt) (i:Nat) (h:Heap):Prop:=if isT then h.IsTupleIter it a i else h.IsListIter it a i
def fX {P:Ym} {w:Yo} {K:Yb} {es:Yi} {ek:Nat} {ep:Pos} {isT:Bool} {e it a:Yt} (hei:e≠it) (hae:a≠e) (hai:a≠it) :
  Turn P w K (.Tuple es ek ep) (FN K isT a) [e,it] e (λi h=>(∃ old,IsEnum h e it i old)/\Jd isT it a i h) where
 mem:=by simp
 obj:=λi h ⟨⟨old,he⟩,st⟩ c hc=>by
  simp only[AO,Cv,or_false]at hc;rcases hc with rfl|rfl
  .exact ⟨_,he,λv m=>by cases m⟩
  .cases isT with
   |true=>obtain ⟨o1,e1,_,d1⟩:=(show h.IsTupleIter c a i from st);exact ⟨_,e1,λv m=>by rw[d1]at m;cases m⟩
   |false=>obtain ⟨o1,e1,_,d1⟩:=(show h.IsListIter c a i from st);exact ⟨_,e1,λv m=>by rw[d1]at m;cases m⟩
 keep:=λi h h' ⟨⟨old,he⟩,st⟩ k=>by
  refine ⟨⟨old,k e (by simp) _ he⟩,?_⟩;cases isT with
  |true=>obtain ⟨o1,e1,r⟩:=(show h.IsTupleIter it a i from st);exact ⟨o1,k it (by simp) _ e1,r⟩
  |false=>obtain ⟨o1,e1,r⟩:=(show h.IsListIter it a i from st);exact ⟨o1,k it (by simp) _ e1,r⟩
 item:=by
  intro X hP hw hK hc i zB s Y H E I hf Z hg;subst hP hw hK;obtain ⟨⟨old,he⟩,st⟩:=Z;obtain ⟨xs,x,sa,hx⟩:=hg;have hch:∀ c∈[e,it],Bh X zB H c:=hf;have elt:e<s.heap.objs.size:=AH he
  have fin:∀ (its:List Value) (u:Value) (h':Heap) (tk:Nat),zX xs its->its[i]?=some u->IsEnumOut h' e it ((i:Int)+1) u s.heap.objs.size->Jd isT it a (i+1) h'->h'.get? s.heap.objs.size=some { cls:=.type "tuple", data:=.seq #[.int i tk,u] } ->
    (∀ b o,b≠e->b≠it->s.heap.get? b=some o->h'.get? b=some o)->it<s.heap.objs.size ->
    ∃ u',some (Value.ref s.heap.objs.size)=some u'/\wpAny (model X.prog X.w) X.A (letOwnedTupleGo (.Tuple es ek ep) (.ref e) u') (λ_ s2=>∃ x H',Inv X zB Y H' s2/\zm x u'/\(FN X.K isT a).yld i H x H'/\((∃ old,IsEnum s2.heap e it ((i+1:Nat):Int) old)/\Jd isT it a (i+1) s2.heap) /\ ∀ b∈[e,it],H' b=none) E { s with heap:=h',toks:=tk+1 }:=by
   intro its u h' tk rv hu ho st' hT hk ilt;refine ⟨_,rfl,wpAny_letOwnedTupleGo_enum ho λh2 he2 e2=>?_⟩;have kk:∀ c o,c∉[e,it]->s.heap.get? c=some o->h2.get? c=some o:=λc o n q=>by
    simp only[AO,Cv,or_false,not_or]at n;exact e2.extBut _ _ n.1 (hk c o n.1 n.2 q)
   have NT:=e2.extBut _ _ (Nat.ne_of_gt elt) hT;have hfr:H s.heap.objs.size=none:=I.hok.fresh (AG _);obtain ⟨u2,hu2,ru⟩:=rv.get hx;rw[hu]at hu2;cases hu2;refine ⟨.ref s.heap.objs.size,upd H s.heap.objs.size (.tup [.int i,x]),Md (s:=s) (h':=h2) (t':=tk+1) I hch kk (AG _) ?_,rfl,⟨_,x,rfl,hfr,rfl,λws hw=>?_⟩,⟨⟨u,by simpa using he2⟩,?_⟩,λc hm=>?_⟩
   .exact ⟨by show 2<=sizeLine;decide,[.int i tk,u],.cons ⟨tk,rfl⟩ (.cons ru .nil),⟨_,NT,rfl,⟨_,rfl⟩,rfl⟩⟩
   .cases isT with
    |true=>rw[I.tuple_inj hw sa];exact hx
    |false=>rw[I.list_inj hw sa];exact hx
   .cases isT with
    |true=>obtain ⟨o1,e1,r⟩:=(show h'.IsTupleIter it a (i+1)from st');exact ⟨o1,e2.extBut _ _ hei.symm e1,r⟩
    |false=>obtain ⟨o1,e1,r⟩:=(show h'.IsListIter it a (i+1)from st');exact ⟨o1,e2.extBut _ _ hei.symm e1,r⟩
   .have lt:c<s.heap.objs.size:=by
     simp only[AO,Cv,or_false]at hm;rcases hm with rfl|rfl
     .exact elt
     .exact ilt
    rw[zZ (Ap lt)];exact (hf c hm).1
  have hef:e∉[it,a]:=by simp only[AO,Cv,or_false,not_or];exact ⟨hei,hae.symm⟩
  cases isT with
  |true=>
   obtain ⟨its,rv,p1,z1⟩:=I.tuple sa;have st':s.heap.IsTupleIter it a i:=st;obtain ⟨o1,e1,_⟩:=id st';refine wpAny_pyNext_enum_itemD (YX (prog:=X.prog) (w:=X.w) (A:=X.A.in1) (I.ok.hd hc) it a hai its.toArray) he ⟨st',show s.heap.IsTuple a its.toArray from p1⟩ (by have:=rv.length;have:=(AI.mp hx).1;rw[AW];omega) hei hef λu h' tk hu ho hs hT _ hk=>?_;exact fin its u h' tk rv (by simpa using hu) ho hs.1 hT hk (AH e1)
  |false=>
   obtain ⟨its,rv,p1,z1⟩:=I.list sa;have st':s.heap.IsListIter it a i:=st;obtain ⟨o1,e1,_⟩:=id st';refine wpAny_pyNext_enum_itemD (Draws.list (prog:=X.prog) (w:=X.w) (A:=X.A.in1) (I.ok.hd hc) it a hai its.toArray) he ⟨st',p1.isList⟩ (by have:=rv.length;have:=(AI.mp hx).1;rw[AW];omega) hei hef λu h' tk hu ho hs hT _ hk=>?_;exact fin its u h' tk rv (by simpa using hu) ho hs.1 hT hk (AH e1)
 done:=by
  intro X hP hw hK hc i zB s Y H E I hf Z hg;subst hP hw hK;obtain ⟨⟨old,he⟩,st⟩:=Z;obtain ⟨xs,sa,hz⟩:=hg;have out:∀ h',Heap.ExtBut it s.heap h'->(none:Option Value)=none/\Inv X zB Y H { s with heap:=h' }:=λh' x=>⟨rfl,Mi (s:=s) (h':=h') (t':=s.toks) I hf λc o n q=>x c o (λm=>n (by simp[m])) q⟩;cases isT with
  |true=>
   obtain ⟨its,rv,p1,z1⟩:=I.tuple sa;refine NA he (λQ' E' hq=>Jh (I.ok.hd hc) (show s.heap.IsTupleIter it a i from st) (show s.heap.IsTuple a its.toArray from p1) (by have:=rv.length;simp;omega) hq) out
  |false=>
   obtain ⟨its,rv,p1,z1⟩:=I.list sa;refine NA he (λQ' E' hq=>wpAny_nextOf_list_end (I.ok.hd hc) (show s.heap.IsListIter it a i from st) p1.isList (by have:=rv.length;simp;omega) hq) out
 self:=λ_ _ _ _ _ Z h=>let ⟨⟨_,he⟩,_⟩:=Z;wpAny_pyIter_enum he h
section
variable {X:Cx} {a:Expr} {es:Yi} {ek:Nat} {ep p pos:Pos}
def Vj {te:TE} (hg:Gl X "enumerate") (hm:X.mg "enumerate" = none) (ha:PE X a te) (hs:starEach [a] X.env=(false,eval a X.env)::starEach [] X.env:=by rfl) (hpl:(backTo pos (starEach [] X.env)).any (·.1)=false:=by rfl) :
  PI X (.Tuple es ek ep) (.Call (.Name "enumerate" p) [a] [] pos) (λY H R=>te Y H λx H1=>∃ l,x=.ref l/\((∃ xs,SqT X.K H1 l xs)/\R (FN X.K true l) H1\/(∃ xs,SqL X.K H1 l xs)/\R (FN X.K false l) H1)):=by
 intro zB s Y H R I h;refine wpAny_Call_Name_kw (GU I hg hm (by rfl) ?_ (by decide) (by decide));refine callWith_type1 ?_ hs hpl;rw[hs];show wpAny _ _ (spliced ((false,eval a X.env)::backTo pos (starEach [] X.env))) _ _ s;refine Calls.spliced_cons (thn (ha zB s Y H _ I h) λu s1 ⟨x,H1,I1,r1,l,hx,q⟩=>Calls.spliced_nil ?_);subst hx;cases r1
 have out:∀ (isT:Bool) (h':Heap),l<s1.heap.objs.size->IsEnum h' (s1.heap.objs.size+1) s1.heap.objs.size 0 .none->Jd isT s1.heap.objs.size l 0 h'->(∀ c o,s1.heap.get? c=some o->h'.get? c=some o)->R (FN X.K isT l) H1 ->
   wpAny (model X.prog X.w) X.A (pyIter (.ref (s1.heap.objs.size+1))) (PIE X zB Y (.Tuple es ek ep) R) X.xe { s1 with heap:=h' }:=by
  intro isT h' hl he st kp q;refine wpAny_pyIter_enum (s:={ s1 with heap:=h' }) he ?_;refine ⟨s1.heap.objs.size+1,[s1.heap.objs.size+1,s1.heap.objs.size],_,_,H1,rfl,I1.kept (t':=s1.toks) kp,fX (isT:=isT) (Nat.ne_of_gt (E1 _)) (Ap (EH hl)) (Ap hl),⟨⟨_,he⟩,st⟩,λc hc=>?_,q⟩;have ge:s1.heap.objs.size<=c:=by
   simp only[AO,Cv,or_false]at hc;rcases hc with rfl|rfl
   .exact Nat.le_succ _
   .exact AG _
  exact I1.fpOk ge (I1.hok.fresh ge)
 rcases q with ⟨⟨xs,hq⟩,q⟩|⟨⟨xs,hq⟩,q⟩
 .obtain ⟨its,rv,p1,_⟩:=I1.tuple hq;have hl:l<s1.heap.objs.size:=by obtain ⟨_,e,_⟩:=p1;exact AH e
  exact ZT (show s1.heap.IsTuple l its.toArray from p1) λh' he st kp=>out true h' hl he st kp q
 .obtain ⟨its,rv,p1,_⟩:=I1.list hq;have hl:l<s1.heap.objs.size:=by obtain ⟨_,_,e,_⟩:=p1;exact AH e
  exact call_enumerate_list p1.isList λh' he st _ kp=>out false h' hl he st kp q
noncomputable def Dp (xs:List D):List D:=((List.range xs.length).zip xs).map λq=>D.tup [.int (q.1:Nat),q.2]
def T7 {xs:List D} {i:Nat} {d:D} (h:(Dp xs)[i]?=some d):∃ x,xs[i]?=some x/\d=.tup [.int (i:Nat),x]:=by
 unfold Dp at h;rw[Af]at h;cases e:((List.range xs.length).zip xs)[i]? with
 |none=>rw[e]at h;cases h
 |some pr=>
  rw[e]at h;cases h;obtain ⟨f1,f2⟩:=List.getElem?_zip_eq_some.mp e;have hi:i<xs.length:=(AI.mp f2).1;rw[List.getElem?_range hi]at f1;cases f1;exact ⟨pr.2,f2,rfl⟩
def Zx (xs:List D):(Dp xs).length=xs.length:=by unfold Dp;simp
noncomputable def Fh (f:FE):FI:=λY M=>match f Y M with
 |some (x,M1)=>match Az M1 x with
  |some xs=>some (Dp xs,HR x xs,M1)
  |none=>none
 |none=>none
def Xf {g:FE} (hg:Gl X "enumerate") (hm:X.mg "enumerate" = none) (h:QE X a g) (hs:starEach [a] X.env=(false,eval a X.env)::starEach [] X.env:=by rfl) (hpl:(backTo pos (starEach [] X.env)).any (·.1)=false:=by rfl) :
  QI X (.Tuple es ek ep) (.Call (.Name "enumerate" p) [a] [] pos) (Fh g):=.mk <| PI.imp (Vj hg hm h.un hs hpl) λτ H R zz=>by
 obtain ⟨L,Y,M,xs,gd,M',c,rs,hf,q⟩:=zz;unfold Fh at hf;split at hf
 .rename_i y M1 e1;split at hf
  .rename_i zs e2;cases hf;refine ⟨L,Y,M,_,_,c,rs,e1,λL1 H1 v s1 c1 r1=>?_⟩
   have step:∀ (isT:Bool) (l:Yt) (L2:Yg) (H2:Hp) (vs:List V),(if isT then SqT X.K H2 l vs else SqL X.K H2 l vs)->zK L2 H2 zs vs ->
     (∀ (i:Nat) d,(Dp zs)[i]?=some d->(FN X.K isT l).go i H2 /\ ∀ v H'',(FN X.K isT l).yld i H2 v H''->(∀ a o,H2 a=some o->H'' a=some o)/\Rep L2 H'' d v)/\(FN X.K isT l).stop (Dp zs).length H2:=by
    intro isT l L2 H2 vs hq r;refine ⟨λi d hd=>?_,⟨vs,hq,by rw[Zx,r.length];exact AG _⟩⟩;obtain ⟨x,hx,rfl⟩:=T7 hd;obtain ⟨u,hu,ru⟩:=r.get hx;refine ⟨⟨vs,u,hq,hu⟩,λv H3 hy=>?_⟩;obtain ⟨T,x',rfl,hT,rfl,hxx⟩:=hy;have ex:=hxx vs hq;rw[hu]at ex;cases ex;exact ⟨λa o e=>by rw[zZ (DT e hT)];exact e,Rep.newTup hT (.cons Cs (.cons ru .nil))⟩
   unfold Az at e2;cases t:Cu y with
   |some ws=>
    rw[t]at e2;cases e2;obtain ⟨a,vs,rfl,e3,r3⟩:=Fi r1 t;refine ⟨a,rfl,.inl ⟨⟨vs,.of e3⟩,q L1 H1 _ s1 c1 λL2 H2 M2 s2 c2 _=>?_⟩⟩;exact step true a L2 H2 vs (.of (s2.tup a vs e3)) (r3.stp s2)
   |none=>
    rw[t]at e2;dsimp only at e2;obtain ⟨a,vs,rfl,e3,r3⟩:=Et c1 r1 e2;refine ⟨a,rfl,.inr ⟨⟨vs,.inl e3⟩,q L1 H1 _ s1 c1 λL2 H2 M2 s2 c2 hgd=>?_⟩⟩;have key:∃ vs',SqL X.K H2 a vs'/\zK L2 H2 zs vs':=by
     cases y with
     |fl ys=>
      cases e2;obtain ⟨p',vs',hp',_,e5,e6,r6⟩:=r1;cases hp';exact ⟨vs',.of (s2.old _ _ e5 e6 (by intro _ z;cases z)),r6.stp s2⟩
     |dat d=>
      cases d with
      |ref n=>
       unfold zk Rep at r1;obtain ⟨a',ha',e5⟩:=r1;cases ha';have e6:L2[n]?=some a:=by obtain ⟨N,hN⟩:=s2.pre;rw[hN];exact F8 e5
       rcases hgd with z|z
       .obtain ⟨vs',e7,r7⟩:=c2.obj n a _ e6 z;exact ⟨vs',.of e7,r7⟩
       .obtain ⟨o,vs',e7,r7⟩:=c2.obj n a _ e6 z;exact ⟨vs',.inl (.inr ⟨o,e7⟩),r7⟩
      |_=>cases e2
    obtain ⟨vs',hq,r7⟩:=key;exact step false a L2 H2 vs' hq r7
  .cases hf
 .cases hf
end
section
variable {κ:Type} [DecidableEq κ]
noncomputable def DQ (kf:D->Option κ) (kvs:List (D × D)) (k:κ):Option D:=(kvs.find? λp=>decide (kf p.1=some k)).map (·.2)
noncomputable def Fg (kf:D->Option κ) (kvs:List (D × D)) (k:κ) (kd v:D):List (D × D) :=
 if (kvs.any λp=>decide (kf p.1=some k))=true then kvs.map λp=>if kf p.1=some k then (p.1,v) else p else kvs++[(kd,v)]
theorem ID (k:κ):∀ {kvs:List (D × D)} {vs:List (κ × V)},Aa kf L H kvs vs->(DQ kf kvs k=none/\B0 vs k=none) \/ ∃ d v,DQ kf kvs k=some d/\B0 vs k=some v/\Rep L H d v
 |[],vs,h=>by unfold Aa at h;subst h;exact .inl ⟨rfl,rfl⟩
 |p::r,vs,h=>by
  obtain ⟨k',v,r',rfl,e,h1,h2⟩:=h;by_cases q:k'=k
  .subst q;exact .inr ⟨p.2,v,by unfold DQ;rw[Ez,e];simp,by rw[Iy rfl],h1⟩
  .have e1:DQ kf (p::r) k=DQ kf r k:=by unfold DQ;rw[Ez,e];simp[q]
   rw[e1,JD q];exact ID k h2
theorem N9 (k:κ):∀ {kvs:List (D × D)} {vs:List (κ × V)},Aa kf L H kvs vs->(kvs.any λp=>decide (kf p.1=some k))=(vs.any λkv=>decide (kv.1=k))
 |[],vs,h=>by unfold Aa at h;subst h;rfl
 |p::r,vs,h=>by
  obtain ⟨k',v,r',rfl,e,h1,h2⟩:=h;rw[List.any_cons,List.any_cons,N9 k h2,e];simp
theorem LH (k:κ) (hd:Rep L H d u):∀ {kvs:List (D × D)} {vs:List (κ × V)},Aa kf L H kvs vs->Aa kf L H (kvs.map λp=>if kf p.1=some k then (p.1,d) else p) (vs.map λkv=>if kv.1=k then (kv.1,u) else kv)
 |[],vs,h=>by unfold Aa at h;subst h;rfl
 |p::r,vs,h=>by
  obtain ⟨k',v,r',rfl,e,h1,h2⟩:=h;rw[AY,AY];by_cases q:k'=k
  .subst q;rw[AB e,AB rfl];exact ⟨k',u,_,rfl,e,hd,LH k' hd h2⟩
  .rw[AD (by rw[e];simpa using q),AD q];exact ⟨k',v,_,rfl,e,h1,LH k hd h2⟩
theorem OF (hk:kf kd=some k) (hd:Rep L H d u):∀ {kvs:List (D × D)} {vs:List (κ × V)},Aa kf L H kvs vs->Aa kf L H (kvs++[(kd,d)]) (vs++[(k,u)])
 |[],vs,h=>by unfold Aa at h;subst h;exact ⟨k,u,[],rfl,hk,hd,rfl⟩
 |p::r,vs,h=>by
  obtain ⟨k',v,r',rfl,e,h1,h2⟩:=h;exact ⟨k',v,_,rfl,e,h1,OF hk hd h2⟩
def Mg {kf:D->Option κ} {L:Yg} {H:Hp} {k:κ} {kd d:D} {u:V} (hk:kf kd=some k) (hd:Rep L H d u) {kvs:List (D × D)} {vs:List (κ × V)} (h:Aa kf L H kvs vs):Aa kf L H (Fg kf kvs k kd d) (BO vs k u):=by
 unfold Fg BO;rw[N9 k h];split
 .exact LH k hd h
 .exact OF hk hd h
end
theorem QB:∀ {ds:List D} {vs:List V} {ks:List Key},zK L H ds vs->DU ds=some ks->vs=ks.map kV
 |[],vs,ks,h,e=>by cases e;unfold zK at h;exact h
 |d::ds,vs,ks,h,e=>by
  unfold zK at h;obtain ⟨v,r,rfl,h1,h2⟩:=h;unfold DU at e;cases e1:Bz d with
  |none=>rw[e1]at e;cases e
  |some k=>
   cases e2:DU ds with
   |none=>rw[e1,e2]at e;cases e
   |some ks'=>
    rw[e1,e2]at e;cases e;rw[Ji h1 e1,QB h2 e2];rfl
def LY (h:Rep L H d v) (e:tkD d=some ks):∃ b,v=.ref b/\H b=some (.tup (ks.map kV)):=by
 cases d with
 |tup ds=>
  unfold Rep at h;obtain ⟨a,vs,rfl,e1,r⟩:=h;exact ⟨a,rfl,by rw[e1,QB r e]⟩
 |_=>cases e
noncomputable def Es (M:Mem) (x:EV) (k:D):Option (Option D):=match x with
 |.dat (.ref n)=>match M[n]? with
  |some (.dict kvs)=>match Bz k with
   |some kk=>some (DQ Bz kvs kk)
   |none=>none
  |some (.dicT kvs)=>match tkD k with
   |some kk=>some (DQ tkD kvs kk)
   |none=>none
  |some (.froK kvs)=>match Bz k with
   |some kk=>some (DQ Bz kvs kk)
   |none=>none
  |some (.froT kvs)=>match tkD k with
   |some kk=>some (DQ tkD kvs kk)
   |none=>none
  |_=>none
 |_=>none
def P5 (L:Yg) (H:Hp):Option D->Option V->Prop
 |none,o=>o=none
 |some d,o=>∃ v,o=some v/\Rep L H d v
def JB {K:Yb} {L:Yg} {M:Mem} {H H0:Hp} {x:EV} {v w:V} {k:D} {o:Option D} (c:Cor K L M H) (rx:zk H0 L H x v) (rk:Rep L H k w) (e:Es M x k=some o):∃ a ov,v=.ref a/\Bw H a w ov/\P5 L H o ov:=by
 cases x with
 |fl xs=>cases e
 |dat d=>
  cases d with
  |ref n=>
   unfold zk Rep at rx;obtain ⟨a,rfl,ea⟩:=rx;unfold Es at e;dsimp only at e;cases q:M[n]? with
   |none=>rw[q]at e;cases e
   |some m=>
    rw[q]at e;have z:=c.obj n a m ea q;cases m with
    |dict kvs=>
     dsimp only at e;cases e2:Bz k with
     |none=>rw[e2]at e;cases e
     |some kk=>
      rw[e2]at e;cases e;obtain ⟨vs,e3,r⟩:=z;refine ⟨a,B0 vs kk,rfl,?_,?_⟩
      .rw[Ji rk e2];exact Bw.k e3
      .rcases ID kk r with ⟨h1,h2⟩|⟨d,v,h1,h2,h3⟩
       .rw[h1,h2];rfl
       .rw[h1,h2];exact ⟨v,rfl,h3⟩
    |dicT kvs=>
     dsimp only at e;cases e2:tkD k with
     |none=>rw[e2]at e;cases e
     |some kk=>
      rw[e2]at e;cases e;obtain ⟨vs,e3,r⟩:=z;obtain ⟨b,rfl,eb⟩:=LY rk e2;refine ⟨a,B0 vs kk,rfl,Bw.t e3 eb,?_⟩;rcases ID kk r with ⟨h1,h2⟩|⟨d,v,h1,h2,h3⟩
      .rw[h1,h2];rfl
      .rw[h1,h2];exact ⟨v,rfl,h3⟩
    |froK kvs=>
     dsimp only at e;cases e2:Bz k with
     |none=>rw[e2]at e;cases e
     |some kk=>
      rw[e2]at e;cases e;obtain ⟨ob,vs,e3,r⟩:=z;refine ⟨a,B0 vs kk,rfl,.inl ⟨vs,kk,.inr ⟨ob,e3⟩,Ji rk e2,rfl⟩,?_⟩;rcases ID kk r with ⟨h1,h2⟩|⟨d,v,h1,h2,h3⟩
      .rw[h1,h2];rfl
      .rw[h1,h2];exact ⟨v,rfl,h3⟩
    |froT kvs=>
     dsimp only at e;cases e2:tkD k with
     |none=>rw[e2]at e;cases e
     |some kk=>
      rw[e2]at e;cases e;obtain ⟨ob,vs,e3,r⟩:=z;obtain ⟨b,rfl,eb⟩:=LY rk e2;refine ⟨a,B0 vs kk,rfl,.inr ⟨vs,kk,b,.inr ⟨ob,e3⟩,rfl,eb,rfl⟩,?_⟩;rcases ID kk r with ⟨h1,h2⟩|⟨d,v,h1,h2,h3⟩
      .rw[h1,h2];rfl
      .rw[h1,h2];exact ⟨v,rfl,h3⟩
    |_=>cases e
  |_=>cases e
noncomputable def D5 (M:Mem) (n:Nat) (k v:D):Option Mem:=match M[n]? with
 |some (.dict kvs)=>match Bz k with
  |some kk=>if kvs.length<sizeLine then some (M.set n (.dict (Fg Bz kvs kk k v))) else none
  |none=>none
 |some (.dicT kvs)=>match tkD k with
  |some kk=>if kvs.length<sizeLine then some (M.set n (.dicT (Fg tkD kvs kk k v))) else none
  |none=>none
 |_=>none
def Pw {K:Yb} {L:Yg} {M M':Mem} {H:Hp} {n:Nat} {a:Yt} {k v:D} {w u:V} (c:Cor K L M H) (ea:L[n]?=some a) (rk:Rep L H k w) (rv:Rep L H v u) (e:D5 M n k v=some M'):∃ H',DW H a w u H'/\Cor K L M' H'/\Stp L H L H':=by
 unfold D5 at e;cases q:M[n]? with
 |none=>rw[q]at e;cases e
 |some m=>
  rw[q]at e;have z:=c.obj n a m ea q;cases m with
  |dict kvs=>
   dsimp only at e;cases e2:Bz k with
   |none=>rw[e2]at e;cases e
   |some kk=>
    rw[e2]at e;dsimp only at e;split at e
    .rename_i hl;cases e;obtain ⟨vs,e3,r⟩:=z;obtain ⟨c3,s3⟩:=c.put (m:=.dict (Fg Bz kvs kk k v)) (o':=.dK (BO vs kk u)) ea e3 (λ_ z=>by cases z) (λ_ _ z=>by cases z) λs3=>⟨_,Ct,(Mg e2 rv r).stp s3⟩;refine ⟨_,?_,c3,s3⟩;rw[Ji rk e2];exact DW.k e3 (by rw[r.length];exact hl)
    .cases e
  |dicT kvs=>
   dsimp only at e;cases e2:tkD k with
   |none=>rw[e2]at e;cases e
   |some kk=>
    rw[e2]at e;dsimp only at e;split at e
    .rename_i hl;cases e;obtain ⟨vs,e3,r⟩:=z;obtain ⟨b,rfl,eb⟩:=LY rk e2;obtain ⟨c3,s3⟩:=c.put (m:=.dicT (Fg tkD kvs kk k v)) (o':=.dT (BO vs kk u)) ea e3 (λ_ z=>by cases z) (λ_ _ z=>by cases z) λs3=>⟨_,Ct,(Mg e2 rv r).stp s3⟩;exact ⟨_,DW.t e3 eb (by rw[r.length];exact hl),c3,s3⟩
    .cases e
  |_=>cases e
section
variable {X:Cx} {a b e o i value:Expr} {pos pos' apos cpos:Pos} {f g h:FE}
noncomputable def A9:K2:=λx y M=>match y with
 |.dat k=>match Es M x k with
  |some (some d)=>some (.dat d,M)
  |_=>none
 |_=>none
def TH {K:Yb}:BL K (λx y H Q=>∃ a v,x=.ref a/\Bw H a y (some v)/\Q v H) A9:=by
 intro L M M' H H0 x y d v w Q c rx ry hk q;unfold A9 at hk;split at hk
 .rename_i k;split at hk
  .rename_i d' e1;cases hk;obtain ⟨a,ov,rfl,h1,h2⟩:=JB c rx ry e1;obtain ⟨u,rfl,r⟩:=h2;exact ⟨a,u,rfl,h1,q L H u (.refl L H) c r⟩
  .cases hk
 .cases hk
def UN (hu:X.A.units+1<cLine) (h1:QE X o f) (h2:QE X i g) (hs:LJ i:=by intro _ _;rfl):QE X (.Subscript o i pos) (fOp A9 f g):=.mk <| PE.imp (YK hu h1.un h2.un hs) λ_ _ _ h=>Fu TH h
noncomputable def Ci (neg:Bool):K2:=λx y M=>match x with
  |.dat k=>match Es M y k with
    |some o=>some (.dat (.bl (if neg then !o.isSome else o.isSome)),M)
    |none=>none
  |_=>none
def Nv {o:Option D} {ov:Option V} (h:P5 L H o ov):ov.isSome=o.isSome:=by
  cases o with
  | none => have h' : ov = none := h
            rw[h'];rfl
  |some d=>obtain ⟨v,rfl,_⟩:=h;rfl
def WO {K:Yb}:BL K (λy x H Q=>∃ a o,x=.ref a/\Bw H a y o/\Q (.bl o.isSome) H) (Ci false):=by
 intro L M M' H H0 x y d v w Q c rx ry hk q;unfold Ci at hk;split at hk
 .rename_i k;split at hk
  .rename_i o e1;cases hk;obtain ⟨a,ov,rfl,h1,h2⟩:=JB c ry rx e1;refine ⟨a,ov,rfl,h1,?_⟩;rw[Nv h2];exact q L H _ (.refl L H) c (Ce (L:=L) (H:=H))
  .cases hk
 .cases hk
def Ve {K:Yb}:BL K (λy x H Q=>∃ a o,x=.ref a/\Bw H a y o/\Q (.bl (!o.isSome)) H) (Ci true):=by
 intro L M M' H H0 x y d v w Q c rx ry hk q;unfold Ci at hk;split at hk
 .rename_i k;split at hk
  .rename_i o e1;cases hk;obtain ⟨a,ov,rfl,h1,h2⟩:=JB c ry rx e1;refine ⟨a,ov,rfl,h1,?_⟩;rw[Nv h2];exact q L H _ (.refl L H) c (Ce (L:=L) (H:=H))
  .cases hk
 .cases hk
def VC (hu:X.A.units+1<cLine) (h1:QE X a f) (h2:QE X b g) (hm:behindInMarks .In b=false:=by rfl):QE X (.Compare a [.In] [b] pos) (fOp (Ci false) f g):=.mk <| PE.imp (SI (XE hu h1.un h2.un) hm) λ_ _ _ h=>Fu WO h
def Zo (hu:X.A.units+1<cLine) (h1:QE X a f) (h2:QE X b g) (hm:behindInMarks .NotIn b=false:=by rfl):QT X (.Compare a [.NotIn] [b] pos) (tst (fOp (Ci true) f g)):=.mk <| PT.imp (cV (Vb hu h1.un h2.un) hm) λ_ _ _ h=>Qf (λ_ _ _ z=>Fu Ve z) (MU h)
noncomputable def Co (fv fo fi:FE):FS:=λY M=>match toD fv Y M with
 |some (v,M1)=>match toD fo Y M1 with
  |some (.ref n,M2)=>match toD fi Y M2 with
   |some (k,M3)=>match D5 M3 n k v with
    |some M4=>some (.nx,Y,M4)
    |none=>none
   |none=>none
  |_=>none
 |none=>none
def UO (hu:X.A.units+1<cLine) (hv:QE X value f) (ho:QE X o g) (hi:QE X i h) (hs:swapsWith value (some (.Subscript o i pos')) pos.line X.env=pure false:=by rfl):QS X (.Assign [.Subscript o i pos'] value pos) (Co f g h) :=
 .mk <| PS.imp (X7 hu (Bt ho).un (Bt hi).un (Bt hv).un hs) λE τ H zz=>by
  obtain ⟨L,Y,M,out,Y',M',c,rs,hf,q⟩:=zz;unfold Co at hf;split at hf
  .rename_i v M1 e1;split at hf
   .rename_i n M2 e2;split at hf
    .rename_i k M3 e3;split at hf
     .rename_i M4 e4;cases hf;refine (mkD c rs e1 (λL1 H1 u s1 c1 r1=>(mkD c1 (rs.stp s1) e2 (λL2 H2 y s2 c2 r2=>(mkD c2 ((rs.stp s1).stp s2) e3 (λL3 H3 z s3 c3 r3=>?_))))));unfold Rep at r2;obtain ⟨a,rfl,ea⟩:=r2;have ea3:L3[n]?=some a:=by obtain ⟨N,hN⟩:=s3.pre;rw[hN];exact F8 ea
      obtain ⟨H4,h1,h2,h3⟩:=Pw c3 ea3 r3 ((r1.stp s2).stp s3) e4;exact ⟨a,H4,rfl,h1,q L3 H4 (((s1.trans s2).trans s3).trans h3) h2 τ ((((rs.stp s1).stp s2).stp s3).stp h3)⟩
     .cases hf
    .cases hf
   .cases hf
  .cases hf
noncomputable def Ew (fo fi fx:FE):FE:=λY M=>match toD fo Y M with
 |some (.ref n,M1)=>match M1[n]? with
  |some (.dict _)|some (.dicT _)=>match toD fi Y M1 with
   |some (k,M2)=>match toD fx Y M2 with
    |some (x,M3)=>match Es M3 (.dat (.ref n)) k with
     |some o=>some (.dat (o.getD x),M3)
     |none=>none
    |none=>none
   |none=>none
  |_=>none
 |_=>none
def Rh (hu:X.A.units+1<cLine) (ho:QE X o f) (hi:QE X i g) (hx:QE X e h) (m:M2 X o "get" apos i e cpos):QE X (.Call (.Attribute o "get" apos) [i,e] [] cpos) (Ew f g h) :=
 .mk <| PE.imp (T6 hu (Bt ho).un (Bt hi).un (Bt hx).un m) λτ H Q zz=>by
  obtain ⟨L,Y,M,d,M',c,rs,hf,q⟩:=zz
  have key:∀ n M1,toD f Y M=some (.ref n,M1)->(∃ kvs,M1[n]?=some (.dict kvs)\/M1[n]?=some (.dicT kvs))->(match toD g Y M1 with
   |some (k,M2)=>match toD h Y M2 with
    |some (x,M3)=>match Es M3 (.dat (.ref n)) k with
     |some o=>some (EV.dat (o.getD x),M3)
     |none=>none
    |none=>none
   |none=>none)=some (d,M')->O8 (trD X.K (toD f)) (trD X.K (toD g)) (trD X.K (toD h)) τ H Q:=by
   intro n M1 e1 hd hf;split at hf
   .rename_i k M2 e2;split at hf
    .rename_i x M3 e3;split at hf
     .rename_i ov e4;cases hf;refine (mkD c rs e1 (λL1 H1 u s1 c1 r1=>?_));unfold Rep at r1;obtain ⟨a,rfl,ea⟩:=r1;refine ⟨a,rfl,?_,L1,Y,M1,_,_,c1,rs.stp s1,e2,λL2 H2 y s2 c2 r2=>(mkD c2 ((rs.stp s1).stp s2) e3 (λL3 H3 z s3 c3 r3=>?_))⟩
      .obtain ⟨kvs,hk|hk⟩:=hd
       .obtain ⟨vs,e5,_⟩:=c1.obj n a _ ea hk;exact .inl ⟨vs,.inl e5⟩
       .obtain ⟨vs,e5,_⟩:=c1.obj n a _ ea hk;exact .inr ⟨vs,.inl e5⟩
      .have ra:zk H L3 H3 (.dat (.ref n)) (.ref a):=by
        unfold zk Rep;exact ⟨a,rfl,by obtain ⟨N,hN⟩:=(s2.trans s3).pre;rw[hN];exact F8 ea⟩
       obtain ⟨a',o',e6,h1,h2⟩:=JB c3 ra (r2.stp s3) e4;cases e6;refine ⟨o',h1,?_⟩;cases ov with
       |none=>
        have h':o'=none:=h2;subst h';exact q L3 H3 _ ((s1.trans s2).trans s3) c3 r3
       |some dd=>
        obtain ⟨v,rfl,rv⟩:=h2;exact q L3 H3 _ ((s1.trans s2).trans s3) c3 rv
     .cases hf
    .cases hf
   .cases hf
  unfold Ew at hf;split at hf
  .rename_i n M1 e1;split at hf
   .rename_i kvs e5;exact key n M1 e1 ⟨kvs,.inl e5⟩ hf
   .rename_i kvs e5;exact key n M1 e1 ⟨kvs,.inr e5⟩ hf
   .cases hf
  .cases hf
end
end L3
namespace L2
section
variable {X:Cx} {zB:Yd} {Y:St} {H:Hp} {s:Yl}
def YL (hu:A.units+1<cLine) (I:Inv X zB Y H s) (g:DW H a y v H') (ry:zm y u) (rv:zm v r) (h:∀ s',Inv X zB Y H' s'->Heap.SameBut a s.heap s'.heap->Q () s') :
  wpAny (model X.prog X.w) A (dictSet a u r) Q E s:=by
 rcases g with ⟨kvs,k,e,ey,l,eH⟩|⟨kvs,k,b,e,ey,eb,l,eH⟩
 .subst ey eH;obtain ⟨z,hd,vs,rel,dd⟩:=MV I.hok e;have hz:vs.length<=sizeLine:=by rw[<-rel.length];exact z
  have hl:(BO kvs k v).length<=sizeLine:=by have:=Ht kvs k v;omega
  refine wpAny_dictSet_pairs (hsz:=hz) (Fj ry) dd λh' dd' hs=>h _ ?_ hs;have he:∃ q,h'.get? a=some q:=let ⟨q,_,_,hq,_⟩:=dd';⟨q,hq⟩;exact HV I (by rw[e];exact True.intro) hs he (MN hl hd (rel.put k rv) dd')
 .subst ey eH;cases (show u=Value.ref b from ry);obtain ⟨z,hd,xs,rel,dd⟩:=PQ I.hok e;have hz:xs.length<=sizeLine:=by rw[<-Paired.length rel];exact z
  have hl:(BO kvs k v).length<=sizeLine:=by have:=Ht kvs k v;omega
  refine wpAny_dictSet_heap (hsz:=hz) (show (tupleKind (B8 X.prog X.w)).room A from Nat.lt_of_succ_lt hu) (GO I.hok eb) dd λh' dd' hs=>h _ ?_ hs;obtain ⟨q,es,ep,hq,h2,h3,h4,_,h5⟩:=dd';refine HV I (by rw[e];exact True.intro) hs ⟨q,hq⟩ ⟨hl,hd,_,(rel.put k eb rv).keeps λc ys ec=>?_,q,es,ep,hq,h2,h3,h4,h5⟩;rw[zZ (GW ec e (λz=>nomatch z))];exact ec
end
end L2
namespace L3
open L2
noncomputable def BX:Nat->D->Bool
 |0,.int _=>true
 |n+1,.tup ds=>ds.all (BX n)
 |_,_=>false
noncomputable def BP:Nat->D->D->Bool
 |0,.int i,.int j=>decide (i=j)
 |n+1,.tup xs,.tup ys=>xs.length==ys.length&&(xs.zip ys).all λq=>BP n q.1 q.2
 |_,_,_=>false
theorem MA:∀ (n:Nat) (x:D),BX n x=true->BP n x x=true
 |0,.int i,_=>by simp[BP]
 |n+1,.tup xs,h=>by
  unfold BX at h;unfold BP;rw[Ae]at h;simp only[beq_self_eq_true,Bool.true_and];rw[Ae];intro q hq;have:q.1=q.2:=by
   obtain ⟨i,hi,e⟩:=E6 hq;rw[List.getElem_zip]at e;rw[<-e]
  rw[<-this];exact MA n _ (h q.1 (List.of_mem_zip hq).1)
 |0,.non,h=>by cases h
 |0,.bl _,h=>by cases h
 |0,.str _,h=>by cases h
 |0,.tup _,h=>by cases h
 |0,.ref _,h=>by cases h
 |n+1,.non,h=>by cases h
 |n+1,.bl _,h=>by cases h
 |n+1,.int _,h=>by cases h
 |n+1,.str _,h=>by cases h
 |n+1,.ref _,h=>by cases h
def RK:∀ (n:Nat) (x y:D),BX n x=true->BX n y=true->BP n x y=true->x=y:=by
 intro n;induction n with
 |zero=>
  intro x y hx hy h;cases x <;> first|cases hx|skip
  cases y <;> first|cases hy|skip
  unfold BP at h;rw[CG h]
 |succ n ih=>
  intro x y hx hy h;cases x <;> first|cases hx|skip
  cases y <;> first|cases hy|skip
  rename_i xs ys;unfold BX at hx hy;unfold BP at h;rw[Ae]at hx hy;rw[Am,beq_iff_eq,Ae]at h;congr 1;apply List.ext_getElem h.1;intro i h1 h2;refine ih _ _ (hx _ (Ab h1)) (hy _ (Ab h2)) ?_;exact h.2 (xs[i],ys[i]) (by
   have hz:i<(xs.zip ys).length:=by rw[List.length_zip];omega
   have:=Ab hz;rw[List.getElem_zip]at this;exact this)
def NU:∀ (n:Nat) (x y:D) (v:V),BX n x=true->BX n y=true->Rep L H x v->Rep L H y v->x=y:=by
 intro n;induction n with
 |zero=>
  intro x y v hx hy rx ry;cases x <;> first|cases hx|skip
  cases y <;> first|cases hy|skip
  unfold Rep at rx ry;rw[rx]at ry;cases ry;rfl
 |succ n ih=>
  intro x y v hx hy rx ry;cases x <;> first|cases hx|skip
  cases y <;> first|cases hy|skip
  rename_i xs ys;unfold BX at hx hy;rw[Ae]at hx hy;unfold Rep at rx ry;obtain ⟨a,vs,rfl,e,r⟩:=rx;obtain ⟨a',vs',e1,e2,r'⟩:=ry;cases e1;rw[e]at e2;cases e2;congr 1;have hl:xs.length=ys.length:=by rw[<-r.length,r'.length]
  apply List.ext_getElem hl;intro i h1 h2;obtain ⟨u,hu,ru⟩:=r.get (AL h1);obtain ⟨u',hu',ru'⟩:=r'.get (AL h2);rw[hu]at hu';cases hu';exact ih _ _ u (hx _ (Ab h1)) (hy _ (Ab h2)) ru ru'
section
variable {X:Cx} {zB:Yd} {Y:L2.St} {H:Hp} {s:Yl} {L:Yg}
def a8 {xs ys:List D} (f:D->D->Bool) (h:xs.length=ys.length):((List.range xs.length).all λj=>f (xs.getD j .non) (ys.getD j .non))=(xs.zip ys).all λq=>f q.1 q.2:=by
  rw[En,Ae,Ae];constructor
  . intro hh q hq
    obtain ⟨i,hi,e⟩:=E6 hq;rw[List.getElem_zip]at e;rw[List.length_zip]at hi;have:=hh i (by simp;omega);rw[<-e];simpa [ES,show i<xs.length by omega,show i<ys.length by omega] using this
  . intro hh i hi
    have h1:i<xs.length:=by simpa using hi
    have h2:i<ys.length:=by omega
    have hz:i<(xs.zip ys).length:=by rw[List.length_zip];omega
    have:=hh (xs.zip ys)[i] (Ab hz);rw[List.getElem_zip]at this;simpa [ES,h1,h2] using this
def WB (I : Inv X zB Y H s) : ∀ (n : Nat) (A : Around) (x y : D) (v w : V) (u u' : Value), A.units + n < cLine -> BX n x = true -> BX n y = true -> Rep L H x v -> Rep L H y w -> zm v u -> zm w u' -> SeqAt.EqAt A s u u' (BP n x y) := by
  intro n;induction n with
  |zero=>
    intro A x y v w u u' hu hx hy rx ry ru ru';cases x <;> first|cases hx|skip
    cases y <;> first|cases hy|skip
    unfold Rep at rx ry;subst rx;subst ry;obtain ⟨t,rfl⟩:=ru;obtain ⟨t',rfl⟩:=ru';have:=SeqAt.EqAt.int_int (A:=A) (s:=s) ‹Int› t ‹Int› t';unfold BP;rename_i i j;have h:=SeqAt.EqAt.int_int (A:=A) (s:=s) i t j t';have e:(i==j)=decide (i=j):=by by_cases q:i=j <;> simp[q]
    rw[e]at h;exact h
  | succ n ih =>
    intro A x y v w u u' hu hx hy rx ry ru ru';cases x <;> first|cases hx|skip
    cases y <;> first|cases hy|skip
    rename_i xs ys;have hx':=hx;have hy':=hy;have rx':=rx;have ry':=ry;unfold BX at hx hy;rw[Ae]at hx hy;unfold Rep at rx ry;obtain ⟨a,vs,rfl,e,r⟩:=rx;obtain ⟨b,ws,rfl,e2,r2⟩:=ry;cases ru;cases ru';by_cases hab:a=b
    . subst hab
      have:=NU (n+1) _ _ _ hx' hy' rx' ry';rw[this,MA (n+1) _ hy'];exact SeqAt.EqAt.same _
    · refine SeqAt.EqAt.of_refs hab ?_
      obtain ⟨its,rv,p1,_⟩:=I.tuple (.of e);obtain ⟨its2,rv2,p2,_⟩:=I.tuple (.of e2);have l1:its.toArray.size=xs.length:=by rw[AW,<-rv.length,r.length]
      have l2:its2.toArray.size=ys.length:=by rw[AW,<-rv2.length,r2.length]
      have key := SeqAt.RcAt.tuples (A := A) (s := s) (l := a) (b := b) (items := its.toArray) (items2 := its2.toArray) (e := fun j => BP n (xs.getD j .non) (ys.getD j .non)) p1 p2 (by omega) (fun j h1 h2 => by
        have j1:j<xs.length:=by omega
        have j2:j<ys.length:=by omega
        obtain ⟨q1,g1,t1⟩:=r.get (AL j1);obtain ⟨q2,g2,t2⟩:=r2.get (AL j2);obtain ⟨o1,k1,m1⟩:=rv.get g1;obtain ⟨o2,k2,m2⟩:=rv2.get g2
        have z1 : its.toArray[j] = o1 := by have : its.toArray[j]? = some o1 := by simpa using k1
                                            rw[EF h1]at this;exact CH this
        have z2 : its2.toArray[j] = o2 := by have : its2.toArray[j]? = some o2 := by simpa using k2
                                             rw[EF h2]at this;exact CH this
        rw[z1,z2];have w1:xs.getD j .non=xs[j]:=by simp[ES,j1]
        have w2:ys.getD j .non=ys[j]:=by simp[ES,j2]
        show SeqAt.EqAt A.in1 s o1 o2 (BP n (xs.getD j .non) (ys.getD j .non));rw[w1,w2];exact ih A.in1 _ _ _ _ _ _ (by show A.units+1+n<cLine;omega) (hx _ (Ab j1)) (hy _ (Ab j2)) t1 t2 m1 m2)
      have fin:((List.range (min its.toArray.size its2.toArray.size)).all (λj=>BP n (xs.getD j .non) (ys.getD j .non))&&its.toArray.size==its2.toArray.size)=BP (n+1) (.tup xs) (.tup ys):=by
        rw[l1,l2];show _=(xs.length==ys.length&&(xs.zip ys).all λq=>BP n q.1 q.2);by_cases hl:xs.length=ys.length
        .rw[hl,Nat.min_self,<-hl,a8 (BP n) hl,Bool.and_comm]
        . have:(xs.length==ys.length)=false:=by simpa using hl
          rw[this];simp
      rw[fin]at key;exact key
end
noncomputable def nb (neg b:Bool):Bool:=if neg then !b else b
section
variable {X:Cx} {a b e o:Expr} {pos apos cpos:Pos} {f g:FE}
def XJ (n:Nat) (hn:n<=8) (hr:Room k A):A.units+1+n<cLine:=by
 have:=hr.units;omega
end
open Builtin
def aG:fillsNumberSlot (.type "tuple") "mul" = pure false :=
 PySem.fillsNumberSlot_seq (id := "tuple.__mul__") (r:=some (.builtin "tuple.__rmul__")) F.slot_tuple_mul.lookup (by decide+kernel) F.slot_tuple_rmul.lookup (by decide+kernel)
def eU:seqRepeat? (.type "tuple")=pure (some (.builtin "tuple.__mul__")):=by
 unfold seqRepeat?;rw[PySem.seqSlot_of (T := "tuple") (name := "__mul__") (id := "tuple.__mul__") F.slot_tuple_mul.lookup (by decide+kernel),PySem.seqSlot_of (T := "tuple") (name := "__rmul__") (id := "tuple.__rmul__") F.slot_tuple_rmul.lookup (by decide+kernel)];rfl
def UW (a:Int) (t:Tok) (l:Yt) (items:Yp) (n:Nat) (dd:Option Addr) (sl:Array (Option Value)) :
  Meets (Builtin.«int.__rmul__» ⟨[.int a t,.ref l],[]⟩) (λ_ R s=>s.heap.get? l=some { cls:=.type "tuple", dict:=dd,data:=.seq items n,slots:=sl }/\R (.ok (.ret Value.notImplemented)) s) :=
 .of_wp λprog w A R s h=>by obtain ⟨hp,g,d,tk,os⟩:=s;obtain ⟨hl,h⟩:=h;wp_walk using wpAny_loadPart' hl;exact ⟨_,rfl,h⟩
def Rp (l:Yt) (items:Yp) (n:Nat) (dd:Option Addr) (sl:Array (Option Value)) (u:Tok) :
  Meets (Builtin.«tuple.__mul__» ⟨[.ref l,.int 1 u],[]⟩) (λ_ R s=>s.heap.get? l=some { cls:=.type "tuple", dict:=dd,data:=.seq items n,slots:=sl }/\R (.ok (.ret (.ref l))) s) :=
 .of_wp λprog w A R s h=>by
  obtain ⟨hp,g,d,tk,os⟩:=s;obtain ⟨hl,h⟩:=h;have f1:=AutoSeq1.idx_int;wp_walk using wpAny_loadPart' hl;exact ⟨_,rfl,h⟩
def dE (l:Yt) (items:Yp) (n:Nat) (dd:Option Addr) (sl:Array (Option Value)) (x:Int) (u:Tok) (h0:¬ (decide (x < -(2 ^ 63))||decide (x≥2 ^ 63))=true) (h1:¬ (items.isEmpty||x==1)=true) (h2:¬ (decide (x<=0)||items.isEmpty)=true) (h3:¬ (items.size:Int)*x>(2 ^ 63-1) / 8) (h4:¬ Builtin.Tuple.tupleTooMany (items.size*x)=true)
  (hsz:(List.foldl (λx1 x2=>x1++x2) #[] (List.replicate x.toNat items)).size<=sizeLine) :
  Meets (Builtin.«tuple.__mul__» ⟨[.ref l,.int x u],[]⟩) (λ_ R s=>s.heap.get? l=some { cls:=.type "tuple", dict:=dd,data:=.seq items n,slots:=sl }/\R (.ok (.ret (Value.ref s.heap.objs.size))) { s with heap:=s.heap.push { cls:=Value.type "tuple", data:=Data.seq (List.foldl (λx1 x2=>x1++x2) #[] (List.replicate x.toNat items)) },toks:=s.toks }) :=
 .of_wp λprog w A R s h=>by
  obtain ⟨hp,g,d,tk,os⟩:=s;obtain ⟨hl,h⟩:=h;have f1:=AutoSeq1.idx_int;wp_walk using wpAny_loadPart' hl;rw[AD h0];wp_walk using wpAny_loadPart' hl;rw[AD h3];wp_walk using wpAny_loadPart' hl;all_goals first|exact ⟨_,rfl,h⟩|skip
section
variable {X:Cx} {a b o e e2:Expr} {pos p apos cpos:Pos} {f g:FE}
noncomputable def NM (K:Yb):R2:=λx y H Q=>∃ a k xs,x=.ref a/\y=.int k/\SqT K H a xs/\xs≠[]/\1<=k/\xs.length*k.toNat<=sizeLine /\
 (k=1->Q (.ref a) H)/\(k≠1 -> ∀ p,H p=none->Q (.ref p) (upd H p (.tup (List.replicate k.toNat xs).flatten)))
def UC:OpR X (binaryOp .Mult) (NM X.K):=by
 intro zB s Y H x y v u Q I rx ry h;obtain ⟨a,k,xs,rfl,rfl,ha,hx,hk,hz,q1,q2⟩:=h;cases rx;obtain ⟨t,rfl⟩:=ry;obtain ⟨its,r,p1,_⟩:=I.tuple ha;obtain ⟨⟨cls,dd,data,sl⟩,ho,hc,n,hd⟩:=id p1;simp only at hc hd;subst hc hd;have hl:its.toArray.size=xs.length:=by rw[AW];exact r.length.symm
 have hx0:0<xs.length:=List.length_pos_iff.mpr hx;have hkz:k.toNat<=sizeLine:=BA (Nat.le_mul_of_pos_left _ hx0) hz;have hk63:k<2 ^ 63:=by
  have:(sizeLine:Nat)<2 ^ 62:=by decide
  omega
 refine wpAny_binaryOp_repeat_ref (T := "tuple") (U := "int") (by decide) ⟨_,ho,rfl⟩ (λs'=>typeIs_int s' k t) aG F.fills_int_mul F.slot_int_rmul eU F.slot_int_index.lookup
  (call_meets F.slot_int_rmul (typeIs_int s k t) F.entry_int_rmul (F.args_int_rmul_2 _ _) (UW k t a its.toArray n dd sl)
   ⟨ho,rfl,⟨_,ho,rfl⟩,?_⟩)
 by_cases h1:k=1
 .subst h1;exact call_meets F.slot_tuple_mul ⟨_,ho,rfl⟩ F.entry_tuple_mul (F.args_tuple_mul_2 _ _) (Rp a its.toArray n dd sl t) ⟨ho,⟨.ref a,H,I,rfl,q1 rfl⟩⟩
 .have hnew:List.foldl (λx1 x2=>x1++x2) #[] (List.replicate k.toNat its.toArray)=(List.replicate k.toNat its).flatten.toArray:=by
   have:=MY its k.toNat [];rw[List.nil_append]at this;exact this
  have hlr:(List.replicate k.toNat its).flatten.length<=sizeLine:=by
   rw[Lb,<-r.length,Nat.mul_comm];exact hz
  have hem:its.toArray.isEmpty=false:=by
   rw[Array.isEmpty_eq_false_iff];intro z;rw[z]at hl;simp at hl;omega
  have hprod:((its.toArray.size:Int))*k=((xs.length*k.toNat:Nat):Int):=by
   rw[hl];rw[Int.natCast_mul,show ((k.toNat:Nat):Int)=k by omega]
  refine call_meets F.slot_tuple_mul ⟨_,ho,rfl⟩ F.entry_tuple_mul (F.args_tuple_mul_2 _ _) (dE a its.toArray n dd sl k t ?_ ?_ ?_ ?_ ?_ ?_) ⟨ho,?_⟩
  .rw[AM (by omega),AM (by omega)];decide
  .rw[hem,Bool.false_or];intro z;exact h1 (eq_of_beq z)
  .rw[hem,Bool.or_false,AM (by omega)];decide
  .rw[hprod];have:(sizeLine:Nat)<=(2 ^ 63-1) / 8:=by decide
   omega
  .rw[hprod];unfold Builtin.Tuple.tupleTooMany;rw[AM (by omega)];decide
  .rw[hnew,AW];exact hlr
  .rw[hnew];refine ⟨.ref s.heap.objs.size,_,I.laid (t':=s.toks) (o:=.tup (List.replicate k.toNat xs).flatten) (λb ob q=>AJ _ q) (AG _) ?_,rfl,q2 h1 _ (I.hok.fresh (AG _))⟩;exact ⟨by rw[Lb,Nat.mul_comm];exact hz,_,r.rep k.toNat,DR.new _ _⟩
def zK.rep (h:zK L H ds vs):∀ k:Nat,zK L H (List.replicate k ds).flatten (List.replicate k vs).flatten
 |0=> .nil
 |k+1=>by
  rw[F3,F3,C3,C3];exact zK.app h (zK.rep h k)
noncomputable def Eh:K2:=λx y M=>match y with
 |.dat (.int k)=>match Cu x with
  |some xs=>if 0<xs.length/\1<=k/\xs.length*k.toNat<=sizeLine then some (.dat (.tup (List.replicate k.toNat xs).flatten),M) else none
  |none=>match DZ M x with
   |some xs=>if -(2 ^ 63)<=k/\k<2 ^ 63/\xs.length*k.toNat<=sizeLine then some (.fl (List.replicate k.toNat xs).flatten,M) else none
   |none=>none
 |_=>none
def Q4 {K:Yb}:BL K (λx y H Q=>Nn x y H Q\/NM K x y H Q) Eh:=by
 intro L M M' H H0 x y d v w Q c rx ry hk q;unfold Eh at hk;split at hk
 .rename_i k;have hw:w=.int k:=by unfold zk Rep at ry;exact ry
  subst hw;split at hk
  .rename_i xs e1;split at hk
   .rename_i hz;cases hk;obtain ⟨p1,vs,rfl,h1,r1⟩:=Fi rx e1;refine .inr ⟨p1,k,vs,rfl,rfl,.of h1,?_,hz.2.1,by rw[r1.length];exact hz.2.2,λz=>?_,λz pp hp=>?_⟩
    .intro z;have:=r1.length;rw[z]at this;simp at this;omega
    .subst z;refine q L H _ (.refl L H) c ?_;have:(List.replicate (1:Int).toNat xs).flatten=xs:=by simp
     rw[this];unfold zk Rep;exact ⟨p1,vs,rfl,h1,r1⟩
    .exact q L _ _ (.upd hp) (c.upd hp) (Rep.newTup hp (r1.rep k.toNat))
   .cases hk
  .split at hk
   .rename_i xs e1;split at hk
    .rename_i hz;cases hk;obtain ⟨l,vs,rfl,h1,r1⟩:=Jv c rx e1;refine .inl ⟨l,k,vs,rfl,rfl,h1,hz.1,hz.2.1,by rw[r1.length];exact hz.2.2,λp hp=>?_⟩;exact q L _ _ (.upd hp) (c.upd hp) (zk.newLst (.refl L H) c c hp (r1.rep k.toNat))
    .cases hk
   .cases hk
 .cases hk
def R5 (h1:QE X a f) (h2:QE X b g):QE X (.BinOp a .Mult b pos) (fOp Eh f g):=Fm Q4 (Us.or UC) h1 h2
noncomputable def Gh:KB:=λxs M=>match xs with
 |[.dat (.int i),.dat (.int j)]=>some (.dat (.int (if j<i then j else i)),M)
 |_=>none
def Wi (r:C9 H0 L H [.dat (.int i),.dat (.int j)] vs):vs=[.int i,.int j]:=by
 unfold C9 at r;obtain ⟨v,r1,rfl,a1,a2⟩:=r;unfold C9 at a2;obtain ⟨v2,r2,rfl,b1,b2⟩:=a2;unfold C9 at b2;subst b2;unfold zk Rep at a1 b1;subst a1 b1;rfl
def cP {K:Yb}:D7 K (λxs H Q=>∃ i j,xs=[.int i,.int j]/\Q (.int (if j<i then j else i)) H) Gh:=by
 intro L M M' H H0 xs d vs Q c r hk q;unfold Gh at hk;split at hk
 .rename_i i j;cases hk;exact ⟨i,j,Wi r,q L H _ (.refl L H) c (Cs (L:=L) (H:=H))⟩
 .cases hk
def Uh (hcalm:X.calm=true) (hg:Gl X "min") (hm:X.mg "min" = none) (ha:QAE X [e,e2] fa) (he:starEach [e,e2] X.env=(false,eval e X.env)::starEach [e2] X.env:=by rfl) (hpl:(backTo pos (starEach [e2] X.env)).any (·.1)=false:=by rfl):QE X (.Call (.Name "min" p) [e,e2] [] pos) (fB Gh fa) :=
 HZ cP (RY hcalm) (by rfl) hg hm ha (by decide) (by decide) he hpl
end
section
variable {prog:Ym} {w:Yo} {A:Yn} {E:Yc} {s:Yl}
def Ti {its:List Value} {i:Int} (e:s.heap.get? l=some { cls:=.type "list", data:=.seq its.toArray n }) (hfit:¬ (!Builtin.List.listFitsIndex i)=true) (h0:¬ (i<0)) (hz:its.toArray.size<=sizeLine)
  (h:∀ g:Array Value->Array Value,g its.toArray=(its.take (min i.toNat its.length)++[u2]++its.drop (min i.toNat its.length)).toArray->Q .none { s with heap:=s.heap.update l (Obj.mapSeq g),toks:=s.toks }) :
  wpAny (model prog w) A (call (.builtin "list.insert") [.ref l,.int i t,u2]) Q E s:=by
 have hm:=@AutoSeq1.list_insert_list_int_val_1 l its.toArray n i t u2 hfit hz;have h1:s.TypeIs (.ref l) "list" := ⟨_,e,rfl⟩;refine call_meets (B:=Builtin.«list.insert») (self:=.ref l) (rest:=[.int i t,u2]) F.slot_list_insert h1 F.entry_list_insert (F.args_list_insert_3 _ _ _) hm ⟨e,?_⟩;refine h _ ?_;simp only[h0,if_false,AW];simp;exact Gs (by simp)
end
section
variable {X:Cx} {a o x1 x2:Expr} {pos p apos cpos:Pos} {f:FE}
def ON:V->List V->Hp->VK->Prop:=λx vs H Q=>∃ (l:Yt) (i:Int) (y:V) (xs:List V),x=.ref l/\vs=[.int i,y]/\H l=some (.lst xs)/\0<=i/\i.toNat<=xs.length/\xs.length<sizeLine/\Q .non (upd H l (.lst (xs.take i.toNat++[y]++xs.drop i.toNat)))
def TQ:MtM X "list.insert" ON:=by
 intro zB s Y H x vs v us Q I rx rv h;obtain ⟨l,i,y,xs,rfl,rfl,hH,h0,hi,hz,q⟩:=h;cases rx;obtain ⟨u,u2,rfl,⟨t,rfl⟩,ru2⟩:=rv.two;obtain ⟨z,its,n,r,hl,e⟩:=I.lstM hH;have hs:(sizeLine:Nat)<2 ^ 62:=by decide
 have hi1 : -(2 ^ 63)<=i:=by omega
 have hi2:i<2 ^ 63:=by omega
 refine Ti (its:=its) e (by rw[fitsIndex_both hi1 hi2];exact Ay) (by omega) (by rw[AW,<-hl];exact Dd hz) λg hg=>?_;rw[Nat.min_eq_left (by omega)]at hg;exact ⟨.non,_,I.lset (its':=its.take i.toNat++[u2]++its.drop i.toNat) (ys:=xs.take i.toNat++[y]++xs.drop i.toNat) hH e hg (((r.take i.toNat).append (.cons ru2 .nil)).append (r.drop i.toNat)) (by simp;omega),rfl,q⟩
noncomputable def EO:KM:=λx ds M=>match x,ds with
 |.dat (.ref n),[.int i,d]=>match M[n]? with
  |some (.lst xs)=>if 0<=i/\i.toNat<=xs.length/\xs.length<sizeLine then some (.non,M.set n (.lst (xs.take i.toNat++[d]++xs.drop i.toNat))) else none
  |_=>none
 |_,_=>none
theorem Nb:∀ (k:Nat) {ds:List D} {vs:List V},zK L H ds vs->zK L H (ds.take k) (vs.take k)
 |0,_,_,_=> .nil
 |k+1,[],vs,h=>by unfold zK at h;subst h;exact .nil
 |k+1,d::ds,vs,h=>by
  unfold zK at h;obtain ⟨v,r,rfl,h1,h2⟩:=h;exact .cons h1 (Nb k h2)
theorem Mm:∀ (k:Nat) {ds:List D} {vs:List V},zK L H ds vs->zK L H (ds.drop k) (vs.drop k)
 |0,_,_,h=>h
 |k+1,[],vs,h=>by unfold zK at h;subst h;exact .nil
 |k+1,d::ds,vs,h=>by
  unfold zK at h;obtain ⟨v,r,rfl,h1,h2⟩:=h;exact Mm k h2
def Va {K:Yb}:JQ K ON EO:=by
 intro L M M' H H0 x ds d v vs Q c rx rd hk q;unfold EO at hk;split at hk
 .rename_i n i d';split at hk
  .rename_i xs e1;split at hk
   .rename_i hz;cases hk;unfold zk Rep at rx;obtain ⟨a,rfl,e2⟩:=rx;obtain ⟨ws,e3,r3⟩:=c.obj n a _ e2 e1;obtain ⟨w1,w2,rfl,r4,r5⟩:=rd.two;have hw:w1=.int i:=by unfold Rep at r4;exact r4
    subst hw;obtain ⟨c5,s5⟩:=c.write e2 e1 (((Nb i.toNat r3).app (.cons r5 .nil)).app (Mm i.toNat r3));exact ⟨a,i,w2,ws,rfl,rfl,e3,hz.1,by rw[r3.length];exact hz.2.1,by rw[r3.length];exact hz.2.2,q L _ _ s5 c5 (by unfold Rep;rfl)⟩
   .cases hk
  .cases hk
 .cases hk
def bT (h:QE X a f) (hg:QA X [x1,x2] fg) (hbase:attributeBase a "insert" X.env (eval a X.env)=eval a X.env:=by rfl)
  (hfew:((backTo cpos (starEach [x1,x2] X.env)).all (λx=> !x.1)&&(backToKw cpos (keywordEach [] X.env)).all (λx=>x.1.isSome)&&decide ([x1,x2].length+([]:List Keyword).length+(if ([]:List Keyword).isEmpty then 0 else 1)<30))=true:=by rfl)
  (hline:(apos.endLine==cpos.line)=true:=by rfl) (hs:starEach [x1,x2] X.env=(false,eval x1 X.env)::starEach [x2] X.env:=by rfl) (hplain:(backTo cpos (starEach [x2] X.env)).any (·.1)=false:=by rfl) :
  QE X (.Call (.Attribute a "insert" apos) [x1,x2] [] cpos) (fM EO f fg) :=
 .mk <| PE.imp (Jx PySem.F.plainAttrs_list PySem.F.slot_list_insert PySem.F.type_list_insert TQ h.un hg.un hbase hfew hline hs hplain) λ_ _ _ z=>Kd Va z
end
noncomputable def El (fg:FG) (tc:FT) (fi2:FI) (own2:Yj) (fg2:FG) (tc2:FT) (te:FE) (Y:Sd) (all:List D) (gd:Option (Mem->Prop)):List D->List D->Mem->Option (List D × Mem)
 |[],acc,M=>open Classical in if B6 gd all M then some (acc,M) else none
 |x::r,acc,M=>open Classical in if B6 gd all M then match fg x Y with
   |some σ1=>match tc σ1 M with
    |some (true,M1)=>match fi2 σ1 M1 with
     |some (ys,gd2,M2)=>if acc.length+ys.length<=sizeLine then match Bc fg2 tc2 te (Bi own2 σ1) ys gd2 ys M2 with
       |some (ds,M3)=>El fg tc fi2 own2 fg2 tc2 te Y all gd r (acc++ds) M3
       |none=>none
      else none
     |none=>none
    |some (false,M1)=>El fg tc fi2 own2 fg2 tc2 te Y all gd r acc M1
    |none=>none
   |none=>none
  else none
noncomputable def GX (own own2:Yj) (fi:FI) (fg:FG) (tc:FT) (fi2:FI) (fg2:FG) (tc2:FT) (te:FE):FE:=λY M=>match fi Y M with
 |some (xs,gd,M1)=>match El fg tc fi2 own2 fg2 tc2 te (Bi own Y) xs gd xs [] M1 with
  |some (ys,M2)=>some (.fl ys,M2)
  |none=>none
 |none=>none
def RE {K:Yb} {own own2:Yj} {fi fi2:FI} {g g2:TG} {fg fg2:FG} {tc tc2:FT} {te:FE} (hg:D1 own g fg) (hg2:D1 own2 g2 fg2) {τ:Sv} {H:Hp} {Q:VK} (h:trE K (GX own own2 fi fg tc fi2 fg2 tc2 te) τ H Q) :
  Nu own own2 (trI K fi) g (trT K tc) (trI K fi2) g2 (trT K tc2) (trD K (toD te)) τ H Q:=by
 obtain ⟨L,Y,M,d,Mf,c,rs,hf,q⟩:=h;unfold GX at hf;split at hf
 .rename_i xs gd M1 e1;split at hf
  .rename_i zs M2 e2;cases hf;refine (mkI c rs e1 (λL1 H1 J s1 c1 it=>?_))
   refine ⟨λi m ys H'=>m=xs.length-i/\i<=xs.length /\ ∃ L' M' as,Stp L1 H1 L' H'/\Cor K L' M' H'/\zK L' H' as ys/\as.length<=sizeLine/\El fg tc fi2 own2 fg2 tc2 te (Bi own Y) xs gd (xs.drop i) as M'=some (zs,Mf),
    ⟨xs.length,by simp,Ba _,L1,M1,[],.refl _ _,c1,.nil,Ba _,by simpa using e2⟩,?_⟩
   intro i m ys H' hI;refine Classical.byContradiction λG=>?_;obtain ⟨eI1,hi,L',M',as,s',c',r',hl,e'⟩:=hI;refine G ?_;clear G;subst eI1;by_cases hlt:i<xs.length
   .rw[HP hlt]at e';unfold El at e';split at e'
    .rename_i hgd;obtain ⟨step,_⟩:=it L' H' M' s' c' hgd;obtain ⟨go,yl⟩:=step i xs[i] (AL hlt);split at e'
     .rename_i σ1 eg;refine .inr ⟨go,λv H2 hy=>?_⟩;obtain ⟨gr,rv⟩:=yl v H2 hy;have s2:Stp L1 H1 L' H2:=s'.yld gr;refine hg (IF own ((rs.stp s1).stp s2)) (.refl _) rv eg λτ2 r2 x2=>⟨x2,?_⟩;split at e'
      .rename_i M3 e3;split at e'
       .rename_i ys2 gd2 M4 e4;split at e'
        .rename_i hz2;split at e'
         .rename_i ds M5 e5;refine (mkT (c'.grow gr) r2 e3 (λL3 H3 s3 c3=>Dn ?_));have st3:Stp L' H' L3 H3:=(Stp.grow gr).trans s3;refine (mkI c3 (r2.stp s3) e4 (λL4 H4 J2 s4 c4 it2=>?_))
          refine ⟨λj m2 ws H5=>m2=ys2.length-j/\j<=ys2.length /\ ∃ L5 M6 bs cs,Stp L4 H4 L5 H5/\Cor K L5 M6 H5/\zK L5 H5 (as++bs) ws/\bs.length<=j/\Bc fg2 tc2 te (Bi own2 σ1) ys2 gd2 (ys2.drop j) M6=some (cs,M5)/\bs++cs=ds,
           ⟨ys2.length,by simp,Ba _,L4,M4,[],ds,.refl _ _,c4,by simpa using (r'.stp st3).stp s4,AG _,by simpa using e5,rfl⟩,?_⟩
          intro j m2 ws H5 hI;refine Classical.byContradiction λG=>?_;obtain ⟨eI1,hj,L5,M6,bs,cs,s5,c5,r5,hbl,e6,hbc⟩:=hI;refine G ?_;clear G;subst eI1;have hws:ws.length<=as.length+j:=by rw[r5.length,AN];omega
          by_cases hlt2:j<ys2.length
          .rw[HP hlt2]at e6;unfold Bc at e6;split at e6
           .rename_i hgd2;obtain ⟨step2,_⟩:=it2 L5 H5 M6 s5 c5 hgd2;obtain ⟨go2,yl2⟩:=step2 j ys2[j] (AL hlt2);split at e6
            .rename_i σ2 eg2;refine .inr ⟨go2,λv2 H6 hy2=>?_⟩;obtain ⟨gr2,rv2⟩:=yl2 v2 H6 hy2;have s6:Stp L4 H4 L5 H6:=s5.yld gr2;refine hg2 (IF own2 (((r2.stp s3).stp s4).stp s6)) (.refl _) rv2 eg2 λτ3 r3 x3=>⟨x3,?_⟩;split at e6
             .rename_i M7 e7;split at e6
              .rename_i d M8 e8;split at e6
               .rename_i ds' M9 e9;cases e6;refine (mkT (c5.grow gr2) r3 e7 (λL7 H7 s7 c7=>Dn ?_));refine (mkD c7 (r3.stp s7) e8 (λL8 H8 w s8 c8 r8=>?_));have st:Stp L5 H5 L8 H8:=((Stp.grow gr2).trans s7).trans s8;refine ⟨by omega,ys2.length-(j+1),by omega,rfl,hlt2,L8,M8,bs++[d],ds',s5.trans st,c8,?_,by simp;omega,e9,by rw[<-hbc];simp⟩;have:=(r5.stp st).app (.cons r8 .nil);simpa using this
               .cases e6
              .cases e6
             .rename_i M7 e7;refine (mkT (c5.grow gr2) r3 e7 (λL7 H7 s7 c7=>D3 ?_));have st:Stp L5 H5 L7 H7:=(Stp.grow gr2).trans s7;exact ⟨ys2.length-(j+1),by omega,rfl,hlt2,L7,M7,bs,cs,s5.trans st,c7,r5.stp st,by omega,e6,hbc⟩
             .cases e6
            .cases e6
           .cases e6
          .have hj':j=ys2.length:=by omega
           subst hj';rw[List.drop_length]at e6;unfold Bc at e6;split at e6
           .rename_i hgd2;cases e6;obtain ⟨_,stop2⟩:=it2 L5 H5 _ s5 c5 hgd2;rw[By]at hbc;subst hbc;refine .inl ⟨stop2,xs.length-(i+1),by omega,rfl,hlt,L5,M5,as++bs,s'.trans ((st3.trans s4).trans s5),c5,r5,by rw[AN];omega,e'⟩
           .cases e6
         .cases e'
        .cases e'
       .cases e'
      .rename_i M3 e3;refine (mkT (c'.grow gr) r2 e3 (λL3 H3 s3 c3=>D3 ?_));have st:Stp L' H' L3 H3:=(Stp.grow gr).trans s3;exact ⟨xs.length-(i+1),by omega,rfl,hlt,L3,M3,as,s'.trans st,c3,r'.stp st,hl,e'⟩
      .cases e'
     .cases e'
    .cases e'
   .have hi':i=xs.length:=by omega
    subst hi';rw[List.drop_length]at e';unfold El at e';split at e'
    .rename_i hgd;cases e';obtain ⟨_,stop⟩:=it L' H' _ s' c' hgd;refine .inl ⟨stop,by rw[r'.length];exact hl,λp hp=>?_⟩;exact q L' _ _ ((s1.trans s').trans (.upd hp)) (c'.upd hp) (zk.newLst (s1.trans s') c c' hp r')
    .cases e'
  .cases hf
 .cases hf
section
variable {X:Cx} {scope:Y0} {elt t1 i1 t2 i2:Expr} {f1 f2:Yi} {pos:Pos}
structure QParts2 (X:Cx) (scope:Y0) (t1:Expr) (f1:Yi) (t2 i2:Expr) (f2:Yi) (elt:Expr) (g:TG) (tc:FT) (fi2:FI) (g2:TG) (tc2:FT) (te:FE):Prop where
 g:∀ zB cl s H fp,PG (zP X zB scope cl s H fp) t1 g
 c:∀ zB cl s H fp,QIfs (zP X zB scope cl s H fp) f1 tc
 w2:∀ zB cl s H fp,QI (zP X zB scope cl s H fp) t2 i2 fi2
 g2:∀ zB cl s H fp,PG (zP X zB scope cl s H fp) t2 g2
 c2:∀ zB cl s H fp,QIfs (zP X zB scope cl s H fp) f2 tc2
 e:∀ zB cl s H fp,QE (zP X zB scope cl s H fp) elt te
 s2:∀ zB cl s H fp x,foldedSetIterable i2 (zP X zB scope cl s H fp).env x=pure x
def RC {own own2:Yj} {fi fi2:FI} {g g2:TG} {fg fg2:FG} {tc tc2:FT} {te:FE} (hsub:∀ i∈own2,i∈own) (hg:D1 own g fg) (hg2:D1 own2 g2 fg2) (C:CompIn X scope own) (hcalm:X.calm=true) (hi:QI X t1 i1 fi) (p:QParts2 X scope t1 f1 t2 i2 f2 elt g tc fi2 g2 tc2 te) (hs:∀ x,foldedSetIterable i1 X.env x=pure x:=by intro _;rfl) :
  QE X (Bl elt t1 i1 f1 t2 i2 f2 scope pos) (GX own own2 fi fg tc fi2 fg2 tc2 te) :=
 .mk <| PE.imp (aE hsub C hcalm hi.un ⟨p.g,λzB cl s H fp=>(p.c zB cl s H fp).un,λzB cl s H fp=>(p.w2 zB cl s H fp).un,p.g2,λzB cl s H fp=>(p.c2 zB cl s H fp).un,λzB cl s H fp=>(Bt (p.e zB cl s H fp)).un,p.s2⟩ hs) λ_ _ _ h=>RE hg hg2 h
end
end L3
namespace L2
section
variable {X:Cx} {pos:Pos} {k v:Expr} {tk tv:TE}
def Sr (hu:X.A.units+1<cLine) (hk:PE X k tk) (hv:PE X v tv) :
  PE X (.Dict [some k] [v] pos) (λY H Q=>∀ p,H p=none->tk Y (upd H p (.dT [])) λx H1=>tv Y H1 λy H2=>∃ H3,DW H2 p x y H3/\Q (.ref p) H3):=by
 intro zB s Y H Q I q;have hn:=I.hok.fresh (AG s.heap.objs.size);have I1:=I.laid (a:=s.heap.objs.size) (o:=.dT []) (h':=s.heap.push { cls:=.type "dict", data:=.dict #[] }) (t':=s.toks) (λ_ _ q=>AJ _ q) (AG _) (Mx s.heap I.big);rw[arm_eval_Dict,zip_pairTrees [some k] [v] X.env pos rfl rfl,dictDisplay_pairs _ (by simp[pairTrees]) (by simp[pairTrees])];refine AA (DM (AA ?_));unfold subDict;refine AA (wpAny_alloc ?_);refine AA (C7 ?_);rw[AB (by simp[pairTrees])];refine AA (thn (JA hk hv Qu zB _ Y _ (λps H2=>match ps with | [(x,y)]=>∃ H3,DW H2 s.heap.objs.size x y H3/\Q (.ref s.heap.objs.size) H3|_=>False) I1 (q _ hn)) λvs s1 ⟨ps,H2,I2,rel,hq⟩=>?_);cases rel with
 |nil=>exact hq.elim
 | @cons a b as bs hab t=>
  cases t with
  |cons _ _=>exact hq.elim
  |nil=>
   obtain ⟨x,y⟩:=a;obtain ⟨H3,hp,q3⟩:=hq;obtain ⟨u,r⟩:=b;refine C7 ?_;rw[List.forIn_cons];refine AA (AA ?_);show wpAny _ _ (dictSet s.heap.objs.size u r >>= λ_=>pure (ForInStep.yield PUnit.unit)) _ _ s1;refine AA (YL hu I2 hp hab.1 hab.2 λs' I' hs=>AE ?_);show wpAny _ _ (forIn [] PUnit.unit _) _ _ s';rw[List.forIn_nil];exact AE (AE (AE (AE ⟨.ref s.heap.objs.size,H3,I',rfl,q3⟩)))
end
end L2
namespace L3
open L2
section
variable {X:Cx} {a b:Expr} {pos:Pos}
noncomputable def IK (fk fv:FE):FE:=λY M=>match toD fk Y (M++[.dicT []]) with
 |some (k,M1)=>match toD fv Y M1 with
  |some (v,M2)=>match D5 M2 M.length k v with
   |some M3=>some (.dat (.ref M.length),M3)
   |none=>none
  |none=>none
 |none=>none
def Zb (hu:X.A.units+1<cLine) (h1:QE X a fk) (h2:QE X b fv):QE X (.Dict [some a] [b] pos) (IK fk fv):=.mk <| PE.imp (Sr hu (Bt h1).un (Bt h2).un) λτ H Q ⟨L,Y,M,d,M',c,rs,hf,q⟩ p hp=>by
 unfold IK at hf;split at hf
 .rename_i k M1 e1;split at hf
  .rename_i v M2 e2;split at hf
   .rename_i M3 e3;cases hf;obtain ⟨c0,s0⟩:=c.pushO (m:=.dicT []) (o:=.dT []) hp ⟨[],Ct,rfl⟩;refine ⟨L++[p],Y,_,_,_,c0,rs.stp s0,e1,λL1 H1 x st1 c1 r1=>⟨L1,Y,M1,_,_,c1,(rs.stp s0).stp st1,e2,λL2 H2 y st2 c2 r2=>?_⟩⟩;have st:=(s0.trans st1).trans st2;have lp:L2[M.length]?=some p:=by
     obtain ⟨N,hN⟩:=(st1.trans st2).pre;rw[hN,<-c.len];simp
    obtain ⟨H3,hd,c3,s3⟩:=Pw c2 lp (r1.stp st2) r2 e3;refine ⟨H3,hd,q _ _ _ (st.trans s3) c3 ?_⟩;unfold zk Rep;exact ⟨p,rfl,lp⟩
   .cases hf
  .cases hf
 .cases hf
end
open SeqAt
structure Df (K:Yb) (mg:Yh) (x:Str) (st:Stmt) (ps:Yk) where
 f:Addr
 fd:FuncData
 F:Fun K x x st f fd
 b:Fy K fd ps []
 m:mg x=some (.ref f)
structure Dg (K:Yb) (x:Str) (st:Stmt) where
 f:Addr
 {od an:Option Addr}
 {sl:Array (Option Value)}
 {oc kV dc pm cd ct:Yu}
 a:PySem.W.nsIn K mainGlobals x=some (some (.ref f))
 l:K.lookup f=some ⟨oc,od,.func (PySem.W.fnOf x x (Gb st) (Fp st) (zR st) .none kV dc pm an cd ct),sl⟩
 c:PySem.W.codeIn K cd x=true
 k:PySem.W.keepIn K (.ref f)=true
noncomputable abbrev Dg.df {K:Yb} {x:Str} {st:Stmt} {ps:Yk} {h:Heap} {mg:Yh} (g:Dg K x st) (X:K.In h) (G:h.Ns mainGlobals mg)
  (hb:∀ (kV doc pm:Yu) (an:Option Addr) (cdv ct:Yu) (us:Yf),us.length=ps.length->bindArgs (PySem.W.fnOf x x (Gb st) (Fp st) (zR st) .none kV doc pm an cdv ct) ⟨us,[]⟩=pure (ps.zip us)):Df K mg x st ps :=
 ⟨g.f,_,My g.l g.c g.k,(My g.l g.c g.k).binds hb,PySem.W.mg_of X G g.a⟩
abbrev Od (P:Ym) (w:Yo) (base:Heap) (k:Nat) {K:Yb} {mg:Yh} {x:Str} {st:Stmt} {ps:Yk} (d:Df K mg x st ps) (m:FF):Prop:=FnOk P w K mg base CX0 k d.f d.fd ps (spF K ps.length m)
abbrev Zn (K:Yb) (x:Str):Prop:=PySem.W.nsIn K mainGlobals x=some none
abbrev Ki (K:Yb) (t T:String) (b:Bool):Prop:=PySem.W.kitOne K (.type t) (.type T)=some b
def Hw {P:List Value->Prop} (h:∀ a,P [a]):∀ us:List Value,us.length=1->P us
 |[a],_=>h a
def Dm {P:List Value->Prop} (h:∀ a b,P [a,b]):∀ us:List Value,us.length=2->P us
 |[a,b],_=>h a b
def Hn {P:List Value->Prop} (h:∀ a b c,P [a,b,c]):∀ us:List Value,us.length=3->P us
 |[a,b,c],_=>h a b c
def IQ {P:List Value->Prop} (h:∀ a b c d,P [a,b,c,d]):∀ us:List Value,us.length=4->P us
 |[a,b,c,d],_=>h a b c d
section
variable {X:Cx} {e:Expr} {es:Yi} {pos p:Pos} {x:Str} {k:Nat} {st:Stmt} {ps:Yk}
def bK {d:Df X.K X.mg x st ps} (F:FnOk X.prog X.w X.K X.mg X.base CX0 k d.f d.fd ps (spF X.K (e::es).length g)) (hr:Room k X.A) (hg:Gl X x)
  (ha:QA X (e::es) fa) (hl:∀ Y M ds M1,fa Y M=some (ds,M1)->ds.length=(e::es).length) (hdb:(x==("__debug__" : Str))=false) (he:starEach (e::es) X.env=(false,eval e X.env)::starEach es X.env) (hpl:(backTo pos (starEach es X.env)).any (·.1)=false) :
  QE X (.Call (.Name x p) (e::es) [] pos) (zO g fa):=S8 F hr hg d.m d.F.kp d.b ha hl hdb he hpl
def YE (hN:X.N.Nodup) (hi:X.N[i]?=some x) (h:QE X e f) (hx:Loc X.env.scope x:=by first|exact Or.inl rfl|exact Or.inr rfl) (hs:swapsWith e (some (.Name x pos')) pos.line X.env=pure false:=by rfl)
  (hf:X.fn x=true\/X.env.scope.names.lookup x=some .local:=by first|exact .inl rfl|exact .inr rfl|assumption):QS X (.Assign [.Name x pos'] e pos) (AK i f):=Za hN hi hx h hs hf
def ZU (hN:X.N.Nodup) (hi:X.N[i]?=some x) (hx:Loc X.env.scope x:=by first|exact Or.inl rfl|exact Or.inr rfl) (hf:X.fn x=true\/X.env.scope.names.lookup x=some .local:=by first|exact .inl rfl|exact .inr rfl|assumption):PG X (.Name x pos) (Ea i):=Qp hN hi hx hf
end
def V2 (h:Bz d=some k):Rep L H d (kV k):=by
 cases d with
 |int i=>cases h;unfold Rep;rfl
 |str x=>cases h;unfold Rep;rfl
 |_=>cases h
theorem OD:∀ {ds:List D} {ks:List Key},DU ds=some ks->zK L H ds (ks.map kV)
 |[],ks,h=>by cases h;exact .nil
 |d::ds,ks,h=>by
  unfold DU at h;cases e1:Bz d with
  |none=>rw[e1]at h;cases h
  |some k=>
   cases e2:DU ds with
   |none=>rw[e1,e2]at h;cases h
   |some ks'=>rw[e1,e2]at h;cases h;exact .cons (V2 e1) (OD e2)
def WJ (h:tkD d=some k) (e:H b=some (.tup (k.map kV))):Rep L H d (.ref b):=by
 cases d with
 |tup ds=>unfold Rep;exact ⟨b,_,rfl,e,OD h⟩
 |_=>cases h
theorem Ou:∀ {ys:List V} {us:Yf},ys.length=us.length->(∀ (i:Nat) y u,ys[i]?=some y->us[i]?=some u->zm y u)->zX ys us
 |[],[],_,_=> .nil
 |[],_::_,h,_=>by cases h
 |_::_,[],h,_=>by cases h
 |y::ys,u::us,h,q=> .cons (q 0 y u rfl rfl) (Ou (Nat.succ.inj h) λi y' u' e1 e2=>q (i+1) y' u' (by simpa using e1) (by simpa using e2))
end L3
namespace ST
section
variable {prog:Ym} {w:Yo} {A:Yn} {E:Yc} {s:Yl} {κ:SortKind} {vs:Yf} {r:Yr}
def C2 (prog:Ym) (w:Yo) (s:Yl) (κ:SortKind) (vs:Yf) (r:Yr):Prop :=
 ∀ (A:Yn) (E:Yc) (x y:Yu) (Q:Bool->Shared->Prop),x∈vs->y∈vs->Q (decide (r x<r y)) s->wpAny (model prog w) A (keyLt' κ x y) Q E s
def Hs (R:C2 prog w s κ vs r) {st:SortSt} {x y:Keyed} {Q:Option Bool->SortSt->Prop} (hk:kindOf st=κ) (hx:x.1∈vs) (hy:y.1∈vs) (h:Q (some (decide (r x.1<r y.1))) st) :
  wpS (model prog w) A E s (lt' x y) Q st:=by
 rw[lt'_eq];refine wpS_bind (wpS_get ?_);rw[hk];exact wpS_bind (wpS_lift (wpAny_attempt (R _ _ _ _ _ hx hy ⟨rfl,wpS_pure h⟩)))
def Q5 (R:C2 prog w s κ vs r) {st:SortSt} {i j:Nat} {x y:Keyed} {Q:Option Bool->SortSt->Prop} (hk:kindOf st=κ) (ei:(arrOf st)[i]?=some x) (ej:(arrOf st)[j]?=some y) (hx:x.1∈vs) (hy:y.1∈vs)
  (h:Q (some (decide (r x.1<r y.1))) st):wpS (model prog w) A E s (ltAt' i j) Q st:=by
 rw[ltAt'_eq];refine wpS_bind (wpS_get ?_);show wpS _ _ _ _ (elem' (arrOf st) i >>= λx=>elem' (arrOf st) j >>= λy=>lt' x y) Q st;rw[elem'_eq,elem'_eq,ei,ej];exact wpS_bind (wpS_pure (wpS_bind (wpS_pure (Hs R hk hx hy h))))
def Bg (h:Heap) (v:Value) (xs:List Int):Prop:=∃ b o us n,v=.ref b/\h.get? b=some o/\o.cls=.type "tuple" /\ o.data=.seq us n/\IntsAre us.toList xs
def Bg.keep (t:Bg h v xs) (k:∀ b o,v=.ref b->h.get? b=some o->h'.get? b=some o):Bg h' v xs:=by
 obtain ⟨b,o,us,n,rfl,h1,h2,h3,h4⟩:=t;exact ⟨b,o,us,n,rfl,k b o rfl h1,h2,h3,h4⟩
noncomputable def AZ:List Int->List Int->Bool
 |[],[]=>false
 |[],_::_=>true
 |_::_,[]=>false
 |x::xs,y::ys=>if x=y then AZ xs ys else decide (x<y)
def Rr (h:Q (decide (a<b)) s):wpAny (model prog w) A (oneLt' false (.int a t) (.int b u)) Q E s:=by
 rw[oneLt'_eq];simp only[Dl,if_false];refine AA (richCompare_gives (op:=.Lt) (typeIs_int s a t) (typeIs_int s b u) F.slot_int_lt F.entry_int_lt (F.args_int_lt_2 _ _) (gives_int_lt a b t u) (λx=>nomatch x) ?_);exact Ff h
def SF (h:Q (decide (a<b)) s):wpAny (model prog w) A (oneLt' c (.int a t) (.int b u)) Q E s:=by
 cases c
 .exact Rr h
 .exact oneLt_int h
def Zi (hx:Bg s.heap x xs) (hy:Bg s.heap y ys) (h:Q (AZ xs ys) s):wpAny (model prog w) A (keyLt' (tuples' c) x y) Q E s:=by
 obtain ⟨a,o1,us,n1,rfl,h1,h2,h3,h4⟩:=hx;obtain ⟨b,o2,ws,n2,rfl,g1,g2,g3,g4⟩:=hy;refine AA (listItems_at h1 h3 (AA (listItems_at g1 g3 ?_)));refine AA (wpAny_forIn_list _ (λrest c s'=>c=(none,())/\s'=s /\ ∃ us' ws' xs' ys' k,rest=(us'.zip ws').zipIdx k/\IntsAre us' xs'/\IntsAre ws' ys'/\AZ xs ys=AZ xs' ys'/\us.size+ws'.length=ws.size+us'.length) (λc s'=>s'=s/\Q (match c.1 with|some b=>b|none=>decide (us.size<ws.size)) s) ?turn ?fin _ _ ⟨rfl,rfl,_,_,_,_,0,rfl,h4,g4,rfl,by simp;omega⟩ |> λz=>AX z ?post λ_ _ e=>e)
 case turn=>
  rintro ⟨⟨p,q⟩,i⟩ rest c s' ⟨rfl,rfl,us',ws',xs',ys',k,e,i1,i2,e2,e3⟩;cases i1 with
  |nil=>simp at e
  | @cons n t us1 xs1 i1=>
   cases i2 with
   |nil=>simp at e
   | @cons m u ws1 ys1 i2=>
    simp only[List.zip_cons_cons,List.zipIdx_cons]at e;injection e with ea eb
    cases ea;refine AA (wpAny_eqBool_int ?_);rw[show AZ (n::xs1) (m::ys1)=if n=m then AZ xs1 ys1 else decide (n<m)from rfl]at e2;by_cases hnm:n=m
    .subst hnm;simp only[beq_self_eq_true,Bool.not_true,Dl,if_false];rw[AB rfl]at e2;simp only[CS]at e3;exact AE ⟨rfl,rfl,_,_,_,_,_,eb,i1,i2,e2,by omega⟩
    .rw[AD hnm]at e2;have:(n==m)=false:=by simpa using hnm
     rw[this];simp only[Bool.not_false,if_true];refine AA ?_;refine SF (AE ⟨rfl,?_⟩);rw[<-e2];exact h
 case fin=>
  rintro c s' ⟨rfl,rfl,us',ws',xs',ys',k,e,i1,i2,e2,e3⟩;refine ⟨rfl,?_⟩;dsimp only;have key:AZ xs ys=decide (us.size<ws.size):=by
   rw[e2];cases i1 with
   |nil=>
    cases i2 with
    |nil=>simp at e3;simp[AZ,e3]
    |cons m u i2=>simp at e3;simp[AZ];omega
   |cons n t i1=>
    cases i2 with
    |nil=>simp at e3;simp[AZ];omega
    |cons m u i2=>simp at e
  rw[<-key];exact h
 case post=>
  rintro ⟨c1,c2⟩ s' ⟨rfl,q⟩;dsimp only at q ⊢;cases c1 with
  |some b=>exact AE q
  |none=>exact AE q
theorem Ph:∀ ds:List (Int × Tok),IntsAre (ds.map λp=> .int p.1 p.2) (ds.map (·.1))
 |[]=> .nil
 |p::ds=> .cons p.1 p.2 (Ph ds)
def RQ (hv:Bg s.heap v (x::xs)) (h:∀ t,Q (some (.int x t)) s):wpAny (model prog w) A (firstOfTuple' v) Q E s:=by
 obtain ⟨a,o1,us,n1,rfl,h1,h2,h3,h4⟩:=hv;refine AA (wpAny_typeOf (T := "tuple") ⟨o1,h1,h2⟩ ?_);rw[AD (by decide)];refine AA (listItems_at h1 h3 (AE ?_));obtain ⟨us⟩:=us;cases h4 with
 |cons n t i=>exact h t
theorem OE:∀ {vs:Yf} {Q:List (Option Value)->Shared->Prop},(∀ v∈vs,∃ x xs,Bg s.heap v (x::xs))->(∀ ds:List (Int × Tok),ds.length=vs.length->Q (ds.map λp=>some (.int p.1 p.2)) s)->wpAny (model prog w) A (vs.mapM firstOfTuple') Q E s
 |[],Q,_,q=>by rw[List.mapM_nil];exact AE (q [] rfl)
 |v::vs,Q,h,q=>by
  rw[List.mapM_cons];obtain ⟨x,xs,hv⟩:=h v (Ah ..);refine AA (RQ hv λt=>AA (OE (λu hu=>h u (BS _ hu)) λds hl=>AE ?_));exact q ((x,t)::ds) (by simp[hl])
def dU (h:∀ u∈v::vs,∃ x xs,Bg s.heap u (x::xs)) (q:Q (tuples' true) s):wpAny (model prog w) A (keyKind' (v::vs).toArray) Q E s:=by
 rw[keyKind'_eq,List.mapM_toArray];refine AA ?_;show wpAny _ _ (List.toArray <$> (v::vs).mapM firstOfTuple') _ _ _;rw[map_eq_pure_bind];refine AA (OE h λds hl=>AE ?_);rw[AB (by simp)];refine AA (CA ?_);have e:Array.filterMap id (List.map (λp=>some (Value.int p.1 p.2)) ds).toArray=(ds.map λp=>Value.int p.1 p.2).toArray:=by
  rw[List.filterMap_toArray,List.filterMap_map];exact Bv List.toArray (List.filterMap_eq_map' (f:=λp:Int × Tok=>Value.int p.1 p.2)▸rfl)
 rw[e,oneTypeOnly'_eq,List.mapM_toArray,mapM_typeOf_ints (Ph ds)];cases ds with
 |nil=>cases hl
 |cons d ds=>
  have hall:((List.map (λ_=>Value.type "int") (List.map (λp:Int × Tok=>Value.int p.1 p.2) (d::ds))).toArray.all λx=>x==Value.type "int")=true:=by
   simp only[List.all_toArray,List.all_map,Ae];intro _ _;rfl
  have h0:(List.map (λ_=>Value.type "int") (List.map (λp:Int × Tok=>Value.int p.1 p.2) (d::ds))).toArray[0]?=some (Value.type "int"):=by simp
  simp only[map_pure,pure_bind];rw[h0];simp only[hall,if_true,pure_bind];exact AE q
end
theorem MX:∀ x:List Int,AZ x x=false
 |[]=>rfl
 |a::x=>by rw[show AZ (a::x) (a::x)=if a=a then AZ x x else decide (a<a)from rfl,AB rfl];exact MX x
def Mq (a b:Int) (x y:Ye):AZ (a::x) (b::y)=if a=b then AZ x y else decide (a<b):=rfl
theorem Iu:∀ {x y:Ye},AZ x y=false->AZ y x=false->x=y
 |[],[],_,_=>rfl
 |[],_::_,h,_=>by cases h
 |_::_,[],_,h=>by cases h
 |a::x,b::y,h1,h2=>by
  rw[Mq]at h1 h2;by_cases e:a=b
  .subst e;rw[AB rfl]at h1 h2;rw[Iu h1 h2]
  .rw[AD e]at h1;rw[AD (Ne.symm e)]at h2;have:=of_decide_eq_false h1;have:=of_decide_eq_false h2;omega
theorem Je:∀ {x y z:Ye},AZ x y=true->AZ y z=true->AZ x z=true
 |[],[],_,h,_=>by cases h
 |_::_,[],_,h,_=>by cases h
 |_,_::_,[],_,h=>by cases h
 |[],_::_,_::_,_,_=>rfl
 |a::x,b::y,c::z,h1,h2=>by
  rw[Mq]at h1 h2 ⊢;by_cases e:a=b
  .subst e;rw[AB rfl]at h1;by_cases e2:a=c
   .rw[AB e2]at h2 ⊢;exact Je h1 h2
   .rw[AD e2]at h2 ⊢;exact h2
  .rw[AD e]at h1;have l1:=CG h1;by_cases e2:b=c
   .subst e2;rw[AD e];exact h1
   .rw[AD e2]at h2;have l2:=CG h2;rw[AD (by omega)];exact AR (by omega)
noncomputable def rkI (ks:Ya) (k:Ye):Nat:=ks.countP λa=>AZ a k
theorem Pm {α:Type} {p q:α->Bool}:∀ {l:List α} {x:α},x∈l->p x=false->q x=true->(∀ y,p y=true->q y=true)->l.countP p<l.countP q
 |[],_,h,_,_,_=>by cases h
 |y::l,x,h,h1,h2,h3=>by
  have hm:l.countP p<=l.countP q:=List.countP_mono_left λz _ hz=>h3 z hz;rw[List.countP_cons,List.countP_cons];rcases AO.mp h with rfl|h
  .rw[h1,h2];simp;omega
  .have:=Pm h h1 h2 h3;cases hp:p y with
   |true=>rw[h3 y hp];simp;omega
   |false=>cases q y <;> simp <;> omega
def Nm {ks:Ya} {x y:Ye} (hx:x∈ks) (hy:y∈ks):AZ x y=decide (rkI ks x<rkI ks y):=by
 have go:∀ {x y:Ye},x∈ks->AZ x y=true->rkI ks x<rkI ks y:=λ{x y} hx h=>
  Pm hx (MX x) h λz hz=>Je hz h
 cases e:AZ x y with
 |true=>exact (AR (go hx e)).symm
 |false=>
  cases e2:AZ y x with
  |true=>have:=go hy e2;exact (AM (by omega)).symm
  |false=>rw[Iu e e2];exact (AM (by omega)).symm
section
variable {prog:Ym} {w:Yo} {A:Yn} {E:Yc} {s:Yl} {κ:SortKind} {vs:Yf}
def Bg.uniq (a:Bg h v xs) (b:Bg h v ys):xs=ys:=by
 obtain ⟨b1,o1,us,n1,rfl,h1,h2,h3,h4⟩:=a;obtain ⟨b2,o2,ws,n2,e,g1,g2,g3,g4⟩:=b;cases e;rw[h1]at g1;cases g1;rw[h3]at g3;cases g3;rw[<-h4.nums,<-g4.nums]
open Classical in
noncomputable def CT (h:Heap) (v:Yu):List Int:=if z:∃ xs,Bg h v xs then z.choose else []
def FP (t:Bg h v xs):CT h v=xs:=by
 unfold CT;rw[dif_pos ⟨xs,t⟩];exact Bg.uniq (Classical.choose_spec (⟨xs,t⟩:∃ xs,Bg h v xs)) t
def KJ (h:Heap) (vs:Yf):Prop:=∀ v∈vs,∃ x xs,Bg h v (x::xs)
noncomputable def rkV (h:Heap) (vs:Yf) (v:Yu):Nat:=rkI (vs.map (CT h)) (CT h v)
def WN (h:KJ s.heap vs):C2 prog w s (tuples' true) vs (rkV s.heap vs):=by
 intro A E x y Q hx hy q;obtain ⟨a,as,ha⟩:=h x hx;obtain ⟨b,bs,hb⟩:=h y hy;refine Zi ha hb ?_;rw[<-FP ha,<-FP hb,Nm (ks:=vs.map (CT s.heap)) (List.mem_map_of_mem hx) (List.mem_map_of_mem hy)];exact q
def ZE {F:Array Value->Prop} {a:Addr} {n:Nat} {P:Fin->Shared->Prop} (ho:s.heap.get? a=some (seqObj "list" vs.toArray n)) (hz:vs.length<=sizeLine)
  (hF:∀ out,F out->out.size=vs.length) (hs:vs.length<2->F vs.toArray)
  (hr:2<=vs.length -> ∀ h6:Heap,(∀ b o,b≠a->s.heap.get? b=some o->h6.get? b=some o)->(∀ (A:Yn) (E:Yc) (Q:SortKind->Shared->Prop),Q κ { s with heap:=h6 }->wpAny (model prog w) A (keyKind' vs.toArray) Q E { s with heap:=h6 }) /\
   ∀ (A:Yn) (E:Yc),wpS (model prog w) A E { s with heap:=h6 } sortRuns' (λ_ st=>failedOf st=none/\F ((arrOf st).map (·.2))) (SortSt.mk' κ (pairsOf vs) #[] 7 none))
  (h:∀ out,F out->P (.done (.ret .none)) { s with heap:=sortedHeap s.heap a vs out }):wpAny (model prog w) A (Builtin.«list.sort» ⟨[.ref a],[]⟩) P E s:=by
 have ha:a<s.heap.objs.size:=AH ho;rw[list_sort_plain];refine AA (listItems_at ho rfl (AA (listUpdate_at ho rfl ?_ (hsz:=by simpa using hz))));obtain ⟨e1,o1⟩:∃ e,(s.heap.update a (Obj.mapSeq λ_=> #[])).get? a=some (seqObj "list" #[] e):=⟨_,get?_update_seq ho λ_=> #[]⟩;refine AA (seqEpoch_at o1 rfl (AA (wpAny_newTuple ?_ (by simpa using hz))));refine AA (wpAny_newList (C7 ?_));generalize hH:((s.heap.update a (Obj.mapSeq λ_=> #[])).push (seqObj "tuple" vs.toArray 0)).push (seqObj "list" #[] 0)=h6;have k6:∀ b o,b≠a->s.heap.get? b=some o->h6.get? b=some o:=λb o hb e=>by
  rw[<-hH];exact AJ _ (AJ _ ((Dz _ _ (Ne.symm hb)).trans e))
 have o6:h6.get? a=some (seqObj "list" #[] e1):=by rw[<-hH];exact AJ _ (AJ _ o1)
 have fin:∀ st:SortSt,failedOf st=none->F ((arrOf st).map (·.2))->wpAny (model prog w) A (do
   let t:=(<- seqEpoch a) != e1;Builtin.List.listUpdate (.ref a) λ_=>(arrOf st).map (·.2);if let some e:=failedOf st then rule "list.sort.comparison-raised"; throw e
   if t then rule "list.sort.modified"; raiseError "ValueError" "list modified during sort"
   ret .none) P E { s with heap:=h6 }:=by
  intro st h1 h2;refine AA (seqEpoch_at o6 rfl (AA (listUpdate_at o6 rfl ?_ (hsz2:=by show (Array.map _ _).size<=_;rw[hF _ h2];omega))));rw[h1];simp only[bne_self_eq_false,Dl,if_false];refine AE ?_;have:=h _ h2;unfold sortedHeap at this;rw[hH]at this;exact this
 dsimp only;by_cases h2:vs.toArray.size<2
 .rw[AB h2,AB h2];refine AA (AE ?_);rw[StateT.run_pure];refine AA (AE ?_);refine fin (SortSt.mk' general' (vs.toArray.zip vs.toArray) #[] 7 none) rfl ?_;have e:((vs.toArray.zip vs.toArray).map (·.2))=vs.toArray:=by
   apply Array.toList_inj.mp;rw[Array.toList_map,Array.toList_zip,List.map_snd_zip (AG _)]
  show F ((vs.toArray.zip vs.toArray).map (·.2));rw[e];exact hs (by simpa using h2)
 .rw[AD h2,AD h2];obtain ⟨g1,g2⟩:=hr (by simp at h2;omega) h6 k6;refine AA (g1 _ _ _ ?_);refine AA (AX (g2 _ _) ?_ λ_ _ e=>e);rintro ⟨⟨⟩,st⟩ s' ⟨rfl,h3,h4⟩;exact fin st h3 h4
end
end ST
namespace L3
open L2 ST
noncomputable def kkI (xs:Ye):List Key:=xs.map .inl
noncomputable def fF:D->Option (List Int)
 |.tup ds=>BZ ds
 |_=>none
noncomputable def Fw:List D->Option (List (List Int))
 |[]=>some []
 |d::r=>match fF d,Fw r with
  |some x,some xs=>some (x::xs)
  |_,_=>none
theorem Oa:∀ {ds:List D} {xs:Ye},BZ ds=some xs->DU ds=some (kkI xs)
 |[],_,h=>by cases h;rfl
 |.int i::r,xs,h=>by
  unfold BZ at h;split at h
  .rename_i bs e;cases h;unfold DU;rw[Oa e];rfl
  .cases h
 |.non::_,_,h=>by cases h
 |.bl _::_,_,h=>by cases h
 |.str _::_,_,h=>by cases h
 |.tup _::_,_,h=>by cases h
 |.ref _::_,_,h=>by cases h
 |.fn _ _::_,_,h=>by cases h
theorem Q0:∀ {xs:Ye} {its:Yf},zX ((kkI xs).map kV) its->IntsAre its xs
 |[],_,h=>by cases h;exact .nil
 |x::xs,_,h=>by
  cases h with
  |cons r1 r2=>obtain ⟨t,rfl⟩:=r1;exact .cons _ _ (Q0 r2)
section
variable {X:Cx}
def Ss (o:Aq P w H h b (.tup ((kkI xs).map kV))):Bg h (.ref b) xs:=by
 obtain ⟨_,its,r,o,e,c,⟨n,d⟩,_⟩:=o;exact ⟨b,o,its.toArray,n,rfl,e,c,d,by simpa using Q0 r⟩
end
end L3
namespace ST
noncomputable def Pb:Bool->Keyed->Array Keyed->Nat->Nat->Nat->StateT SortSt Sem (Option Nat):=sortPriv% PySem.Builtin.gallop
noncomputable def U8:Array Keyed->Array Keyed->StateT SortSt Sem (Array Keyed):=sortPriv% PySem.Builtin.mergeLo
noncomputable def dZ:Array Keyed->Array Keyed->StateT SortSt Sem (Array Keyed):=sortPriv% PySem.Builtin.mergeHi
section
variable {prog:Ym} {w:Yo} {A:Yn} {E:Yc} {s:Yl} {κ:SortKind} {vs:Yf} {r:Yr}
def zu {arr:Array Keyed} {i:Nat} {p:Keyed} {st:SortSt} {Q:Keyed->SortSt->Prop} (h:arr[i]?=some p) (q:Q p st):wpS (model prog w) A E s (elem' arr i) Q st:=by
 rw[elem'_eq,h];exact wpS_pure q
noncomputable def Jk (bey:Nat->StateT SortSt Sem (Option Bool)) (n a0 b0:Nat):StateT SortSt Sem (Option Nat):=do
 let mut a:=a0
 let mut b:=b0
 for _ in [0:n] do
  if a≥b then break
  let m:=a+(b-a) / 2
  let some up <- bey m|return none
  if up then a:=m+1 else b:=m
 return some b
def RG {bey:Nat->StateT SortSt Sem (Option Bool)} {b:Nat->Bool} {n lo hi:Nat} {st:SortSt} {Q:Option Nat->SortSt->Prop} (hb:∀ i,i<n -> ∀ Q':Option Bool->SortSt->Prop,Q' (some (b i)) st->wpS (model prog w) A E s (bey i) Q' st)
  (mono:∀ i j,i<=j->j<n->b j=true->b i=true) (hlo:lo<=hi) (hhi:hi<=n) (h1:∀ i,i<lo->b i=true) (h2:∀ i,hi<=i->i<n->b i=false)
  (h:∀ k,k<=n->(∀ i,i<k->b i=true)->(∀ i,k<=i->i<n->b i=false)->Q (some k) st):wpS (model prog w) A E s (Jk bey n lo hi) Q st:=by
 unfold Jk;refine wpS_bind (wpS_mono (wpS_forRange (I:=λx c st'=>st'=st /\ ∃ lo hi,c=(none,lo,hi)/\lo<=hi/\hi<=n/\hi-lo<=n-x/\(∀ i,i<lo->b i=true)/\(∀ i,hi<=i->i<n->b i=false)) (Q:=λc st'=>st'=st /\ ∃ k,c=(none,k,k)/\k<=n/\(∀ i,i<k->b i=true)/\(∀ i,k<=i->i<n->b i=false)) ?step ?fin ⟨rfl,lo,hi,rfl,hlo,hhi,by omega,h1,h2⟩) ?post)
 case step=>
  rintro x c st' _ hx ⟨rfl,lo,hi,rfl,q1,q2,q3,q4,q5⟩;dsimp only;by_cases hge:lo≥hi
  .rw[AB hge];have:lo=hi:=by omega
   subst this;exact wpS_pure ⟨rfl,lo,rfl,q2,q4,q5⟩
  .rw[AD hge];refine wpS_bind (hb _ (by omega) _ ?_);dsimp only;cases e:b (lo+(hi-lo) / 2) with
   |true=>
    rw[AB rfl];exact wpS_pure ⟨rfl,_,_,rfl,by omega,q2,by omega,λi hi'=>mono i _ (by omega) (by omega) e,q5⟩
   |false=>
    rw[AD (by decide)];refine wpS_pure ⟨rfl,_,_,rfl,by omega,by omega,by omega,q4,λi h3 h4=>?_⟩;cases e2:b i with
    |false=>rfl
    |true=>rw[mono _ i h3 h4 e2]at e;cases e
 case fin=>
  rintro c st' ⟨rfl,lo,hi,rfl,q1,q2,q3,q4,q5⟩;have:lo=hi:=by omega
  subst this;exact ⟨rfl,lo,rfl,q2,q4,q5⟩
 case post=>
  rintro c st' ⟨rfl,k,rfl,q2,q4,q5⟩;exact wpS_pure (h k q2 q4 q5)
def cD {left:Bool} {key:Keyed} {arr:Array Keyed} {base n hint:Nat} {b:Nat->Bool} {st:SortSt} {Q:Option Nat->SortSt->Prop} (hh:hint<n)
  (hb:∀ i,i<n -> ∀ Q':Option Bool->SortSt->Prop,Q' (some (b i)) st->wpS (model prog w) A E s (do let x <- elem' arr (base+i);if left=true then lt' x key else do let y <- lt' key x;pure (y.map (!·))) Q' st)
  (mono:∀ i j,i<=j->j<n->b j=true->b i=true)
  (h:∀ k,k<=n->(∀ i,i<k->b i=true)->(∀ i,k<=i->i<n->b i=false)->Q (some k) st):wpS (model prog w) A E s (Pb left key arr base n hint) Q st:=by
 have no:∀ {i j},i<=j->j<n->b i=false->b j=false:=λ{i j} h1 h2 e=>by
  cases e2:b j with
  |false=>rfl
  |true=>rw[mono i j h1 h2 e2]at e;cases e
 have go:∀ lo hi,lo<=hi->hi<=n->(∀ i,i<lo->b i=true)->(∀ i,hi<=i->i<n->b i=false)->wpS (model prog w) A E s (Jk (λi=>do let x <- elem' arr (base+i);if left=true then lt' x key else do let y <- lt' key x;pure (y.map (!·))) n lo hi) Q st :=
  λlo hi a1 a2 a3 a4=>RG hb mono a1 a2 a3 a4 h
 refine wpS_bind (hb hint hh _ ?_);cases e:b hint with
 |true=>
  refine wpS_bind (wpS_mono (wpS_forRange (I:=λx c st'=>st'=st /\ ∃ la of,c=(none,la,of)/\la<of/\x+1<=of/\la<n-hint/\b (hint+la)=true) (Q:=λc st'=>st'=st /\ ∃ la of,c=(none,la,of)/\la<of/\la<n-hint/\b (hint+la)=true/\(n-hint<=of\/b (hint+of)=false)) ?step ?fin ⟨rfl,0,1,rfl,by omega,by omega,by omega,e⟩) ?post)
  case step=>
   rintro x c st' _ hx ⟨rfl,la,of,rfl,q1,q2,q3,q4⟩;dsimp only;by_cases hge:of≥n-hint
   .rw[AB hge];exact wpS_pure ⟨rfl,la,of,rfl,q1,q3,q4,.inl hge⟩
   .rw[AD hge];refine wpS_bind (hb _ (by omega) _ ?_);dsimp only;cases e2:b (hint+of) with
    |true=>
     rw[AD (by decide)];exact wpS_pure ⟨rfl,of,2*of+1,rfl,by omega,by omega,by omega,e2⟩
    |false=>
     rw[AB (by decide)];exact wpS_pure ⟨rfl,la,of,rfl,q1,q3,q4,.inr e2⟩
  case fin=>
   rintro c st' ⟨rfl,la,of,rfl,q1,q2,q3,q4⟩;exact ⟨rfl,la,of,rfl,q1,q3,q4,.inl (by omega)⟩
  case post=>
   rintro c st' ⟨rfl,la,of,rfl,q1,q3,q4,q5⟩;refine go (hint+la+1) (hint+min of (n-hint)) (by omega) (by omega) (λi hi=>mono i (hint+la) (by omega) (by omega) q4) (λi h1 h2=>?_);rcases q5 with q5|q5
   .omega
   .by_cases hc:n-hint<=of
    .omega
    .exact no (i:=hint+of) (by omega) h2 q5
 |false=>
  refine wpS_bind (wpS_mono (wpS_forRange (I:=λx c st'=>st'=st /\ ∃ la of,c=(none,la,of)/\la<of/\x+1<=of/\la<hint+1/\b (hint-la)=false) (Q:=λc st'=>st'=st /\ ∃ la of,c=(none,la,of)/\la<of/\la<hint+1/\b (hint-la)=false/\(hint+1<=of\/b (hint-of)=true)) ?step ?fin ⟨rfl,0,1,rfl,by omega,by omega,by omega,e⟩) ?post)
  case step=>
   rintro x c st' _ hx ⟨rfl,la,of,rfl,q1,q2,q3,q4⟩;dsimp only;by_cases hge:of≥hint+1
   .rw[AB hge];exact wpS_pure ⟨rfl,la,of,rfl,q1,q3,q4,.inl hge⟩
   .rw[AD hge];refine wpS_bind (hb _ (by omega) _ ?_);dsimp only;cases e2:b (hint-of) with
    |true=>
     rw[AB rfl];exact wpS_pure ⟨rfl,la,of,rfl,q1,q3,q4,.inr e2⟩
    |false=>
     rw[AD (by decide)];exact wpS_pure ⟨rfl,of,2*of+1,rfl,by omega,by omega,by omega,e2⟩
  case fin=>
   rintro c st' ⟨rfl,la,of,rfl,q1,q2,q3,q4⟩;exact ⟨rfl,la,of,rfl,q1,q3,q4,.inl (by omega)⟩
  case post=>
   rintro c st' ⟨rfl,la,of,rfl,q1,q3,q4,q5⟩;refine go (hint+1-min of (hint+1)) (hint-la) (by omega) (by omega) (λi hi=>?_) (λi h1 h2=>no (i:=hint-la) (by omega) h2 q4);rcases q5 with q5|q5
   .omega
   .by_cases hc:hint+1<=of
    .omega
    .exact mono i (hint-of) (by omega) (by omega) q5
end
structure MI (le:Keyed->Keyed->Prop) (C out l m:List Keyed):Prop where
 perm:(out++(l++m)).Perm C
 so:out.Pairwise le
 sl:l.Pairwise le
 sm:m.Pairwise le
 ol:∀ x∈out,∀ y∈l,le x y
 om:∀ x∈out,∀ y∈m,le x y
section
variable {le:Keyed->Keyed->Prop} {C out l m p:List Keyed}
def MI.takeL (h:MI le C out (p++l) m) (hp:∀ x∈p,∀ y∈m,le x y):MI le C (out++p) l m:=by
 have sl:=List.pairwise_append.mp h.sl;refine ⟨by have:=h.perm;simpa using this,List.pairwise_append.mpr ⟨h.so,sl.1,λx hx y hy=>h.ol x hx y (Cr _ hy)⟩,sl.2.1,h.sm,λx hx y hy=>?_,λx hx y hy=>?_⟩
 .rcases AS.mp hx with z|z
  .exact h.ol x z y (Ar _ hy)
  .exact sl.2.2 x z y hy
 .rcases AS.mp hx with z|z
  .exact h.om x z y hy
  .exact hp x z y hy
def MI.takeR (h:MI le C out l (p++m)) (hp:∀ x∈p,∀ y∈l,le x y):MI le C (out++p) l m:=by
 have sm:=List.pairwise_append.mp h.sm;refine ⟨?_,List.pairwise_append.mpr ⟨h.so,sm.1,λx hx y hy=>h.om x hx y (Cr _ hy)⟩,h.sl,sm.2.1,λx hx y hy=>?_,λx hx y hy=>?_⟩
 .refine List.Perm.trans ?_ h.perm;rw[DJ];refine List.Perm.append_left _ ?_;rw[<-DJ,<-DJ];exact List.Perm.append_right _ List.perm_append_comm
 .rcases AS.mp hx with z|z
  .exact h.ol x z y hy
  .exact hp x z y hy
 .rcases AS.mp hx with z|z
  .exact h.om x z y (Ar _ hy)
  .exact sm.2.2 x z y hy
def Mgd (le:Keyed->Keyed->Prop) (C:List Keyed) (out:List Keyed):Prop:=out.Perm C/\out.Pairwise le
def MI.endL (h:MI le C out l []):Mgd le C (out++l):=⟨by have:=h.perm;simpa using this,List.pairwise_append.mpr ⟨h.so,h.sl,h.ol⟩⟩
def MI.endR (h:MI le C out [] m):Mgd le C (out++m):=⟨by have:=h.perm;simpa using this,List.pairwise_append.mpr ⟨h.so,h.sm,h.om⟩⟩
def MI.last (h:MI le C out l m) (hl:∀ y∈m,∀ x∈l,le y x):Mgd le C (out++m++l):=by
 have h2:MI le C (out++m) l []:=MI.takeR (p:=m) (m:=[]) (by simpa using h) hl;exact h2.endL
end
section
variable {prog:Ym} {w:Yo} {A:Yn} {E:Yc} {s:Yl} {κ:SortKind} {vs:Yf} {r:Yr}
abbrev leR (r:Yr) (x y:Keyed):Prop:=r x.1<=r y.1
abbrev geR (r:Yr) (x y:Keyed):Prop:=r y.1<=r x.1
structure SameS (st st':SortSt):Prop where
 k:kindOf st'=kindOf st
 a:arrOf st'=arrOf st
 p:pendingOf st'=pendingOf st
 f:failedOf st'=failedOf st
def SameS.refl (st:SortSt):SameS st st:=⟨rfl,rfl,rfl,rfl⟩
def Gw (R:C2 prog w s κ vs r) {left:Bool} {key:Keyed} {arr:Array Keyed} {base n hint:Nat} {st:SortSt} {Q:Option Nat->SortSt->Prop} (hk:kindOf st=κ) (hkey:key.1∈vs) (harr:∀ i,i<n -> ∃ x,arr[base+i]?=some x/\x.1∈vs)
  (srt:∀ i j x y,i<=j->j<n->arr[base+i]?=some x->arr[base+j]?=some y->r x.1<=r y.1) (hh:hint<n)
  (h:∀ k,k<=n->(∀ i x,i<k->arr[base+i]?=some x->if left then r x.1<r key.1 else r x.1<=r key.1)->(∀ i x,k<=i->i<n->arr[base+i]?=some x->if left then r key.1<=r x.1 else r key.1<r x.1)->Q (some k) st) :
  wpS (model prog w) A E s (Pb left key arr base n hint) Q st:=by
 let b:Nat->Bool:=λi=>match arr[base+i]? with
  |some x=>if left then decide (r x.1<r key.1) else decide (r x.1<=r key.1)
  |none=>false
 have bx:∀ {i x},arr[base+i]?=some x->b i=if left then decide (r x.1<r key.1) else decide (r x.1<=r key.1):=λ{i x} e=>by
  show (match arr[base+i]? with|some x=>_|none=>_)=_;rw[e]
 refine cD (b:=b) hh (λi hi Q' q=>?_) (λi j hij hj e=>?_) λk hk h1 h2=>h k hk (λi x hi e=>?_) (λi x hi hn e=>?_)
 .obtain ⟨x,ex,hx⟩:=harr i hi;rw[bx ex]at q;refine wpS_bind (zu ex ?_);cases left with
  |true=>
   rw[AB rfl]at q ⊢;exact Hs R hk hx hkey q
  |false=>
   rw[AD (by decide)]at q ⊢;refine wpS_bind (Hs R hk hkey hx (wpS_pure ?_));have:(!decide (r key.1<r x.1))=decide (r x.1<=r key.1):=by
    by_cases z:r key.1<r x.1
    .rw[AR z,AM (by omega)];rfl
    .rw[AM z,AR (by omega)];rfl
   show Q' (some (!decide (r key.1<r x.1))) st;rw[this];exact q
 .obtain ⟨x,ex,_⟩:=harr i (by omega);obtain ⟨y,ey,_⟩:=harr j hj;have:=srt i j x y hij hj ex ey;rw[bx ex];rw[bx ey]at e;cases left with
  |true=>rw[AB rfl]at e ⊢;have:=CG e;exact AR (by omega)
  |false=>rw[AD (by decide)]at e ⊢;have:=CG e;exact AR (by omega)
 .have q:=h1 i hi;rw[bx e]at q;cases left with
  |true=>rw[AB rfl]at q ⊢;exact CG q
  |false=>rw[AD (by decide)]at q ⊢;exact CG q
 .have q:=h2 i hi hn;rw[bx e]at q;cases left with
  |true=>rw[AB rfl]at q ⊢;have:=of_decide_eq_false q;omega
  |false=>rw[AD (by decide)]at q ⊢;have:=of_decide_eq_false q;omega
def ML (r:Yr) (a b out:Array Keyed) (ia ib:Nat):Prop:=MI (leR r) (a.toList++b.toList) out.toList (a.toList.drop ia) (b.toList.drop ib)
variable {a b out:Array Keyed} {ia ib:Nat}
def Ie (e:a[i]?=some x):a.toList.drop i=x::a.toList.drop (i+1):=by
 obtain ⟨hi,rfl⟩:=Array.getElem?_eq_some_iff.mp e;rw[List.drop_eq_getElem_cons (by simpa using hi)];simp
def Kf (h:x∈a.toList.drop i):∃ j,i<=j/\a[j]?=some x:=by
 obtain ⟨j,e⟩:=List.mem_iff_getElem?.mp h;rw[List.getElem?_drop,CC]at e;exact ⟨i+j,by omega,e⟩
def ML.pushB (h:ML r a b out ia ib) (e:b[ib]?=some y) (hy:∀ x∈a.toList.drop ia,r y.1<=r x.1):ML r a b (out.push y) ia (ib+1):=by
 unfold ML at h ⊢;rw[Ie e]at h;rw[Array.toList_push];exact MI.takeR (p:=[y]) h λx hx z hz=>by rw[BC.mp hx];exact hy z hz
def ML.pushA (h:ML r a b out ia ib) (e:a[ia]?=some x) (hx:∀ y∈b.toList.drop ib,r x.1<=r y.1):ML r a b (out.push x) (ia+1) ib:=by
 unfold ML at h ⊢;rw[Ie e]at h;rw[Array.toList_push];exact MI.takeL (p:=[x]) h λy hy z hz=>by rw[BC.mp hy];exact hx z hz
def LR (a:Array Keyed) (i k:Nat):(a.extract i (i+k)).toList=(a.toList.drop i).take k:=by
 rw[Array.toList_extract,List.extract_eq_take_drop];simp
def ML.blockA (h:ML r a b out ia ib) (k:Nat) (hx:∀ x∈(a.toList.drop ia).take k,∀ y∈b.toList.drop ib,r x.1<=r y.1):ML r a b (out++a.extract ia (ia+k)) (ia+k) ib:=by
 unfold ML at h ⊢;rw[Array.toList_append,LR];rw[<-E8 k (a.toList.drop ia),List.drop_drop]at h;exact MI.takeL h hx
def ML.blockB (h:ML r a b out ia ib) (k:Nat) (hx:∀ x∈(b.toList.drop ib).take k,∀ y∈a.toList.drop ia,r x.1<=r y.1):ML r a b (out++b.extract ib (ib+k)) ia (ib+k):=by
 unfold ML at h ⊢;rw[Array.toList_append,LR];rw[<-E8 k (b.toList.drop ib),List.drop_drop]at h;exact MI.takeR h hx
def JV (a:Array Keyed) (i:Nat):(a.extract i a.size).toList=a.toList.drop i:=by
 rw[Array.toList_extract,List.extract_eq_take_drop,Gs (by simp)]
def ML.done (h:ML r a b out ia ib) (e:a.size<=ia\/b.size<=ib):Mgd (leR r) (a.toList++b.toList) (out++a.extract ia a.size++b.extract ib b.size).toList:=by
 unfold ML at h;rw[Array.toList_append,Array.toList_append,JV,JV];rcases e with e|e
 .rw[List.drop_eq_nil_of_le (by simpa using e)]at h ⊢;simpa using h.endR
 .rw[List.drop_eq_nil_of_le (as:=b.toList) (by simpa using e)]at h ⊢;simpa using h.endL
def ML.lastA (h:ML r a b out ia ib) (hl:∀ y∈b.toList.drop ib,∀ x∈a.toList.drop ia,r y.1<=r x.1):Mgd (leR r) (a.toList++b.toList) (out++b.extract ib b.size++a.extract ia a.size).toList:=by
 unfold ML at h;rw[Array.toList_append,Array.toList_append,JV,JV];exact h.last hl
def ML.headA (h:ML r a b out ia ib) (e:a[ia]?=some x):∀ z∈a.toList.drop ia,r x.1<=r z.1:=by
 have:=h.sl;rw[Ie e]at this ⊢;intro z hz;rcases AO.mp hz with q|q
 .rw[q];exact AG _
 .exact (CD.mp this).1 z q
def ML.headB (h:ML r a b out ia ib) (e:b[ib]?=some y):∀ z∈b.toList.drop ib,r y.1<=r z.1:=by
 have:=h.sm;rw[Ie e]at this ⊢;intro z hz;rcases AO.mp hz with q|q
 .rw[q];exact AG _
 .exact (CD.mp this).1 z q
end
section
variable {prog:Ym} {w:Yo} {A:Yn} {E:Yc} {s:Yl} {κ:SortKind} {vs:Yf} {r:Yr} {a b:Array Keyed}
structure Fr1 (r:Yr) (a b:Array Keyed) (st st':SortSt) (out:Array Keyed) (ia ib:Nat):Prop where
 m:ML r a b out ia ib
 s:SameS st st'
 ha:ia+1<a.size
 hb:ib<b.size
def Cw {a:Array Keyed} {i:Nat} {x:Keyed} (e:a[i]?=some x):x∈a.toList:=by
 obtain ⟨hi,rfl⟩:=Array.getElem?_eq_some_iff.mp e;simp
def zW {α:Type} {c:Prop} [Decidable c] {m1 m2:StateT SortSt Sem α} {Q:α->SortSt->Prop} {st:SortSt} (h1:c->wpS (model prog w) A E s m1 Q st) (h2:¬ c->wpS (model prog w) A E s m2 Q st):wpS (model prog w) A E s (if c then m1 else m2) Q st:=by
 split
 .exact h1 (by assumption)
 .exact h2 (by assumption)
def EM {a:Array Keyed} (sa:a.toList.Pairwise (leR r)) {i j:Nat} {x y:Keyed} (hij:i<=j) (ex:a[i]?=some x) (ey:a[j]?=some y):r x.1<=r y.1:=by
 by_cases e:i=j
 .subst e;rw[ex]at ey;cases ey;exact AG _
 .obtain ⟨hi,rfl⟩:=Array.getElem?_eq_some_iff.mp ex;obtain ⟨hj,rfl⟩:=Array.getElem?_eq_some_iff.mp ey;have:=List.pairwise_iff_getElem.mp sa i j (by simpa using hi) (by simpa using hj) (by omega);simpa using this
def Ir (h:x∈(a.toList.drop i).take k):∃ j,j<k/\a[i+j]?=some x:=by
 obtain ⟨j,e⟩:=List.mem_iff_getElem?.mp h;rw[List.getElem?_take]at e;split at e
 .rw[List.getElem?_drop,CC]at e;exact ⟨j,by assumption,e⟩
 .cases e
def Be (h:i<a.size):a[i]?=some a[i]:=EF h
def Ao {α β:Type} {x:StateT SortSt Sem α} {f:α->StateT SortSt Sem β} {Q:β->SortSt->Prop} {st:SortSt} {S:(α->SortSt->Prop)->Prop} (h:∀ P,S P->wpS (model prog w) A E s x P st) (g:S λv st=>wpS (model prog w) A E s (f v) Q st):wpS (model prog w) A E s (x >>= f) Q st:=wpS_bind (h _ g)
set_option maxHeartbeats 4000000 in
def Vm (R:C2 prog w s κ vs r) (ha:∀ x∈a.toList,x.1∈vs) (hb:∀ x∈b.toList,x.1∈vs) (sa:a.toList.Pairwise (leR r)) (sb:b.toList.Pairwise (leR r)) (h0:0<a.size) (h1:0<b.size)
  (hf:∀ y,b[0]?=some y -> ∀ x∈a.toList,r y.1<=r x.1) (hl:∀ y∈b.toList,∀ x,a[a.size-1]?=some x->r y.1<=r x.1) {st:SortSt} (hk:kindOf st=κ) {Q:Array Keyed->SortSt->Prop}
  (h:∀ out st',SameS st st'->Mgd (leR r) (a.toList++b.toList) out.toList->Q out st'):wpS (model prog w) A E s (U8 a b) Q st:=by
 have lastA:∀ {out ia ib},ML r a b out ia ib->ia+1=a.size->Mgd (leR r) (a.toList++b.toList) (out++b.extract ib b.size++a.extract ia a.size).toList:=λ{out ia ib} m e=>m.lastA λy hy x hx=>by
  obtain ⟨j,hj,ej⟩:=Kf hx;have hj2:=(Array.getElem?_eq_some_iff.mp ej).1;exact hl y (EL hy) x (by rw[show a.size-1=j by omega];exact ej)
 refine Ao (λP g=>wpS_lift (CA ⟨rfl,g⟩)) ?_;refine Ao (λP g=>zu (Be h1) g) ?_;have m0:ML r a b #[] 0 0:=⟨List.Perm.refl _,.nil,sa,sb,(λx hx=>absurd hx (by simp)),(λx hx=>absurd hx (by simp))⟩;have m1:ML r a b #[b[0]] 0 1:=m0.pushB (Be h1) (hf _ (Be h1));refine zW (λc1=>wpS_pure (h _ _ (.refl _) (m1.done (.inr (Nat.le_of_eq (show b.size=1 by simpa using (by simpa using c1:1=b.size).symm)))))) (λc1=>?_);refine zW (λc2=>wpS_pure (h _ _ (.refl _) (lastA m1 (by simpa using c2)))) (λc2=>?_);replace c1:¬ 1=b.size:=by simpa using c1
 replace c2:¬ 0+1=a.size:=by simpa using c2
 refine Ao (λP g=>wpS_get g) ?_;refine wpS_bind (wpS_mono (wpS_forRange (I:=λx c st'=>∃ out ia ib g,c=(none,out,ia,ib,g)/\Fr1 r a b st st' out ia ib/\x+1<=ia+ib) (Q:=λc st'=>∃ res,c.1=some res/\SameS st st'/\Mgd (leR r) (a.toList++b.toList) res.toList) ?step ?fin ⟨_,_,_,_,rfl,⟨m1,.refl _,by omega,by omega⟩,by omega⟩) ?post)
 case fin=>
  intro c st' hI;refine Classical.byContradiction λG=>?_;obtain ⟨out,ia,ib,g,eI1,f,hx⟩:=hI;refine G ?_;clear G;subst eI1;have:=f.ha;have:=f.hb;omega
 case post=>
  rintro ⟨c1,c2⟩ st' ⟨res,e,hs,hm⟩;dsimp only at e;subst e;exact wpS_pure (h _ _ hs hm)
 case step=>
  intro x c st' _ hx hI;refine Classical.byContradiction λG=>?_;obtain ⟨out,ia,ib,g,eI1,f,hx2⟩:=hI;refine G ?_;clear G;subst eI1;dsimp only;refine Ao (λP=>wpS_mono (wpS_forRange (I:=λy c st'=>∃ out2 ia2 ib2 ca cb,c=(none,out2,ia2,ib2,ca,cb)/\Fr1 r a b st st' out2 ia2 ib2/\ia+ib+y<=ia2+ib2) (Q:=λc st'=>(∃ res,c.1=some res/\SameS st st'/\Mgd (leR r) (a.toList++b.toList) res.toList) \/ ∃ out2 ia2 ib2 ca cb,c=(none,out2,ia2,ib2,ca,cb)/\Fr1 r a b st st' out2 ia2 ib2/\ia+ib+1<=ia2+ib2) ?step1 ?fin1 ⟨_,_,_,_,_,rfl,f,by omega⟩)) ?post1
  case fin1=>
   intro c st' hI;refine Classical.byContradiction λG=>?_;obtain ⟨out2,ia,ib,ca,cb,eI1,f,hy⟩:=hI;refine G ?_;clear G;subst eI1;exact .inr ⟨_,_,_,_,_,rfl,f,by omega⟩
  case step1=>
   intro y c st' _ hy hI;refine Classical.byContradiction λG=>?_;obtain ⟨out2,ia,ib,ca,cb,eI1,f,hy2⟩:=hI;refine G ?_;clear G;subst eI1;dsimp only;have hia:ia<a.size:=by have:=f.ha;omega
   have hib:=f.hb;have eb:b[ib]?=some b[ib]:=Be hib;have ea:a[ia]?=some a[ia]:=Be hia;have hkk:kindOf st'=κ:=f.s.k.trans hk;refine Ao (λP g=>zu eb g) (Ao (λP g=>zu ea g) (Ao (λP g=>Hs R hkk (hb _ (Cw eb)) (ha _ (Cw ea)) g) ?_));refine zW (λhlt=>?_) (λhlt=>?_)
   .replace hlt:=CG hlt;refine Ao (λP g=>zu eb g) ?_;have m2:ML r a b (out2.push b[ib]) ia (ib+1):=f.m.pushB eb λz hz=>by have:=f.m.headA ea z hz;omega
    refine zW (λc3=>wpS_pure (.inl ⟨_,rfl,f.s,m2.done (.inr (Nat.le_of_eq (show ib+1=b.size by simpa using c3).symm))⟩)) (λc3=>?_);have f2:Fr1 r a b st st' (out2.push b[ib]) ia (ib+1):=⟨m2,f.s,f.ha,by simp at c3;omega⟩;exact zW (λ_=>wpS_pure (.inr ⟨_,_,_,_,_,rfl,f2,by omega⟩)) (λ_=>wpS_pure ⟨_,_,_,_,_,rfl,f2,by omega⟩)
   .replace hlt:¬ _:=λh=>hlt (AR h);refine Ao (λP g=>zu ea g) ?_;have m2:ML r a b (out2.push a[ia]) (ia+1) ib:=f.m.pushA ea λz hz=>by have:=f.m.headB eb z hz;omega
    refine zW (λc3=>wpS_pure (.inl ⟨_,rfl,f.s,lastA m2 (by simpa using c3)⟩)) (λc3=>?_);have f2:Fr1 r a b st st' (out2.push a[ia]) (ia+1) ib:=⟨m2,f.s,by have:=f.ha;simp at c3;omega,f.hb⟩;exact zW (λ_=>wpS_pure (.inr ⟨_,_,_,_,_,rfl,f2,by omega⟩)) (λ_=>wpS_pure ⟨_,_,_,_,_,rfl,f2,by omega⟩)
  case post1=>
   intro c st' hI;refine Classical.byContradiction λG=>?_;obtain ⟨res,e,hs,hm⟩|⟨out2,ia,ib,ca,cb,e,f,hy⟩:=hI
   .obtain ⟨c2,rfl⟩:∃ c2,c=(some res,c2):=⟨c.2,by cases c;cases e;rfl⟩;exact G (wpS_pure ⟨res,rfl,hs,hm⟩)
   .refine G ?_;clear G;subst e;dsimp only;refine Ao (λP g=>wpS_lift (CA ⟨rfl,g⟩)) ?_;refine wpS_bind (wpS_mono (wpS_forRange (I:=λy c st'=>∃ out3 ia3 ib3 g ca cb,c=(none,out3,ia3,ib3,g,ca,cb)/\Fr1 r a b st st' out3 ia3 ib3/\ia+ib<=ia3+ib3) (Q:=λc st'=>(∃ res,c.1=some res/\SameS st st'/\Mgd (leR r) (a.toList++b.toList) res.toList) \/ ∃ out3 ia3 ib3 g ca cb,c=(none,out3,ia3,ib3,g,ca,cb)/\Fr1 r a b st st' out3 ia3 ib3/\ia+ib<=ia3+ib3) ?step2 ?fin2 ⟨_,_,_,_,_,_,rfl,f,by omega⟩) ?post2)
    case fin2=>
     intro c st' hI;refine Classical.byContradiction λG=>?_;obtain ⟨out3,ia,ib,g,ca,cb,eI1,f,hy⟩:=hI;refine G ?_;clear G;subst eI1;exact .inr ⟨_,_,_,_,_,_,rfl,f,hy⟩
    case post2=>
     intro c st' hI;refine Classical.byContradiction λG=>?_;obtain ⟨res,e,hs,hm⟩|⟨out3,ia,ib,g,ca,cb,e,f,hz⟩:=hI
     .obtain ⟨c2,rfl⟩:∃ c2,c=(some res,c2):=⟨c.2,by cases c;cases e;rfl⟩;exact G (wpS_pure ⟨res,rfl,hs,hm⟩)
     .refine G ?_;clear G;subst e;dsimp only;refine wpS_bind (wpS_modify (wpS_pure ⟨_,_,_,_,rfl,⟨f.m,⟨f.s.k,f.s.a,f.s.p,f.s.f⟩,f.ha,f.hb⟩,by omega⟩))
    case step2=>
     intro y c st' _ hy hI;refine Classical.byContradiction λG=>?_;obtain ⟨out3,ia,ib,g,ca,cb,eI1,f,hy2⟩:=hI;refine G ?_;clear G;subst eI1;have hia:ia<a.size:=by have:=f.ha;omega
     have hib:=f.hb;have eb:b[ib]?=some b[ib]:=Be hib;dsimp only;refine zW (λcg=>?_) (λcg=>?_);clear cg;generalize g-1=g';revert g';refine ?K;rotate_left;clear cg;exact ?K _;intro g';refine Ao (λP g=>wpS_modify g) ?_;refine Ao (λP g=>zu eb g) ?_;have hs2:=f.s;refine Ao (λP=>Gw (left:=false) (key:=b[ib]) (arr:=a) (base:=ia) (n:=a.size-ia) (hint:=0) R (hs2.k.trans hk) (hb _ (Cw eb)) (λi hi=>⟨_,Be (by omega),ha _ (Cw (Be (by omega)))⟩) (λi j x y hij hj ex ey=>EM sa (by omega) ex ey) (by omega)) λk hk1 g1 g2=>?_;have aft:∀ x∈a.toList.drop (ia+k),r b[ib].1<=r x.1:=λx hx=>by
      obtain ⟨j,hj,ej⟩:=Kf hx;have hj2:=(Array.getElem?_eq_some_iff.mp ej).1;have:=g2 (j-ia) x (by omega) (by omega) (by rw[show ia+(j-ia)=j by omega];exact ej);exact Dd this
     refine zW (λhk0=>?_) (λhk0=>?_);have m4:=f.m.blockA k λx hx z hz=>by
      obtain ⟨i,hi,ei⟩:=Ir hx;have:r x.1<=r b[ib].1:=g1 i x hi ei;have:=f.m.headB eb z hz;omega
     refine zW (λc4=>wpS_pure (.inl ⟨_,rfl,⟨hs2.k,hs2.a,hs2.p,hs2.f⟩,lastA m4 (show ia+k+1=a.size by simpa using c4)⟩)) (λc4=>zW (λc5=>wpS_pure (.inl ⟨_,rfl,⟨hs2.k,hs2.a,hs2.p,hs2.f⟩,m4.done (.inl (Nat.le_of_eq (show a.size=ia+k by simpa using (by simpa using c5:ia+k=a.size).symm)))⟩)) (λc5=>?_));have a4:ia+k+1<a.size:=by simp at c4 c5;omega
     have l4:ia<=ia+k:=Fd _ _;clear c4 c5 hk0;generalize out3++a.extract ia (ia+k)=o4 at m4 ⊢;generalize ia+k=i4 at m4 a4 l4 aft ⊢;revert aft;revert l4;revert a4;revert m4;revert i4;revert o4;refine ?K2;rotate_left;have hk00:k=0:=by omega
     exact ?K2 _ _ f.m f.ha (AG _) (λx hx=>aft x (by rw[hk00];exact hx));intro o4 i4 m4 a4 l4 aft;refine Ao (λP g=>zu eb g) ?_;have m5:=m4.pushB eb aft;refine zW (λc6=>wpS_pure (.inl ⟨_,rfl,⟨hs2.k,hs2.a,hs2.p,hs2.f⟩,m5.done (.inr (Nat.le_of_eq (show ib+1=b.size by simpa using c6).symm))⟩)) (λc6=>?_);have c6':ib+1<b.size:=by simp at c6;omega
     have ea4:=Be (Nat.lt_of_succ_lt a4);refine Ao (λP g=>zu ea4 g) ?_;refine Ao (λP=>Gw (left:=true) (arr:=b) (base:=ib+1) (n:=b.size-(ib+1)) (hint:=0) R (hs2.k.trans hk) (ha _ (Cw ea4)) (λi hi=>⟨_,Be (by omega),hb _ (Cw (Be (by omega)))⟩) (λi j x y hij hj ex ey=>EM sb (by omega) ex ey) (by omega)) λk2 hk2 g3 g4=>?_;have aft2:∀ y∈b.toList.drop (ib+1+k2),_<=r y.1:=λy hy=>by
      obtain ⟨j,hj,ej⟩:=Kf hy;have hj2:=(Array.getElem?_eq_some_iff.mp ej).1;exact g4 (j-(ib+1)) y (by omega) (by omega) (by rw[show ib+1+(j-(ib+1))=j by omega];exact ej)
     refine zW (λhk3=>?_) (λhk3=>?_);have m6:=m5.blockB k2 λx hx z hz=>by
      obtain ⟨i,hi,ei⟩:=Ir hx;exact Dd (Ax (g3 i x hi ei) (m5.headA ea4 z hz))
     refine zW (λc7=>wpS_pure (.inl ⟨_,rfl,⟨hs2.k,hs2.a,hs2.p,hs2.f⟩,m6.done (.inr (Nat.le_of_eq (show ib+1+k2=b.size by simpa using c7).symm))⟩)) (λc7=>?_);have b6:ib+1+k2<b.size:=by simp at c7;omega
     have l6:ib+1<=ib+1+k2:=Fd _ _;clear c7 hk3;generalize o4.push b[ib]++b.extract (ib+1) (ib+1+k2)=o6 at m6 ⊢;generalize ib+1+k2=i6 at m6 b6 l6 aft2 ⊢;revert aft2;revert l6;revert b6;revert m6;revert i6;revert o6;refine ?K3;rotate_left;have hk00:k2=0:=by omega
     exact ?K3 _ _ m5 c6' (AG _) (λx hx=>aft2 x (by rw[hk00];exact hx));intro o6 i6 m6 b6 l6 aft2;refine Ao (λP g=>zu ea4 g) ?_;have m7:=m6.pushA ea4 aft2;refine zW (λc8=>wpS_pure (.inl ⟨_,rfl,⟨hs2.k,hs2.a,hs2.p,hs2.f⟩,lastA m7 (by simpa using c8)⟩)) (λc8=>?_);have a7:i4+1+1<a.size:=by simp at c8;omega
     have l7:_<=i4+1+i6:=BA hy2 (by omega);exact zW (λ_=>wpS_pure (.inr ⟨_,_,_,_,_,_,rfl,⟨m7,⟨hs2.k,hs2.a,hs2.p,hs2.f⟩,a7,b6⟩,l7⟩)) (λ_=>wpS_pure ⟨_,_,_,_,_,_,rfl,⟨m7,⟨hs2.k,hs2.a,hs2.p,hs2.f⟩,a7,b6⟩,l7⟩)
end
section
variable {prog:Ym} {w:Yo} {A:Yn} {E:Yc} {s:Yl} {κ:SortKind} {vs:Yf} {r:Yr} {a b out:Array Keyed} {na nb:Nat}
def MH (r:Yr) (a b out:Array Keyed) (na nb:Nat):Prop:=MI (geR r) (a.toList++b.toList) out.toList (a.toList.take na).reverse (b.toList.take nb).reverse
def O6 (e:a[i]?=some x):(a.toList.take (i+1)).reverse=x::(a.toList.take i).reverse:=by
 rw[List.take_add_one,CC,e];simp
def F7 (h:x∈a.toList.take n):∃ j,j<n/\a[j]?=some x:=by
 obtain ⟨j,e⟩:=List.mem_iff_getElem?.mp h;rw[List.getElem?_take]at e;split at e
 .rw[CC]at e;exact ⟨j,by assumption,e⟩
 .cases e
def MH.pushA (h:MH r a b out (na+1) nb) (e:a[na]?=some x) (hx:∀ y∈b.toList.take nb,r y.1<=r x.1):MH r a b (out.push x) na nb:=by
 unfold MH at h ⊢;rw[O6 e]at h;rw[Array.toList_push];exact MI.takeL (p:=[x]) h λy hy z hz=>by rw[BC.mp hy];exact hx z (by simpa using hz)
def MH.pushB (h:MH r a b out na (nb+1)) (e:b[nb]?=some y) (hy:∀ x∈a.toList.take na,r x.1<=r y.1):MH r a b (out.push y) na nb:=by
 unfold MH at h ⊢;rw[O6 e]at h;rw[Array.toList_push];exact MI.takeR (p:=[y]) h λx hx z hz=>by rw[BC.mp hx];exact hy z (by simpa using hz)
def Qr (a:Array Keyed) (h:i<=n):(a.toList.take n).reverse=(a.extract i n).reverse.toList++(a.toList.take i).reverse:=by
 rw[Array.toList_reverse,Array.toList_extract,List.extract_eq_take_drop,<-List.reverse_append];congr 1;rw[<-List.drop_take];conv=>lhs;rw[<-E8 i (a.toList.take n),List.take_take,Nat.min_eq_left h]
def MH.blockA (h:MH r a b out na nb) (hi:i<=na) (hx:∀ j x,i<=j->j<na->a[j]?=some x -> ∀ y∈b.toList.take nb,r y.1<=r x.1):MH r a b (out++(a.extract i na).reverse) i nb:=by
 unfold MH at h ⊢;rw[Qr a hi]at h;rw[Array.toList_append];refine MI.takeL h λx hx' y hy=>?_;rw[Array.toList_reverse,List.mem_reverse,Array.toList_extract,List.extract_eq_take_drop]at hx';obtain ⟨j,hj,ej⟩:=Ir hx';exact hx (i+j) x (by omega) (by omega) ej y (by simpa using hy)
def MH.blockB (h:MH r a b out na nb) (hi:i<=nb) (hx:∀ j x,i<=j->j<nb->b[j]?=some x -> ∀ y∈a.toList.take na,r y.1<=r x.1):MH r a b (out++(b.extract i nb).reverse) na i:=by
 unfold MH at h ⊢;rw[Qr b hi]at h;rw[Array.toList_append];refine MI.takeR h λx hx' y hy=>?_;rw[Array.toList_reverse,List.mem_reverse,Array.toList_extract,List.extract_eq_take_drop]at hx';obtain ⟨j,hj,ej⟩:=Ir hx';exact hx (i+j) x (by omega) (by omega) ej y (by simpa using hy)
def Jf (a:Array Keyed) (n:Nat):(a.extract 0 n).toList=a.toList.take n:=by
 rw[Array.toList_extract,List.extract_eq_take_drop];simp
def Mgd.rev (h:Mgd (geR r) C xs):Mgd (leR r) C xs.reverse:=⟨(List.reverse_perm _).trans h.1,List.pairwise_reverse.mpr h.2⟩
def MH.done (h:MH r a b out na nb) (e:na=0\/nb=0):Mgd (leR r) (a.toList++b.toList) (a.extract 0 na++b.extract 0 nb++out.reverse).toList:=by
 unfold MH at h;rw[Array.toList_append,Array.toList_append,Jf,Jf,Array.toList_reverse];rcases e with rfl|rfl
 .have:=h.endR.rev;simpa using this
 .have:=(MI.endL (l:=(a.toList.take na).reverse) (by simpa using h)).rev;simpa using this
def MH.firstB (h:MH r a b out na nb) (hl:∀ x∈a.toList.take na,∀ y∈b.toList.take nb,r y.1<=r x.1):Mgd (leR r) (a.toList++b.toList) (b.extract 0 nb++a.extract 0 na++out.reverse).toList:=by
 unfold MH at h;have h2:=MI.endR (MI.takeL (p:=(a.toList.take na).reverse) (l:=[]) (by simpa using h) λx hx y hy=>hl x (by simpa using hx) y (by simpa using hy));rw[Array.toList_append,Array.toList_append,Jf,Jf,Array.toList_reverse];simpa using h2.rev
structure Fr2 (r:Yr) (a b:Array Keyed) (st st':SortSt) (out:Array Keyed) (na nb:Nat):Prop where
 m:MH r a b out na nb
 s:SameS st st'
 a0:0<na
 b0:1<nb
 al:na<a.size
 bl:nb<=b.size
set_option maxHeartbeats 4000000 in
def Xo (R:C2 prog w s κ vs r) (ha:∀ x∈a.toList,x.1∈vs) (hb:∀ x∈b.toList,x.1∈vs) (sa:a.toList.Pairwise (leR r)) (sb:b.toList.Pairwise (leR r)) (h0:0<a.size) (h1:0<b.size)
  (hf:∀ y,b[0]?=some y -> ∀ x∈a.toList,r y.1<=r x.1) (hl:∀ y∈b.toList,∀ x,a[a.size-1]?=some x->r y.1<=r x.1) {st:SortSt} (hk:kindOf st=κ) {Q:Array Keyed->SortSt->Prop}
  (h:∀ out st',SameS st st'->Mgd (leR r) (a.toList++b.toList) out.toList->Q out st'):wpS (model prog w) A E s (dZ a b) Q st:=by
 have firstB:∀ {out na nb},MH r a b out na nb->nb=1->Mgd (leR r) (a.toList++b.toList) (b.extract 0 nb++a.extract 0 na++out.reverse).toList:=λ{out na nb} m e=>m.firstB λx hx y hy=>by
  obtain ⟨j,hj,ej⟩:=F7 hy;have:j=0:=by omega
  subst this;exact hf y ej x (Di hx)
 have e0:a[a.size-1]?=some a[a.size-1]:=Be (by omega);refine Ao (λP g=>wpS_lift (CA ⟨rfl,g⟩)) ?_;refine Ao (λP g=>zu e0 g) ?_;have m0:MH r a b #[] (a.size-1+1) b.size:=by
  refine ⟨?_,.nil,?_,?_,(λx hx=>absurd hx (by simp)),(λx hx=>absurd hx (by simp))⟩
  .show ([]++((a.toList.take (a.size-1+1)).reverse++(b.toList.take b.size).reverse)).Perm _;rw[List.nil_append,show a.size-1+1=a.toList.length by simp;omega,show b.size=b.toList.length by simp,List.take_length,List.take_length];exact List.Perm.append (List.reverse_perm _) (List.reverse_perm _)
  .exact List.pairwise_reverse.mpr (sa.sublist (List.take_sublist _ _))
  .exact List.pairwise_reverse.mpr (sb.sublist (List.take_sublist _ _))
 have m1:MH r a b #[a[a.size-1]] (a.size-1) b.size:=m0.pushA e0 λy hy=>hl y (Di hy) _ e0;refine zW (λc1=>wpS_pure (h _ _ (.refl _) (m1.done (.inl (by simpa using c1))))) (λc1=>?_);refine zW (λc2=>wpS_pure (h _ _ (.refl _) (firstB m1 (by simpa using c2)))) (λc2=>?_);have c1':¬ a.size-1=0:=by simpa using c1
 have c2':¬ b.size=1:=by simpa using c2
 refine Ao (λP g=>wpS_get g) ?_;refine wpS_bind (wpS_mono (wpS_forRange (I:=λx c st'=>∃ out na nb g,c=(none,na,nb,out,g)/\Fr2 r a b st st' out na nb/\x+1+(na+nb)<=a.size+b.size) (Q:=λc st'=>∃ res,c.1=some res/\SameS st st'/\Mgd (leR r) (a.toList++b.toList) res.toList) ?step ?fin ⟨_,_,_,_,rfl,⟨m1,.refl _,by omega,by omega,by omega,by omega⟩,by omega⟩) ?post)
 case fin=>
  intro c st' hI;refine Classical.byContradiction λG=>?_;obtain ⟨out,na,nb,g,eI1,f,hx⟩:=hI;refine G ?_;clear G;subst eI1;have:=f.a0;have:=f.b0;omega
 case post=>
  rintro ⟨c1,c2⟩ st' ⟨res,e,hs,hm⟩;dsimp only at e;subst e;exact wpS_pure (h _ _ hs hm)
 case step=>
  intro x c st' _ hx hI;refine Classical.byContradiction λG=>?_;obtain ⟨out,na,nb,g,eI1,f,hx2⟩:=hI;refine G ?_;clear G;subst eI1;refine Ao (λP=>wpS_mono (wpS_forRange (I:=λy c st'=>∃ out2 na2 nb2 ca cb,c=(none,na2,nb2,out2,ca,cb)/\Fr2 r a b st st' out2 na2 nb2/\na2+nb2+y<=na+nb) (Q:=λc st'=>(∃ res,c.1=some res/\SameS st st'/\Mgd (leR r) (a.toList++b.toList) res.toList) \/ ∃ out2 na2 nb2 ca cb,c=(none,na2,nb2,out2,ca,cb)/\Fr2 r a b st st' out2 na2 nb2/\na2+nb2+1<=na+nb) ?step1 ?fin1 ⟨out,na,nb,_,_,rfl,f,by omega⟩)) ?post1
  case fin1=>
   intro c st' hI;refine Classical.byContradiction λG=>?_;obtain ⟨out2,na,nb,ca,cb,eI1,f,hy⟩:=hI;refine G ?_;clear G;subst eI1;exact .inr ⟨_,_,_,_,_,rfl,f,by omega⟩
  case step1=>
   intro y c st' _ hy hI;refine Classical.byContradiction λG=>?_;obtain ⟨out2,na2,nb2,ca,cb,eI1,f,hy2⟩:=hI;refine G ?_;clear G;subst eI1;obtain ⟨p,rfl⟩:∃ p,na2=p+1:=⟨na2-1,by have:=f.a0;omega⟩;obtain ⟨q,rfl⟩:∃ q,nb2=q+1:=⟨nb2-1,by have:=f.b0;omega⟩;have hp:p<a.size:=by have:=f.al;omega
   have hq:q<b.size:=by have:=f.bl;omega
   have eb:b[q]?=some b[q]:=Be hq;have ea:a[p]?=some a[p]:=Be hp;refine Ao (λP g=>zu eb g) (Ao (λP g=>zu ea g) (Ao (λP g=>Hs R (f.s.k.trans hk) (hb _ (Cw eb)) (ha _ (Cw ea)) g) ?_));dsimp only;by_cases hlt:r b[q].1<r a[p].1
   .rw[AR hlt,AB rfl];refine Ao (λP g=>zu ea g) ?_;have m2:MH r a b (out2.push a[p]) p (q+1):=f.m.pushA ea λz hz=>by
     obtain ⟨j,hj,ej⟩:=F7 hz;have:=EM sb (show j<=q by omega) ej eb;omega
    refine zW (λc3=>wpS_pure (.inl ⟨_,rfl,f.s,m2.done (.inl (by simpa using c3))⟩)) (λc3=>?_);have f2:Fr2 r a b st st' (out2.push a[p]) p (q+1):=⟨m2,f.s,by simp at c3;omega,f.b0,by omega,f.bl⟩;exact zW (λ_=>wpS_pure (.inr ⟨_,_,_,_,_,rfl,f2,by omega⟩)) (λ_=>wpS_pure ⟨_,_,_,_,_,rfl,f2,by omega⟩)
   .rw[AM hlt,AD (by decide)];refine Ao (λP g=>zu eb g) ?_;have m2:MH r a b (out2.push b[q]) (p+1) q:=f.m.pushB eb λz hz=>by
     obtain ⟨j,hj,ej⟩:=F7 hz;have:=EM sa (show j<=p by omega) ej ea;omega
    refine zW (λc3=>wpS_pure (.inl ⟨_,rfl,f.s,firstB m2 (by simpa using c3)⟩)) (λc3=>?_);have f2:Fr2 r a b st st' (out2.push b[q]) (p+1) q:=⟨m2,f.s,f.a0,by have:=f.b0;simp at c3;omega,f.al,by omega⟩;exact zW (λ_=>wpS_pure (.inr ⟨_,_,_,_,_,rfl,f2,by omega⟩)) (λ_=>wpS_pure ⟨_,_,_,_,_,rfl,f2,by omega⟩)
  case post1=>
   intro c st' hI;refine Classical.byContradiction λG=>?_;obtain ⟨res,e,hs,hm⟩|⟨out2,na2,nb2,ca,cb,e,f,hy⟩:=hI
   .obtain ⟨c2,rfl⟩:∃ c2,c=(some res,c2):=⟨c.2,by cases c;cases e;rfl⟩;exact G (wpS_pure ⟨res,rfl,hs,hm⟩)
   .refine G ?_;clear G;subst e;refine Ao (λP g=>wpS_lift (CA ⟨rfl,g⟩)) ?_;refine wpS_bind (wpS_mono (wpS_forRange (I:=λy c st'=>∃ out3 na3 nb3 g ca cb,c=(none,na3,nb3,out3,g,ca,cb)/\Fr2 r a b st st' out3 na3 nb3/\na3+nb3<=na2+nb2) (Q:=λc st'=>(∃ res,c.1=some res/\SameS st st'/\Mgd (leR r) (a.toList++b.toList) res.toList) \/ ∃ out3 na3 nb3 g ca cb,c=(none,na3,nb3,out3,g,ca,cb)/\Fr2 r a b st st' out3 na3 nb3/\na3+nb3<=na2+nb2) ?step2 ?fin2 ⟨out2,na2,nb2,_,_,_,rfl,f,by omega⟩) ?post2)
    case fin2=>
     intro c st' hI;refine Classical.byContradiction λG=>?_;obtain ⟨out3,na,nb,g,ca,cb,eI1,f,hy⟩:=hI;refine G ?_;clear G;subst eI1;exact .inr ⟨_,_,_,_,_,_,rfl,f,hy⟩
    case post2=>
     intro c st' hI;refine Classical.byContradiction λG=>?_;obtain ⟨res,e,hs,hm⟩|⟨out3,na3,nb3,g,ca,cb,e,f,hz⟩:=hI
     .obtain ⟨c2,rfl⟩:∃ c2,c=(some res,c2):=⟨c.2,by cases c;cases e;rfl⟩;exact G (wpS_pure ⟨res,rfl,hs,hm⟩)
     .refine G ?_;clear G;subst e;exact wpS_bind (wpS_modify (wpS_pure ⟨out3,na3,nb3,_,rfl,⟨f.m,⟨f.s.k,f.s.a,f.s.p,f.s.f⟩,f.a0,f.b0,f.al,f.bl⟩,by omega⟩))
    case step2=>
     intro y c st' _ hy hI;refine Classical.byContradiction λG=>?_;obtain ⟨out3,na3,nb3,g,ca,cb,eI1,f,hy2⟩:=hI;refine G ?_;clear G;subst eI1;dsimp only;generalize hq1:nb3-1=q;obtain rfl:nb3=q+1:=by have:=f.b0;omega
     clear hq1;have hq:q<b.size:=by have:=f.bl;omega
     have hq0:0<q:=by have:=f.b0;omega
     have hn0:=f.a0;have hnl:=f.al;have eb:b[q]?=some b[q]:=Be hq;refine zW (λcg=>?_) (λcg=>?_);clear cg;generalize g-1=g';revert g';refine ?K;rotate_left;clear cg;exact ?K _;intro g';refine Ao (λP g=>wpS_modify g) ?_;refine Ao (λP g=>zu eb g) ?_;have hs2:=f.s;refine Ao (λP=>Gw (left:=false) (key:=b[q]) (arr:=a) (base:=0) (n:=na3) (hint:=na3-1) R (hs2.k.trans hk) (hb _ (Cw eb)) (λi hi=>⟨_,Be (by omega),ha _ (Cw (Be (by omega)))⟩) (λi j x y hij hj ex ey=>EM sa (by omega) ex ey) (by omega)) λk hk1 g1 g2=>?_;have aft:∀ x∈a.toList.take k,r x.1<=r b[q].1:=λx hx=>by
      obtain ⟨j,hj,ej⟩:=F7 hx;exact g1 j x hj (by rw[Nat.zero_add];exact ej)
     refine zW (λhk0=>?_) (λhk0=>?_);have m4:=f.m.blockA hk1 λj x h1 h2 ej y hy=>by
      obtain ⟨i,hi,ei⟩:=F7 hy;have z1:=EM sb (show i<=q by omega) ei eb;have z2:r b[q].1<r x.1:=g2 j x h1 h2 (by rw[Nat.zero_add];exact ej);omega
     refine zW (λc4=>wpS_pure (.inl ⟨_,rfl,⟨hs2.k,hs2.a,hs2.p,hs2.f⟩,m4.done (.inl (by simpa using c4))⟩)) (λc4=>?_);have a4:0<k:=by simp at c4;omega
     clear c4 hk0 g1 g2;generalize na3-k=ac;generalize out3++(a.extract k na3).reverse=o4 at m4 ⊢;revert m4;revert o4;revert a4;revert aft;revert hk1;revert k;revert ac;refine ?K2;rotate_left;have hk00:k=na3:=by simp at hk0;omega
     exact ?K2 _ _ (AG _) (hk00▸aft) hn0 _ f.m;intro ac k hk1 aft a4 o4 m4;refine Ao (λP g=>zu eb g) ?_;have m5:=m4.pushB eb aft;refine zW (λc6=>wpS_pure (.inl ⟨_,rfl,⟨hs2.k,hs2.a,hs2.p,hs2.f⟩,firstB m5 (by simpa using c6)⟩)) (λc6=>?_);have c6':1<q:=by simp at c6;omega
     obtain ⟨p,rfl⟩:∃ p,k=p+1:=⟨k-1,by omega⟩;have hp:p<a.size:=by omega
     have ea4:a[p]?=some a[p]:=Be hp;refine Ao (λP g=>zu ea4 g) ?_;refine Ao (λP=>Gw (left:=true) (key:=a[p]) (arr:=b) (base:=0) (n:=q) (hint:=q-1) R (hs2.k.trans hk) (ha _ (Cw ea4)) (λi hi=>⟨_,Be (by omega),hb _ (Cw (Be (by omega)))⟩) (λi j x y hij hj ex ey=>EM sb (by omega) ex ey) (by omega)) λk2 hk2 g3 g4=>?_;have aft2:∀ y∈b.toList.take k2,r y.1<=r a[p].1:=λy hy=>by
      obtain ⟨j,hj,ej⟩:=F7 hy;exact Dd (g3 j y hj (by rw[Nat.zero_add];exact ej))
     refine zW (λhk3=>?_) (λhk3=>?_);have m6:=m5.blockB hk2 λj x h1 h2 ej y hy=>by
      obtain ⟨i,hi,ei⟩:=F7 hy;have z1:=EM sa (show i<=p by omega) ei ea4;have z2:r a[p].1<=r x.1:=g4 j x h1 h2 (by rw[Nat.zero_add];exact ej);omega
     refine zW (λc7=>wpS_pure (.inl ⟨_,rfl,⟨hs2.k,hs2.a,hs2.p,hs2.f⟩,firstB m6 (by simpa using c7)⟩)) (λc7=>zW (λc8=>wpS_pure (.inl ⟨_,rfl,⟨hs2.k,hs2.a,hs2.p,hs2.f⟩,m6.done (.inr (by simpa using c8))⟩)) (λc8=>?_));have b6:1<k2:=by simp at c7 c8;omega
     clear c7 c8 hk3 g3 g4;generalize q-k2=bc;generalize o4.push b[q]++(b.extract k2 q).reverse=o6 at m6 ⊢;revert m6;revert o6;revert b6;revert aft2;revert hk2;revert k2;revert bc;refine ?K3;rotate_left;have hk00:k2=q:=by simp at hk3;omega
     exact ?K3 _ _ (AG _) (hk00▸aft2) c6' _ m5;intro bc k2 hk2 aft2 b6 o6 m6;refine Ao (λP g=>zu ea4 g) ?_;have m7:=m6.pushA ea4 aft2;refine zW (λc9=>wpS_pure (.inl ⟨_,rfl,⟨hs2.k,hs2.a,hs2.p,hs2.f⟩,m7.done (.inl (by simpa using c9))⟩)) (λc9=>?_);have a7:0<p:=by simp at c9;omega
     have b7:k2<=b.size:=by omega
     have l7:p+k2<=na2+nb2:=by omega
     exact zW (λ_=>wpS_pure (.inr ⟨_,p,k2,_,_,_,rfl,⟨m7,⟨hs2.k,hs2.a,hs2.p,hs2.f⟩,a7,b6,hp,b7⟩,l7⟩)) (λ_=>wpS_pure ⟨_,p,k2,_,_,_,rfl,⟨m7,⟨hs2.k,hs2.a,hs2.p,hs2.f⟩,a7,b6,hp,b7⟩,l7⟩)
end
section
variable {prog:Ym} {w:Yo} {A:Yn} {E:Yc} {s:Yl} {κ:SortKind} {vs:Yf} {r:Yr}
theorem QL:∀ (m:List Keyed) (k sa:Nat) (arr:Array Keyed),sa+k+m.length<=arr.size->((m.zipIdx k).foldl (λa x=>match x with|(p,j)=>a.setIfInBounds (sa+j) p) arr).toList=arr.toList.take (sa+k)++m++arr.toList.drop (sa+k+m.length)
 |[],k,sa,arr,h=>by simp
 |x::m,k,sa,arr,h=>by
  rw[List.zipIdx_cons,List.foldl_cons];simp only[CS]at h;rw[QL m (k+1) sa _ (by rw[Array.size_setIfInBounds];omega)];rw[Array.toList_setIfInBounds];have hl:arr.toList.length=arr.size:=by simp
  have e1:(arr.toList.set (sa+k) x).take (sa+(k+1))=arr.toList.take (sa+k)++[x]:=by
   rw[show sa+(k+1)=(sa+k)+1 by omega,List.take_add_one,List.take_set,B9 (by omega)];rw[List.set_eq_of_length_le (by simp;omega)];simp
  have e2:(arr.toList.set (sa+k) x).drop (sa+(k+1)+m.length)=arr.toList.drop (sa+k+(m.length+1)):=by
   rw[List.drop_set_of_lt (by omega)];congr 1;omega
  rw[e1,e2];simp
def QV {T R1 U:List Keyed} (h:i<R1.length):(T++(R1++U))[T.length+i]?=R1[i]?:=by
 rw[EG (by omega),Ai (by omega)];congr 1;omega
def Pt {l:List Keyed} (h:x∈l.take k):∃ j,j<k/\l[j]?=some x:=by
 obtain ⟨j,e⟩:=List.mem_iff_getElem?.mp h;rw[List.getElem?_take]at e;split at e
 .exact ⟨j,by assumption,e⟩
 .cases e
def PK {l:List Keyed} (h:x∈l.drop k):∃ j,k<=j/\l[j]?=some x:=by
 obtain ⟨j,e⟩:=List.mem_iff_getElem?.mp h;rw[List.getElem?_drop]at e;exact ⟨k+j,by omega,e⟩
def gE (R:C2 prog w s κ vs r) {st:SortSt} (hk:kindOf st=κ) (hfl:failedOf st=none) {i sa na pw sb nb pw2:Nat} {T R1 R2 U:List Keyed} (ha:(arrOf st).toList=T++(R1++(R2++U))) (hv:∀ x∈(arrOf st).toList,x.1∈vs) (hT:T.length=sa) (h1:R1.length=na) (hsb:sb=sa+na) (h2:R2.length=nb) (n1:0<na) (n2:0<nb)
  (s1:R1.Pairwise (leR r)) (s2:R2.Pairwise (leR r)) (e1:(pendingOf st)[i]?=some (sa,na,pw)) (e2:(pendingOf st)[i+1]?=some (sb,nb,pw2)) {Q:Bool->SortSt->Prop}
  (h:∀ m st',kindOf st'=κ->failedOf st'=none->pendingOf st'=((pendingOf st).setIfInBounds i (sa,na+nb,pw)).eraseIdxIfInBounds (i+1)->(arrOf st').toList=T++(m++U)->m.Perm (R1++R2)->m.Pairwise (leR r)->Q true st') :
  wpS (model prog w) A E s (mergeAt' i) Q st:=by
 subst hT h1 h2 hsb;have at1:∀ j,j<R1.length->(arrOf st)[T.length+j]?=R1[j]?:=λj hj=>by rw[<-CC,ha];exact QV hj
 have at2:∀ j,j<R2.length->(arrOf st)[T.length+R1.length+j]?=R2[j]?:=λj hj=>by
  rw[<-CC,ha,<-DJ,show T.length+R1.length=(T++R1).length by simp];exact QV hj
 have srt1:∀ {i j:Nat} {x y:Keyed},i<=j->R1[i]?=some x->R1[j]?=some y->r x.1<=r y.1:=λ{i j x y} hij ex ey=>EM (a:=R1.toArray) (by simpa using s1) hij (by simpa using ex) (by simpa using ey);have srt2:∀ {i j:Nat} {x y:Keyed},i<=j->R2[i]?=some x->R2[j]?=some y->r x.1<=r y.1:=λ{i j x y} hij ex ey=>EM (a:=R2.toArray) (by simpa using s2) hij (by simpa using ex) (by simpa using ey);have v1:∀ x∈R1,x.1∈vs:=λx hx=>hv x (by rw[ha];simp[hx]);have v2:∀ x∈R2,x.1∈vs:=λx hx=>hv x (by rw[ha];simp[hx]);have g1:∀ {j} (hj:j<R1.length),R1[j]?=some R1[j]:=λhj=>AL hj;have g2:∀ {j} (hj:j<R2.length),R2[j]?=some R2[j]:=λhj=>AL hj;refine wpS_bind (wpS_get ?_);rw[e1,e2];have eb0:(arrOf st)[T.length+R1.length]?=some R2[0]:=(at2 0 n2).trans (g2 n2);refine wpS_bind (wpS_modify ?_);refine wpS_bind (zu eb0 ?_);refine wpS_bind (Gw (left:=false) (key:=R2[0]) (arr:=arrOf st) (base:=T.length) (n:=R1.length) (hint:=0) R hk (v2 _ (Ab n2)) (λj hj=>⟨_,(at1 j hj).trans (g1 hj),v1 _ (Ab hj)⟩) (λi j x y hij hj ex ey=>srt1 hij ((at1 i (by omega)).symm.trans ex) ((at1 j hj).symm.trans ey)) n1 λk hk1 q1 q2=>?_);have hP:∀ x∈R1.take k,r x.1<=r R2[0].1:=λx hx=>by
  obtain ⟨j,hj,ej⟩:=Pt hx;exact q1 j x hj ((at1 j (by omega)).trans ej)
 have hX:∀ x∈R1.drop k,r R2[0].1<=r x.1:=λx hx=>by
  obtain ⟨j,hj,ej⟩:=PK hx;have hl:=(AI.mp ej).1;exact Dd (q2 j x hj hl ((at1 j hl).trans ej))
 have h0:∀ y∈R2,r R2[0].1<=r y.1:=λy hy=>by
  obtain ⟨j,ej⟩:=List.mem_iff_getElem?.mp hy;exact srt2 (Ba _) (g2 n2) ej
 refine zW (λc1=>?_) (λc1=>?_)
 .have hk2:R1.length<=k:=by simp at c1;omega
  rw[Gs hk2]at hP;exact wpS_pure (h (R1++R2) _ hk hfl rfl (by rw[ha];simp) (.refl _) (List.pairwise_append.mpr ⟨s1,s2,λx hx y hy=>BA (hP x hx) (h0 y hy)⟩))
 have hkl:k<R1.length:=by simp at c1;omega
 have nl:R1.length-1<R1.length:=by omega
 have eL:(arrOf st)[T.length+k+(R1.length-k)-1]?=some R1[R1.length-1]:=by
  rw[show T.length+k+(R1.length-k)-1=T.length+(R1.length-1) by omega];exact (at1 _ nl).trans (g1 nl)
 refine wpS_bind (zu eL ?_);refine wpS_bind (Gw (left:=true) (key:=R1[R1.length-1]) (arr:=arrOf st) (base:=T.length+R1.length) (n:=R2.length) (hint:=R2.length-1) R hk (v1 _ (Ab nl)) (λj hj=>⟨_,(at2 j hj).trans (g2 hj),v2 _ (Ab hj)⟩) (λi j x y hij hj ex ey=>srt2 hij ((at2 i (by omega)).symm.trans ex) ((at2 j hj).symm.trans ey)) (by omega) λk2 hk2 q3 q4=>?_);have hXl:∀ x∈R1,r x.1<=r R1[R1.length-1].1:=λx hx=>by
  obtain ⟨j,ej⟩:=List.mem_iff_getElem?.mp hx;have hl:=(AI.mp ej).1;exact srt1 (by omega) ej (g1 nl)
 have hY:∀ y∈R2.take k2,r y.1<=r R1[R1.length-1].1:=λy hy=>by
  obtain ⟨j,hj,ej⟩:=Pt hy;exact Dd (q3 j y hj ((at2 j (by omega)).trans ej))
 have hS:∀ y∈R2.drop k2,r R1[R1.length-1].1<=r y.1:=λy hy=>by
  obtain ⟨j,hj,ej⟩:=PK hy;have hl:=(AI.mp ej).1;exact q4 j y hj hl ((at2 j hl).trans ej)
 refine zW (λc2=>?_) (λc2=>?_)
 .have:k2=0:=by simpa using c2
  subst this;exact wpS_pure (h (R1++R2) _ hk hfl rfl (by rw[ha];simp) (.refl _) (List.pairwise_append.mpr ⟨s1,s2,λx hx y hy=>BA (hXl x hx) (hS y (by simpa using hy))⟩))
 have hk20:0<k2:=by simp at c2;omega
 have eX:((arrOf st).extract (T.length+k) (T.length+R1.length)).toList=R1.drop k:=by
  rw[Array.toList_extract,List.extract_eq_take_drop,ha,List.drop_append,List.drop_of_length_le (by omega),List.nil_append,show T.length+k-T.length=k by omega,List.drop_append_of_le_length (by omega),show T.length+R1.length-(T.length+k)=(R1.drop k).length by simp;omega,List.take_left'];rfl
 have eY:((arrOf st).extract (T.length+R1.length) (T.length+R1.length+k2)).toList=R2.take k2:=by
  rw[LR,ha,<-DJ,show T.length+R1.length=(T++R1).length by simp,List.drop_left',List.take_append_of_le_length hk2];rfl
 generalize hx0:(arrOf st).extract (T.length+k) (T.length+R1.length)=x0 at eX;generalize hy0:(arrOf st).extract (T.length+R1.length) (T.length+R1.length+k2)=y0 at eY;have zx:x0.size=R1.length-k:=by rw[<-Bn,eX,EW]
 have zy:y0.size=k2:=by rw[<-Bn,eY,BF];omega
 have w1:∀ y,y0[0]?=some y -> ∀ x∈x0.toList,r y.1<=r x.1:=λy ey x hx=>by
  rw[<-CC,eY,List.getElem?_take,AB hk20,g2 n2]at ey;cases ey;rw[eX]at hx;exact hX x hx
 have w2:∀ y∈y0.toList,∀ x,x0[x0.size-1]?=some x->r y.1<=r x.1:=λy hy x ex=>by
  rw[<-CC,eX,List.getElem?_drop,zx,show k+(R1.length-k-1)=R1.length-1 by omega,g1 nl]at ex;cases ex;rw[eY]at hy;exact hY y hy
 have fin:∀ (out:Array Keyed) (st':SortSt),SameS (SortSt.mk' (kindOf st) (arrOf st) (((pendingOf st).setIfInBounds i (T.length,R1.length+R2.length,pw)).eraseIdxIfInBounds (i+1)) (gallopOf st) (failedOf st)) st'->Mgd (leR r) (x0.toList++y0.toList) out.toList ->
   wpS (model prog w) A E s (do
    modify λs=>setArr s (out.toList.zipIdx.foldl (λa x=>match x with|(p,j)=>a.setIfInBounds (T.length+k+j) p) (arrOf s));let s <- get;pure (failedOf s).isNone) Q st':=by
  intro out st' sm mg;refine wpS_bind (wpS_modify (wpS_bind (wpS_get ?_)));have hf:failedOf st'=none:=sm.f.trans hfl;show wpS _ _ _ _ (pure (failedOf st').isNone) _ _;rw[hf];rw[eX,eY]at mg;have hlen:out.toList.length=(R1.length-k)+k2:=by
   rw[mg.1.length_eq,AN,EW,BF];omega
  have ea:arrOf st'=arrOf st:=sm.a;have e3:((out.toList.zipIdx).foldl (λa x=>match x with|(p,j)=>a.setIfInBounds (T.length+k+j) p) (arrOf st')).toList=T++((R1.take k++(out.toList++R2.drop k2))++U):=by
   have hsz:(arrOf st').size=T.length+(R1.length+(R2.length+U.length)):=by rw[ea,<-Bn,ha];simp
   rw[QL out.toList 0 (T.length+k) (arrOf st') (by omega),ea,ha];have t1:List.take (T.length+k+0) (T++(R1++(R2++U)))=T++R1.take k:=by
    rw[Nat.add_zero,List.take_append,Gs (by omega),show T.length+k-T.length=k by omega,List.take_append_of_le_length (by omega)]
   have t2:List.drop (T.length+k+0+out.toList.length) (T++(R1++(R2++U)))=R2.drop k2++U:=by
    rw[show T.length+k+0+out.toList.length=(T++R1).length+k2 by rw[hlen];simp;omega,<-DJ,List.drop_append,List.drop_of_length_le (by omega),List.nil_append,show (T++R1).length+k2-(T++R1).length=k2 by omega,List.drop_append_of_le_length hk2]
   rw[t1,t2];simp
  have p1:=List.pairwise_append.mp (show (R1.take k++R1.drop k).Pairwise (leR r) by rw[E8];exact s1);have p2:=List.pairwise_append.mp (show (R2.take k2++R2.drop k2).Pairwise (leR r) by rw[E8];exact s2);have mo:∀ x,x∈out.toList->x∈R1.drop k\/x∈R2.take k2:=λx hx=>AS.mp (mg.1.mem_iff.mp hx);refine wpS_pure (h (R1.take k++(out.toList++R2.drop k2)) _ (sm.k.trans hk) hf sm.p e3 ?_ ?_)
  .refine ((mg.1.append_right (R2.drop k2)).append_left (R1.take k)).trans ?_;rw[DJ,E8,<-DJ,E8]
  .refine List.pairwise_append.mpr ⟨p1.1,List.pairwise_append.mpr ⟨mg.2,p2.2.1,λx hx y hy=>?_⟩,λx hx y hy=>?_⟩
   .rcases mo x hx with z|z
    .exact BA (hXl x (EL z)) (hS y hy)
    .exact p2.2.2 x z y hy
   .rcases AS.mp hy with z|z
    .rcases mo y z with z|z
     .exact p1.2.2 x hx y z
     .exact BA (hP x hx) (h0 y (Di z))
    .exact BA (hP x hx) (h0 y (EL z))
 have x1:∀ x∈x0.toList,x.1∈vs:=λx hx=>v1 x (EL (eX▸hx));have y1:∀ x∈y0.toList,x.1∈vs:=λx hx=>v2 x (Di (eY▸hx));have x2:x0.toList.Pairwise (leR r):=eX▸s1.sublist (List.drop_sublist _ _);have y2:y0.toList.Pairwise (leR r):=eY▸s2.sublist (List.take_sublist _ _);refine zW (λc3=>?_) (λc3=>?_)
 .subst hx0 hy0;refine wpS_bind (Vm R x1 y1 x2 y2 (by omega) (by omega) w1 w2 ?_ fin);exact hk
 .subst hx0 hy0;refine wpS_bind (Xo R x1 y1 x2 y2 (by omega) (by omega) w1 w2 ?_ fin);exact hk
end
noncomputable def KR (r:Yr) (xs:Array Keyed) (i:Nat):Nat:=match xs[i]? with
 |some p=>r p.1
 |none=>0
def RUp (r:Yr) (xs:Array Keyed) (lo hi:Nat):Prop:=∀ i j,lo<=i->i<=j->j<hi->KR r xs i<=KR r xs j
def RDn (r:Yr) (xs:Array Keyed) (lo hi:Nat):Prop:=∀ i j,lo<=i->i<=j->j<hi->KR r xs j<=KR r xs i
section
variable {prog:Ym} {w:Yo} {A:Yn} {E:Yc} {s:Yl} {κ:SortKind} {vs:Yf} {r:Yr}
def Ho {xs ys:Array Keyed} {i j:Nat} (h:xs[i]?=ys[j]?):KR r xs i=KR r ys j:=by unfold KR;rw[h]
def Ke {xs:Array Keyed} {i j:Nat} (hj:j<=xs.size) (k:Nat):KR r (mirror xs i j ((j-i) / 2)) k=if i<=k/\k<j then KR r xs (i+j-1-k) else KR r xs k:=by
 have e:=getElem?_mirror_all (i:=i) hj k;split at e
 .rw[AB (by assumption)];exact Ho e
 .rw[AD (by assumption)];exact Ho e
def QY {xs:Array Keyed} {src d:Nat} (hs:src<xs.size) (hd:d<=src) (k:Nat):KR r (bubble xs src d) k=if k=src-d then KR r xs src else if src-d<k/\k<=src then KR r xs (k-1) else KR r xs k:=by
 have e:=getElem?_bubble hs d hd k;split at e
 .rw[AB (by assumption)];exact Ho e
 .rw[AD (by assumption)];split at e
  .rw[AB (by assumption)];exact Ho e
  .rw[AD (by assumption)];exact Ho e
def Ha {xs:Array Keyed} {i j:Nat} (hj:j<=xs.size) (he:∀ k,i<=k->k<j->KR r xs k=KR r xs (j-1)) (k:Nat):KR r (mirror xs i j ((j-i) / 2)) k=KR r xs k:=by
 rw[Ke hj];split
 .rw[he _ (by omega) (by omega),he k (by omega) (by omega)]
 .rfl
structure CB (lo:Nat) (st0 st:SortSt):Prop where
 k:kindOf st=kindOf st0
 p:pendingOf st=pendingOf st0
 f:failedOf st=failedOf st0
 perm:(arrOf st).Perm (arrOf st0)
 pre:∀ j,j<lo->(arrOf st)[j]?=(arrOf st0)[j]?
def CB.refl (lo:Nat) (st:SortSt):CB lo st st:=⟨rfl,rfl,rfl,.refl _,λ_ _=>rfl⟩
def CB.size {lo:Nat} {st0 st:SortSt} (h:CB lo st0 st):(arrOf st).size=(arrOf st0).size:=h.perm.size_eq
def CB.mir {lo i j:Nat} {st0 st:SortSt} (h:CB lo st0 st) (hi:lo<=i) (hj:j<=(arrOf st0).size):CB lo st0 (setArr st (mirror (arrOf st) i j ((j-i) / 2))) :=
 ⟨h.k,h.p,h.f,(mirror_perm _ _ _ _).trans h.perm,λk hk=>by
  show (mirror (arrOf st) i j ((j-i) / 2))[k]?=_;rw[getElem?_mirror_all (by rw[h.size];exact hj),AD (by omega)];exact h.pre k hk⟩
def CB.bub {lo src d:Nat} {st0 st:SortSt} (h:CB lo st0 st) (hs:src<(arrOf st0).size) (hd:d<=src) (hl:lo<=src-d):CB lo st0 (setArr st (bubble (arrOf st) src d)) :=
 ⟨h.k,h.p,h.f,(bubble_perm _ _ _).trans h.perm,λk hk=>by
  show (bubble (arrOf st) src d)[k]?=_;rw[getElem?_bubble (by rw[h.size];exact hs) d hd,AD (by omega),AD (by omega)];exact h.pre k hk⟩
variable {st0 st:SortSt} {lo nrem n:Nat}
def Hh (R:C2 prog w s κ vs r) (hk:kindOf st0=κ) (hv:∀ x∈(arrOf st0).toList,x.1∈vs) (c:CB lo st0 st) {i j:Nat} (hi:i<(arrOf st0).size) (hj:j<(arrOf st0).size) {Q:Option Bool->SortSt->Prop} (h:Q (some (decide (KR r (arrOf st) i<KR r (arrOf st) j))) st) :
  wpS (model prog w) A E s (ltAt' i j) Q st:=by
 have ei:(arrOf st)[i]?=some ((arrOf st)[i]'(by rw[c.size];exact hi)):=Be _;have ej:(arrOf st)[j]?=some ((arrOf st)[j]'(by rw[c.size];exact hj)):=Be _;have pm:=Array.perm_iff_toList_perm.mp c.perm;refine Q5 R (c.k.trans hk) ei ej (hv _ (pm.mem_iff.mp (Cw ei))) (hv _ (pm.mem_iff.mp (Cw ej))) ?_;unfold KR at h;rw[ei,ej]at h;exact h
noncomputable def OS (lo a nrem:Nat):StateT SortSt Sem (Option (Option Nat) × Nat):=forIn [a:nrem] ((none,a):Option (Option Nat) × Nat) λ_ c=>do
 let x <- ltAt' (lo+c.2) (lo+c.2-1)
 match x with
 |some smaller=>if smaller=true then pure (ForInStep.done (none,c.2)) else pure (ForInStep.yield (none,c.2+1))
 |_=>pure (ForInStep.done (some none,c.2))
def N4 (R:C2 prog w s κ vs r) (hk:kindOf st0=κ) (hv:∀ x∈(arrOf st0).toList,x.1∈vs) (c:CB lo st0 st) (hz:lo+nrem<=(arrOf st0).size) (h1:1<=n) (h2:n<=nrem) (hu:RUp r (arrOf st) lo (lo+n)) {Q:Option (Option Nat) × Nat->SortSt->Prop}
  (h:∀ m,n<=m->m<=nrem->RUp r (arrOf st) lo (lo+m)->(m=nrem\/KR r (arrOf st) (lo+m)<KR r (arrOf st) (lo+m-1))->Q (none,m) st):wpS (model prog w) A E s (OS lo n nrem) Q st:=by
 unfold OS;refine wpS_forRange (I:=λx c st'=>st'=st/\c=(none,x)/\RUp r (arrOf st) lo (lo+x)) ?step ?fin ⟨rfl,rfl,hu⟩
 case fin=>
  intro c' st' hI;refine Classical.byContradiction λG=>?_;obtain ⟨eI1,eI2,hs⟩:=hI;refine G ?_;clear G;subst eI1 eI2;rw[show max n nrem=nrem by omega]at hs ⊢;exact h nrem h2 (AG _) hs (.inl rfl)
 case step=>
  intro x c' st' hax hxn hI;refine Classical.byContradiction λG=>?_;obtain ⟨eI1,eI2,hs⟩:=hI;refine G ?_;clear G;subst eI1 eI2;refine wpS_bind (Hh R hk hv c (by omega) (by omega) ?_);dsimp only;by_cases hl:KR r (arrOf st') (lo+x)<KR r (arrOf st') (lo+x-1)
  .rw[AR hl,AB rfl];exact wpS_pure (h x hax (by omega) hs (.inr hl))
  .rw[AM hl,AD (by decide)];refine wpS_pure ⟨rfl,rfl,λi j h3 h4 h5=>?_⟩;by_cases hj:j<lo+x
   .exact hs i j h3 h4 hj
   .have hj':j=lo+x:=by omega
    by_cases hij:i=j
    .rw[hij];exact AG _
    .have:=hs i (lo+x-1) h3 (by omega) (by omega);rw[hj'];omega
def VX (R:C2 prog w s κ vs r) (hk:kindOf st0=κ) (hv:∀ x∈(arrOf st0).toList,x.1∈vs) (hz:lo+nrem<=(arrOf st0).size) (h1:1<=nrem) {Q:Option Nat->SortSt->Prop}
  (h:∀ m st,CB lo st0 st->1<=m->m<=nrem->RUp r (arrOf st) lo (lo+m)->Q (some m) st):wpS (model prog w) A E s (countRun' lo nrem) Q st0:=by
 have one:∀ xs,RUp r xs lo (lo+1):=λxs i j a b c=>by rw[show i=j by omega];exact AG _
 refine wpS_bind (N4 R hk hv (.refl lo st0) hz (AG 1) h1 (one _) λn n1 n2 hu hor=>?_);refine zW (λc1=>wpS_pure (h n st0 (.refl lo st0) n1 n2 hu)) (λc1=>?_);have hn:n<nrem:=by simp at c1;omega
 have hlt:=hor.resolve_left (by omega);have mirU:∀ {st:SortSt} {n m neq:Nat},CB lo st0 st->m<=nrem->RDn r (arrOf st) lo (lo+m)->RUp r (mirror (arrOf st) lo (lo+m) ((lo+m-lo) / 2)) lo (lo+m):=λ{st n m neq} c hm hd i j a1 a2 a3=>by
  rw[Ke (by rw[c.size];omega),Ke (by rw[c.size];omega),AB (by omega),AB (by omega)];exact hd _ _ (by omega) (by omega) (by omega)
 refine zW (λc2=>?_) (λc2=>?_)
 case' refine_1=>
  refine wpS_bind (Hh R hk hv (.refl lo st0) (by omega) (by dsimp only;omega) ?_);dsimp only;by_cases hrose:KR r (arrOf st0) lo<KR r (arrOf st0) (lo+n-1)
  case pos=>
   rw[AR hrose,AB rfl];exact wpS_pure (h n st0 (.refl lo st0) n1 n2 hu)
  case' neg=>
   rw[AM hrose,AD (by decide)];have hall:∀ k,lo<=k->k<lo+n->KR r (arrOf st0) k=KR r (arrOf st0) (lo+n-1):=λk k1 k2=>by
    have a1:=hu lo k (AG _) k1 k2;have a2:=hu k (lo+n-1) k1 (by omega) (by omega);omega
   refine wpS_bind (wpS_modify ?_);have cb:CB lo st0 (setArr st0 (mirror (arrOf st0) lo (lo+n) ((lo+n-lo) / 2))):=(CB.refl lo st0).mir (AG _) (by omega);have dn:RDn r (mirror (arrOf st0) lo (lo+n) ((lo+n-lo) / 2)) lo (lo+(n+1)):=λi j a1 a2 a3=>by
    rw[Ha (by omega) hall,Ha (by omega) hall];by_cases hj:j<lo+n
    .rw[hall i a1 (by omega),hall j (by omega) hj];exact AG _
    .by_cases hi:i<lo+n
     .rw[hall i a1 hi,show j=lo+n by omega];omega
     .rw[show i=j by omega];exact AG _
 case' refine_2=>
  have cb:CB lo st0 st0:=.refl lo st0;have dn:RDn r (arrOf st0) lo (lo+(n+1)):=λi j a1 a2 a3=>by
   have hn1:n=1:=by dsimp only at c2;omega
   subst hn1;by_cases hij:i=j
   .rw[hij];exact AG _
   .rw[show i=lo by omega,show j=lo+1 by omega];rw[show lo+1-1=lo by omega]at hlt;omega
 all_goals
  refine wpS_bind (wpS_lift (CA ⟨rfl,?_⟩));refine wpS_bind (wpS_mono (wpS_forRange (I:=λx c st'=>∃ neq,c=(none,x,neq)/\CB lo st0 st'/\RDn r (arrOf st') lo (lo+x)/\neq+1<=x /\ ∀ i,lo+x-(neq+1)<=i->i<lo+x->KR r (arrOf st') i=KR r (arrOf st') (lo+x-1)) (Q:=λc st'=>∃ x neq,c=(none,x,neq)/\CB lo st0 st'/\1<=x/\x<=nrem/\RDn r (arrOf st') lo (lo+x)/\neq+1<=x /\ ∀ i,lo+x-(neq+1)<=i->i<lo+x->KR r (arrOf st') i=KR r (arrOf st') (lo+x-1)) ?step ?fin ⟨0,rfl,cb,dn,by omega,λi a1 a2=>by congr 1;omega⟩) ?post)
  case fin=>
   intro c st' hI;refine Classical.byContradiction λG=>?_;obtain ⟨neq,eI1,cb,dn,q1,q2⟩:=hI;refine G ?_;clear G;subst eI1;rw[show max (n+1) nrem=nrem by omega]at dn q1 q2 ⊢;exact ⟨nrem,neq,rfl,cb,h1,AG _,dn,q1,q2⟩
  case step=>
   intro x c st' hx1 hx2 hI;refine Classical.byContradiction λG=>?_;obtain ⟨neq,eI1,cb,dn,q1,q2⟩:=hI;refine G ?_;clear G;subst eI1;have hx1':n+1<=x:=hx1;refine wpS_bind (Hh R hk hv cb (by dsimp only;omega) (by dsimp only;omega) ?_);dsimp only;have step1:∀ ys:Array Keyed,(∀ k,KR r ys k=KR r (arrOf st') k)->KR r (arrOf st') (lo+x)<=KR r (arrOf st') (lo+x-1)->RDn r ys lo (lo+(x+1)):=λys hy hle i j a1 a2 a3=>by
    rw[hy,hy];by_cases hj:j<lo+x
    .exact dn i j a1 a2 hj
    .by_cases hij:i=j
     .rw[hij];exact AG _
     .have:=dn i (lo+x-1) a1 (by omega) (by omega);rw[show j=lo+x by omega];omega
   by_cases hl:KR r (arrOf st') (lo+x)<KR r (arrOf st') (lo+x-1)
   .rw[AR hl,AB rfl];refine zW (λc3=>wpS_bind (wpS_modify (wpS_pure ⟨0,rfl,cb.mir (by omega) (by omega),step1 _ (Ha (by rw[cb.size];omega) q2) (by omega),by omega,λi a1 a2=>by congr 1;omega⟩))) (λc3=>wpS_pure ⟨0,rfl,cb,step1 _ (λ_=>rfl) (by omega),by omega,λi a1 a2=>by congr 1;omega⟩)
   .rw[AM hl,AD (by decide)];refine wpS_bind (Hh R hk hv cb (by omega) (by omega) ?_);dsimp only;by_cases hg:KR r (arrOf st') (lo+x-1)<KR r (arrOf st') (lo+x)
    .rw[AR hg,AB rfl];exact wpS_pure ⟨x,neq,rfl,cb,by omega,by omega,dn,q1,q2⟩
    .rw[AM hg,AD (by decide)];refine wpS_pure ⟨neq+1,rfl,cb,step1 _ (λ_=>rfl) (by omega),by omega,λi a1 a2=>?_⟩;rw[show lo+(x+1)-1=lo+x by omega];by_cases hi:i=lo+x
     .rw[hi]
     .rw[q2 i (by omega) (by omega)];omega
  case post=>
   intro c st' hI;refine Classical.byContradiction λG=>?_;obtain ⟨x,neq,eI1,cb,x1,x2,dn,q1,q2⟩:=hI;refine G ?_;clear G;subst eI1;refine zW (λc3=>?_) (λc3=>?_)
   case' refine_1=>
    refine wpS_bind (wpS_modify ?_);replace dn:RDn r (mirror (arrOf st') (lo+x-(neq+1)) (lo+x) ((lo+x-(lo+x-(neq+1))) / 2)) lo (lo+x):=λi j a1 a2 a3=>by
     rw[Ha (by rw[cb.size];omega) q2,Ha (by rw[cb.size];omega) q2];exact dn i j a1 a2 a3
    replace cb:=cb.mir (i:=lo+x-(neq+1)) (j:=lo+x) (by omega) (by omega)
   all_goals
    refine wpS_bind (wpS_modify ?_);have cb2:=cb.mir (i:=lo) (j:=lo+x) (AG _) (by omega);refine wpS_bind (N4 R hk hv cb2 hz x1 x2 (mirU (n:=0) (neq:=0) cb x2 dn) λm m1 m2 hu2 _=>wpS_pure (h m _ cb2 (by omega) m2 hu2))
end
section
variable {prog:Ym} {w:Yo} {A:Yn} {E:Yc} {s:Yl} {κ:SortKind} {vs:Yf} {r:Yr} {st0 st:SortSt} {lo n ok:Nat}
def Xd (R:C2 prog w s κ vs r) (hk:kindOf st0=κ) (hv:∀ x∈(arrOf st0).toList,x.1∈vs) (c0:CB lo st0 st) (hz:lo+n<=(arrOf st0).size) (h1:1<=ok) (h2:ok<=n) (hu:RUp r (arrOf st) lo (lo+ok))
  (h:∀ st',CB lo st0 st'->RUp r (arrOf st') lo (lo+n)->Q true st'):wpS (model prog w) A E s (binarySort' lo n ok) Q st:=by
 refine wpS_bind (wpS_mono (wpS_forRange (I:=λk c st'=>c=(none,())/\CB lo st0 st'/\RUp r (arrOf st') lo (lo+k)) (Q:=λc st'=>c=(none,())/\CB lo st0 st'/\RUp r (arrOf st') lo (lo+n)) ?step ?fin ⟨rfl,c0,by rw[show max ok 1=ok by omega];exact hu⟩) ?post)
 case fin=>
  intro c st' hI;refine Classical.byContradiction λG=>?_;obtain ⟨eI1,cb,hu⟩:=hI;refine G ?_;clear G;subst eI1;rw[show max (max ok 1) n=n by omega]at hu;exact ⟨rfl,cb,hu⟩
 case post=>
  intro c st' hI;refine Classical.byContradiction λG=>?_;obtain ⟨eI1,cb,hu⟩:=hI;refine G ?_;clear G;subst eI1;exact wpS_pure (h st' cb hu)
 case step=>
  intro k c st' hk1 hk2 hI;refine Classical.byContradiction λG=>?_;obtain ⟨eI1,cb,hu⟩:=hI;refine G ?_;clear G;subst eI1;have hk0:1<=k:=by omega
  refine wpS_bind (wpS_mono (wpS_forRange (I:=λx c st''=>st''=st' /\ ∃ a b,c=(none,a,b)/\a<=b/\b<=k/\b-a<=k-x/\(∀ i,i<a->KR r (arrOf st') (lo+i)<=KR r (arrOf st') (lo+k))/\(∀ i,b<=i->i<k->KR r (arrOf st') (lo+k)<=KR r (arrOf st') (lo+i))) (Q:=λc st''=>st''=st' /\ ∃ a b,c=(none,a,b)/\a<=k/\(∀ i,i<a->KR r (arrOf st') (lo+i)<=KR r (arrOf st') (lo+k))/\(∀ i,a<=i->i<k->KR r (arrOf st') (lo+k)<=KR r (arrOf st') (lo+i))) ?step1 ?fin1 ⟨rfl,0,k,rfl,by omega,by omega,by omega,λi hi=>by omega,λi a1 a2=>by omega⟩) ?post1)
  case fin1=>
   intro c st'' hI;refine Classical.byContradiction λG=>?_;obtain ⟨eI1,a,b,eI2,q1,q2,q3,q4,q5⟩:=hI;refine G ?_;clear G;subst eI1 eI2;exact ⟨rfl,a,b,rfl,by omega,q4,λi a1 a2=>q5 i (by omega) a2⟩
  case step1=>
   intro x c st'' _ hx hI;refine Classical.byContradiction λG=>?_;obtain ⟨eI1,a,b,eI2,q1,q2,q3,q4,q5⟩:=hI;refine G ?_;clear G;subst eI1 eI2;refine zW (λc1=>wpS_pure ⟨rfl,a,b,rfl,by omega,q4,λi a1 a2=>q5 i (by dsimp only at c1;omega) a2⟩) (λc1=>?_);have c1':a<b:=by dsimp only at c1;omega
   refine wpS_bind (Hh R hk hv cb (by omega) (by dsimp only;omega) ?_);dsimp only;by_cases hl:KR r (arrOf st'') (lo+k)<KR r (arrOf st'') (lo+(a+b) / 2)
   .rw[AR hl,AB rfl];refine wpS_pure ⟨rfl,a,(a+b) / 2,rfl,by omega,by omega,by omega,q4,λi a1 a2=>?_⟩;have:=hu (lo+(a+b) / 2) (lo+i) (by omega) (by omega) (by omega);omega
   .rw[AM hl,AD (by decide)];refine wpS_pure ⟨rfl,(a+b) / 2+1,b,rfl,by omega,by omega,by omega,λi a1=>?_,q5⟩;have:=hu (lo+i) (lo+(a+b) / 2) (by omega) (by omega) (by omega);omega
  case post1=>
   intro c st'' hI;refine Classical.byContradiction λG=>?_;obtain ⟨eI1,a,b,eI2,q1,q4,q5⟩:=hI;refine G ?_;clear G;subst eI1 eI2;refine wpS_bind (wpS_modify (wpS_pure ⟨rfl,cb.bub (by omega) (by dsimp only;omega) (by dsimp only;omega),λi j a1 a2 a3=>?_⟩));have hs:lo+k<(arrOf st'').size:=by rw[cb.size];omega
   show KR r (bubble (arrOf st'') (lo+k) (lo+k-(lo+a))) i<=KR r (bubble (arrOf st'') (lo+k) (lo+k-(lo+a))) j;rw[QY hs (by omega),QY hs (by omega)];rw[show lo+k-(lo+k-(lo+a))=lo+a by omega];by_cases i1:i=lo+a
   .rw[AB i1];by_cases j1:j=lo+a
    .rw[AB j1];exact AG _
    .rw[AD j1,AB (by omega)];have:=q5 (j-1-lo) (by omega) (by omega);rw[show lo+(j-1-lo)=j-1 by omega]at this;exact this
   .rw[AD i1];by_cases i2:lo+a<i/\i<=lo+k
    .rw[AB i2,AD (by omega),AB (by omega)];exact hu _ _ (by omega) (by omega) (by omega)
    .rw[AD i2];by_cases j1:j=lo+a
     .rw[AB j1];have:=q4 (i-lo) (by omega);rw[show lo+(i-lo)=i by omega]at this;exact this
     .rw[AD j1];by_cases j2:lo+a<j/\j<=lo+k
      .rw[AB j2];exact hu _ _ a1 (by omega) (by omega)
      .rw[AD j2];exact hu _ _ a1 a2 (by omega)
end
noncomputable def Cz:Nat->List (List Keyed)->List (Nat × Nat)
 |_,[]=>[]
 |o,R::Rs=>(o,R.length)::Cz (o+R.length) Rs
theorem Ig:∀ (o:Nat) (As Bs:List (List Keyed)),Cz o (As++Bs)=Cz o As++Cz (o+As.flatten.length) Bs
 |o,[],Bs=>by simp[Cz]
 |o,R::As,Bs=>by
  rw[List.cons_append,Cz,Cz,Ig];simp only[List.cons_append,C3,AN];rw[Nat.add_assoc]
theorem LX:∀ (o:Nat) (As:List (List Keyed)),(Cz o As).length=As.length
 |_,[]=>rfl
 |o,R::As=>by rw[Cz,CS,LX,CS]
noncomputable abbrev two (p:Nat × Nat × Nat):Nat × Nat:=(p.1,p.2.1)
structure Run (κ:SortKind) (r:Yr) (a₀:List Keyed) (st:SortSt) (Rs:List (List Keyed)) (rest:List Keyed):Prop where
 k:kindOf st=κ
 f:failedOf st=none
 arr:(arrOf st).toList=Rs.flatten++rest
 perm:(arrOf st).toList.Perm a₀
 srt:∀ X∈Rs,X≠[]/\X.Pairwise (leR r)
 pd:(pendingOf st).toList.map two=Cz 0 Rs
section
variable {prog:Ym} {w:Yo} {A:Yn} {E:Yc} {s:Yl} {κ:SortKind} {vs:Yf} {r:Yr} {a₀:List Keyed} {st:SortSt} {Rs:List (List Keyed)} {rest:List Keyed}
def Run.plen (h:Run κ r a₀ st Rs rest):(pendingOf st).size=Rs.length:=by
 have:=Bv List.length h.pd;rw[AF,LX]at this;simpa using this
def fI (h:i+1<Rs.length):∃ As R1 R2 Bs,Rs=As++R1::R2::Bs/\As.length=i:=by
 refine ⟨Rs.take i,Rs[i],Rs[i+1],Rs.drop (i+2),?_,by rw[BF];omega⟩;conv=>lhs;rw[<-E8 i Rs,List.drop_eq_getElem_cons (by omega:i<Rs.length),List.drop_eq_getElem_cons h]
def Oq (R:C2 prog w s κ vs r) (hv:∀ x∈a₀,x.1∈vs) (h:Run κ r a₀ st Rs rest) (hi:i+1<Rs.length)
  (q:∀ st' Rs',Run κ r a₀ st' Rs' rest->Rs'.length+1=Rs.length->Rs'.flatten.length=Rs.flatten.length->Q true st'):wpS (model prog w) A E s (mergeAt' i) Q st:=by
 obtain ⟨As,R1,R2,Bs,rfl,rfl⟩:=fI hi;have pd:=h.pd;rw[Ig,Cz,Cz]at pd;obtain ⟨PA,P1,e1,e2,e3⟩:=List.map_eq_append_iff.mp pd;obtain ⟨p1,P2,e4,e5,e6⟩:=List.map_eq_cons_iff.mp e3;obtain ⟨p2,PB,e7,e8,e9⟩:=List.map_eq_cons_iff.mp e6;subst e4 e7;obtain ⟨x1,x2,pw⟩:=p1;obtain ⟨y1,y2,pw2⟩:=p2;have hPA:PA.length=As.length:=by have:=Bv List.length e2;rw[AF,LX]at this;exact this
 obtain ⟨rfl,rfl⟩:x1=0+As.flatten.length/\x2=R1.length:=by have:=e5;simp only[two,Prod.mk.injEq]at this;exact this
 obtain ⟨rfl,rfl⟩:y1=0+As.flatten.length+R1.length/\y2=R2.length:=by have:=e8;simp only[two,Prod.mk.injEq]at this;exact this
 have a1:(pendingOf st)[As.length]?=some (0+As.flatten.length,R1.length,pw):=by
  rw[<-CC,e1,EG (by omega),hPA];simp
 have a2:(pendingOf st)[As.length+1]?=some (0+As.flatten.length+R1.length,R2.length,pw2):=by
  rw[<-CC,e1,EG (by omega),show As.length+1-PA.length=1 by omega];rfl
 have s1:=h.srt R1 (by simp);have s2:=h.srt R2 (by simp);have harr:(arrOf st).toList=As.flatten++(R1++(R2++(Bs.flatten++rest))):=by rw[h.arr];simp
 refine gE R h.k h.f harr (λx hx=>hv x (h.perm.mem_iff.mp hx)) (by omega) rfl rfl rfl (List.length_pos_iff.mpr s1.1) (List.length_pos_iff.mpr s2.1) s1.2 s2.2 a1 a2 λm st' hk hf hp ha hpm hs=>?_;have hml:m.length=R1.length+R2.length:=by rw[hpm.length_eq,AN]
 refine q st' (As++m::Bs) ⟨hk,hf,by rw[ha];simp,?_,λX hX=>?_,?_⟩ (by simp;omega) (by simp;omega)
 .refine List.Perm.trans ?_ h.perm;rw[ha,harr];refine List.Perm.append_left _ ?_;rw[<-DJ R1];exact List.Perm.append_right _ hpm
 .rcases AS.mp hX with z|z
  .exact h.srt X (by simp[z])
  .rcases AO.mp z with z|z
   .subst z;refine ⟨λe=>?_,hs⟩;rw[e]at hml;have:=List.length_pos_iff.mpr s1.1;simp at hml;omega
   .exact h.srt X (by simp[z])
 .rw[hp];have hz:As.length+1<(pendingOf st).size:=(Array.getElem?_eq_some_iff.mp a2).1;have e10:(((pendingOf st).setIfInBounds As.length (0+As.flatten.length,R1.length+R2.length,pw)).eraseIdxIfInBounds (As.length+1)).toList=PA++(0+As.flatten.length,R1.length+R2.length,pw)::PB:=by
   rw[Array.toList_eraseIdxIfInBounds,Array.toList_setIfInBounds,e1,<-hPA,List.set_append_right _ _ (AG _),List.eraseIdx_append_of_length_le (by omega)];simp
  rw[e10,B7,AY,Ig,Cz,e2,hml,e9,Nat.add_assoc (0+As.flatten.length)]
end
section
variable {prog:Ym} {w:Yo} {A:Yn} {E:Yc} {s:Yl} {κ:SortKind} {vs:Yf} {r:Yr} {a₀:List Keyed} {st st1:SortSt} {Rs:List (List Keyed)} {rest W:List Keyed} {lo n:Nat}
def Run.total (h:Run κ r a₀ st Rs rest):Rs.flatten.length+rest.length=a₀.length:=by
 have:=h.perm.length_eq;rw[h.arr,AN]at this;exact this
def Run.size (h:Run κ r a₀ st Rs rest):(arrOf st).size=a₀.length:=by rw[<-Bn];exact h.perm.length_eq
def fK (h:Run κ r a₀ st Rs rest) (c:CB lo st st1) (hl:lo=Rs.flatten.length):∃ W,Run κ r a₀ st1 Rs W/\W.length=rest.length:=by
 have ht:=h.total;have hz:(arrOf st1).toList.length=a₀.length:=by rw[Bn,c.size,h.size]
 have e:(arrOf st1).toList.take lo=Rs.flatten:=by
  apply List.ext_getElem?;intro i;rw[List.getElem?_take];by_cases hi:i<lo
  .rw[AB hi,CC,c.pre i hi,<-CC,h.arr,Ai (by omega)]
  .rw[AD hi,Ec (by omega)]
 refine ⟨(arrOf st1).toList.drop lo,⟨c.k.trans h.k,c.f.trans h.f,?_,(Array.perm_iff_toList_perm.mp c.perm).trans h.perm,h.srt,by rw[c.p];exact h.pd⟩,by rw[EW];omega⟩;rw[<-e,E8]
def Xs (h:Run κ r a₀ st Rs W) (hl:lo=Rs.flatten.length) (hn:n<=W.length) (hu:RUp r (arrOf st) lo (lo+n)):(W.take n).Pairwise (leR r):=by
 rw[List.pairwise_iff_getElem];intro i j hi hj hij;rw[BF]at hi hj;have at_:∀ (k:Nat) (hk:k<W.length),KR r (arrOf st) (lo+k)=r (W[k]).1:=λk hk=>by
  unfold KR;rw[<-CC,h.arr,EG (by omega),show lo+k-Rs.flatten.length=k by omega,AL hk]
 have:=hu (lo+i) (lo+j) (by omega) (by omega) (by omega);rw[at_ i (by omega),at_ j (by omega)]at this;rw[List.getElem_take,List.getElem_take];exact this
def XU (h:Run κ r a₀ st Rs W) (hl:lo=Rs.flatten.length) (n1:1<=n) (hn:n<=W.length) (hs:(W.take n).Pairwise (leR r)):Run κ r a₀ (setPending st ((pendingOf st).push (lo,n,0))) (Rs++[W.take n]) (W.drop n):=by
 refine ⟨h.k,h.f,?_,h.perm,λX hX=>?_,?_⟩
 .show (arrOf st).toList=_;rw[h.arr];simp
 .rcases AS.mp hX with z|z
  .exact h.srt X z
  .rw[BC.mp z];exact ⟨λe=>by have:=Bv List.length e;rw[BF,D0]at this;omega,hs⟩
 .show ((pendingOf st).push (lo,n,0)).toList.map two=_;rw[Array.toList_push,B7,h.pd,Ig,hl];simp[Cz,BF];omega
def ZS (hn:n<=W.length):(Rs++[W.take n]).flatten.length=Rs.flatten.length+n:=by
 simp[BF];omega
def Ow (h:Run κ r a₀ st Rs W) (hl:lo=Rs.flatten.length) (n1:1<=n) (hn:n<=W.length) (hs:(W.take n).Pairwise (leR r)) (hx:x<=lo) (hz:Rs.length<=lo) :
  ∃ lo2 Rs2 rest2,((none:Option Unit),lo+n)=(none,lo2)/\Run κ r a₀ (setPending st ((pendingOf st).push (lo,n,0))) Rs2 rest2/\lo2=Rs2.flatten.length/\x+1<=lo2/\Rs2.length<=lo2 :=
 ⟨_,_,_,rfl,XU h hl n1 hn hs,by rw[ZS hn,hl],by omega,by rw[AN];simp only[CS,D0];omega⟩
def a9 [Decidable c] (h:1<n) (e:n=m):(if c then n-2-1 else n-2)+1<m:=by
 split <;> omega
def dN (h:Run κ r a₀ st Rs W) (f:Nat × Nat × Nat->Nat × Nat × Nat) (hf:∀ p,two (f p)=two p) (i:Nat):Run κ r a₀ (setPending st ((pendingOf st).modify i f)) Rs W:=by
 refine ⟨h.k,h.f,h.arr,h.perm,h.srt,?_⟩;show ((pendingOf st).modify i f).toList.map two=_;rw[Array.toList_modify,<-h.pd];apply List.ext_getElem?;intro j;rw[Af,Af,List.getElem?_modify];cases (pendingOf st).toList[j]? with
 |none=>rfl
 |some p=>
  by_cases z:i=j
  .simp[z,hf]
  .simp[z]
set_option maxHeartbeats 4000000 in
def bF (R:C2 prog w s κ vs r) (hv:∀ x∈a₀,x.1∈vs) (h:Run κ r a₀ st [] a₀)
  (q:∀ st',failedOf st'=none->Mgd (leR r) a₀ (arrOf st').toList->Q () st'):wpS (model prog w) A E s sortRuns' Q st:=by
 have hN:=h.size;refine wpS_bind (wpS_get ?_);refine wpS_bind (wpS_mono (wpS_forRange (I:=λx c st'=>∃ lo Rs rest,c=(none,lo)/\Run κ r a₀ st' Rs rest/\lo=Rs.flatten.length/\x<=lo/\Rs.length<=lo) (Q:=λc st'=>∃ lo Rs,c=(none,lo)/\Run κ r a₀ st' Rs []/\Rs.length<=lo/\lo<=a₀.length) ?step ?fin ⟨0,[],a₀,rfl,h,rfl,AG _,AG _⟩) ?post)
 case fin=>
  intro c st' hI;refine Classical.byContradiction λG=>?_;obtain ⟨lo,Rs,rest,eI1,h,hlo,hp,hz⟩:=hI;refine G ?_;clear G;subst eI1;have ht:=h.total;have:rest=[]:=HI.mp (by have:max 0 (arrOf st).size<=lo:=hp;omega);subst this;exact ⟨lo,Rs,rfl,h,hz,by omega⟩
 case post=>
  intro c st' hI;refine Classical.byContradiction λG=>?_;obtain ⟨lo,Rs,eI1,h,hz,hz2⟩:=hI;refine G ?_;clear G;subst eI1;refine wpS_bind (wpS_mono (wpS_forRange (I:=λx c st'=>c=(none,()) /\ ∃ Rs,Run κ r a₀ st' Rs []/\Rs.length+x<=max (a₀.length) (x+1)) (Q:=λc st'=>c=(none,()) /\ ∃ Rs,Run κ r a₀ st' Rs []/\Rs.length<=1) ?step2 ?fin2 ⟨rfl,Rs,h,by omega⟩) ?post2)
  case fin2=>
   intro c st' hI;refine Classical.byContradiction λG=>?_;obtain ⟨eI1,Rs,h,hx⟩:=hI;refine G ?_;clear G;subst eI1;have hx':Rs.length+max 0 (arrOf st).size<=max a₀.length (max 0 (arrOf st).size+1):=hx;exact ⟨rfl,Rs,h,by omega⟩
  case post2=>
   intro c st' hI;refine Classical.byContradiction λG=>?_;obtain ⟨eI1,Rs,h,hx⟩:=hI;refine G ?_;clear G;subst eI1;refine wpS_pure (q st' h.f ⟨h.perm,?_⟩);rw[h.arr,By];match Rs,hx,h with
   |[],_,_=>exact .nil
   |[X],_,h=>simpa using (h.srt X (by simp)).2
   |_::_::_,hx,_=>simp at hx
  case step2=>
   intro x c st' _ hx hI;refine Classical.byContradiction λG=>?_;obtain ⟨eI1,Rs,h,hr⟩:=hI;refine G ?_;clear G;subst eI1;refine wpS_bind (wpS_get ?_);have hpl:=h.plen;refine zW (λc1=>wpS_pure ⟨rfl,Rs,h,BA (Nat.le_of_eq hpl.symm) c1⟩) (λc1=>?_);have c1':1<(pendingOf st').size:=by have:¬ (pendingOf st').size<=1:=c1;omega
   refine wpS_bind (Oq R hv h ?_ λst2 Rs2 h2 l1 l2=>?_)
   .exact a9 c1' hpl
   .exact zW (λz=>absurd z (by decide)) (λ_=>wpS_pure ⟨rfl,Rs2,h2,by omega⟩)
 case step=>
  intro x c st' _ hx hI;refine Classical.byContradiction λG=>?_;obtain ⟨lo,Rs,rest,eI1,h,hlo,hp,hz⟩:=hI;refine G ?_;clear G;subst eI1;have ht:=h.total;refine zW (λc1=>?_) (λc1=>?_)
  .have c1':(arrOf st).size<=lo:=c1;have:rest=[]:=HI.mp (by omega);subst this;exact wpS_pure ⟨lo,Rs,rfl,h,hz,by omega⟩
  have c1':lo<(arrOf st).size:=Nat.lt_of_not_le c1;have hv':∀ x∈(arrOf st').toList,x.1∈vs:=λx hx=>hv x (h.perm.mem_iff.mp hx);refine wpS_bind (VX (lo:=lo) (nrem:=(arrOf st).size-lo) R h.k hv' (by rw[h.size];omega) (by omega) λn st1 cb n1 n2 hu=>?_);refine zW (λc2=>?_) (λc2=>?_)
  case' refine_1=>
   refine wpS_bind (wpS_lift (CA ⟨rfl,?_⟩));have c2':n<minRun' (arrOf st).size (arrOf st).size 0:=c2;refine wpS_bind (Xd (n:=min ((arrOf st).size-lo) (minRun' (arrOf st).size (arrOf st).size 0)) R h.k hv' cb (by rw[h.size];omega) n1 (by omega) hu λst2 cb2 hu2=>?_);replace n1:1<=min ((arrOf st).size-lo) (minRun' (arrOf st).size (arrOf st).size 0):=by omega
   replace n2:min ((arrOf st).size-lo) (minRun' (arrOf st).size (arrOf st).size 0)<=(arrOf st).size-lo:=by omega
   refine zW (λz=>absurd z (by decide)) (λ_=>?_);replace hu:=hu2;replace cb:=cb2
  all_goals
   obtain ⟨W,hW,hWl⟩:=fK h cb hlo;have n3:=BA n2 (show (arrOf st).size-lo<=W.length by omega);have hs:=Xs hW hlo n3 hu;refine wpS_bind (wpS_get ?_);split
   .refine wpS_bind (wpS_mono (wpS_forRange (I:=λy c st3=>c=(none,()) /\ ∃ Rs3,Run κ r a₀ st3 Rs3 W/\Rs3.flatten.length=Rs.flatten.length/\Rs3.length<=lo) (Q:=λc st3=>c=(none,()) /\ ∃ Rs3,Run κ r a₀ st3 Rs3 W/\Rs3.flatten.length=Rs.flatten.length/\Rs3.length<=lo) ?step3 (λ_ _ z=>z) ⟨rfl,Rs,hW,rfl,hz⟩) ?post3)
    case step3=>
     intro y c st3 _ _ hI;refine Classical.byContradiction λG=>?_;obtain ⟨eI1,Rs3,h3,l3,z3⟩:=hI;refine G ?_;clear G;subst eI1;refine wpS_bind (wpS_get ?_);have hpl:=h3.plen;dsimp only;by_cases hp1:(pendingOf st3).size>1
     .obtain ⟨p,ep⟩:∃ p,(pendingOf st3)[(pendingOf st3).size-2]?=some p:=⟨_,EF (by omega)⟩;rw[AB hp1,ep];refine zW (λ_=>wpS_pure ⟨rfl,Rs3,h3,l3,z3⟩) (λ_=>?_);refine wpS_bind (Oq R hv h3 (i:=(pendingOf st3).size-2) (by omega) λst4 Rs4 h4 l4 z4=>?_);exact zW (λz=>absurd z (by decide)) (λ_=>wpS_pure ⟨rfl,Rs4,h4,by omega,by omega⟩)
     .rw[AD hp1];exact wpS_pure ⟨rfl,Rs3,h3,l3,z3⟩
    case post3=>
     intro c st3 hI;refine Classical.byContradiction λG=>?_;obtain ⟨eI1,Rs3,h3,l3,z3⟩:=hI;refine G ?_;clear G;subst eI1;refine wpS_bind (wpS_modify (wpS_bind (wpS_modify (wpS_pure ?_))));refine Ow (dN h3 _ ?_ _) (hlo.trans l3.symm) n1 n3 hs hp z3;rintro ⟨a,b,c⟩;rfl
   .exact wpS_bind (wpS_modify (wpS_pure (Ow hW hlo n1 n3 hs hp hz)))
end
section
variable {prog:Ym} {w:Yo} {A:Yn} {E:Yc} {s:Yl} {κ:SortKind} {vs:Yf} {r:Yr}
def Xt (R:C2 prog w s κ vs r):wpS (model prog w) A E s sortRuns' (λ_ st=>failedOf st=none/\((arrOf st).map (·.2)).toList.Perm vs/\((arrOf st).map (·.2)).toList.Pairwise λx y=>r x<=r y) (SortSt.mk' κ (pairsOf vs) #[] 7 none):=by
 have hz:(pairsOf vs).toList=vs.zip vs:=pairsOf_toList vs;have hv:∀ p∈(pairsOf vs).toList,p.1∈vs:=λp hp=>by rw[hz]at hp;exact (mem_zip_self hp).2
 refine bF R hv ⟨rfl,rfl,rfl,.refl _,(λX hX=>absurd hX (by simp)),rfl⟩ λst hf hm=>⟨hf,?_,?_⟩
 .rw[Array.toList_map];have:=hm.1.map (·.2);rw[hz,List.map_snd_zip (AG _)]at this;exact this
 .rw[Array.toList_map];refine List.pairwise_map.mpr ((List.Pairwise.and_mem.mp hm.2).imp λ{x y} h=>?_);have hx:=(mem_zip_self (hz▸hm.1.mem_iff.mp h.1)).1;have hy:=(mem_zip_self (hz▸hm.1.mem_iff.mp h.2.1)).1;rw[<-hx,<-hy];exact h.2.2
def Zq
  (hc:wpAny (model prog w) A.in1 (collect v) (λvs s1=>vs.length<=sizeLine/\KJ s1.heap vs /\
   ∀ (h':Heap) (out:List Value) (n:Nat),(∀ b u,s1.heap.get? b=some u->h'.get? b=some u)->h'.get? s1.heap.objs.size=some (seqObj "list" out.toArray n)->out.Perm vs->out.Pairwise (λx y=>AZ (CT s1.heap y) (CT s1.heap x)=false)->Q (.ref s1.heap.objs.size) { s1 with heap:=h' }) E s) :
  wpAny (model prog w) A (call (.builtin "sorted") [v]) Q E s:=by
 refine Calls.call_function_entry kind_sorted plain_sorted entry_sorted (args_sorted1 _) ?_;unfold Builtin.«sorted»;refine AA (m:=checkCount "sorted" 1 1 _) (AE ?_);refine AA (AX hc (λvs s1 z=>?_) λ_ _ e=>e);obtain ⟨hz,ht,h⟩:=z;refine AA (wpAny_newList ?_ hz);have hoL:(s1.heap.push (seqObj "list" vs.toArray 0)).get? s1.heap.objs.size=some (seqObj "list" vs.toArray 0):=Aj _ rfl;refine AA (C7 (CO slot_list_sort ⟨_,hoL,rfl⟩ entry_list_sort (ZE (κ:=tuples' true) (F:=λout=>out.toList.Perm vs/\out.toList.Pairwise (λx y=>AZ (CT s1.heap y) (CT s1.heap x)=false)) (s:={ s1 with heap:=s1.heap.push (seqObj "list" vs.toArray 0) }) hoL hz (λout e=>by rw[<-Bn];exact e.1.length_eq) (λh2=>⟨by simp,?_⟩) ?_ λout e=>⟨_,rfl,?_⟩) (args_list_sort _)))
 .match vs,h2 with
  |[],_=>exact .nil
  |[x],_=>simp
  |_::_::_,h2=>simp at h2;omega
 .intro h2 h6 k6;have kT:∀ {v xs},Bg s1.heap v xs->Bg h6 v xs:=λ{v xs} t=>t.keep λb o _ e=>k6 b o (λz=>Bq _ (z▸AH e)) (AJ _ e);have ht6:KJ h6 vs:=λv hv=>let ⟨x,xs,t⟩:=ht v hv;⟨x,xs,kT t⟩;refine ⟨λA E Q q=>?_,λA E=>wpS_mono (Xt (WN (s:={ s1 with heap:=h6 }) ht6)) ?_⟩
  .match vs,h2,ht6 with
   |v::vs,_,ht6=>exact dU (s:={ s1 with heap:=h6 }) ht6 q
  .rintro _ st ⟨e1,e2,e3⟩;refine ⟨e1,e2,(List.Pairwise.and_mem.mp e3).imp λ{x y} z=>?_⟩;have mx:=e2.mem_iff.mp z.1;have my:=e2.mem_iff.mp z.2.1;obtain ⟨a,as,tx⟩:=ht x mx;obtain ⟨b,bs,ty⟩:=ht y my;rw[FP tx,FP ty,<-FP (kT tx),<-FP (kT ty),Nm (ks:=vs.map (CT h6)) (List.mem_map_of_mem my) (List.mem_map_of_mem mx)];have:rkV h6 vs x<=rkV h6 vs y:=z.2.2;unfold rkV at this;exact AM (by omega)
 .refine AE ⟨_,rfl,?_⟩;have g1:=get?_update_seq hoL (λ_=> #[]);have g4:=get?_update_seq (AJ (seqObj "list" #[] 0) (AJ (seqObj "tuple" vs.toArray 0) g1)) (λ_=>out);refine h _ out.toList _ (λb u e=>?_) (by rw[Array.toArray_toList];exact g4) e.1 e.2;have hb:s1.heap.objs.size≠b:=λz=>Bq _ (z▸AH e);exact (Dz _ _ hb).trans (AJ _ (AJ _ ((Dz _ _ hb).trans (AJ _ e))))
noncomputable def leL (a b:Ye):Bool:=!AZ b a
noncomputable def Cq (ts:Ya):List (List Int):=ts.mergeSort leL
def fY (a b c:Ye) (h1:leL a b=true) (h2:leL b c=true):leL a c=true:=by
 unfold leL at *;rw[Bool.not_eq_true']at *;cases e:AZ c a with
 |false=>rfl
 |true=>
  cases e2:AZ b a with
  |true=>rw[e2]at h1;cases h1
  |false=>
   cases e3:AZ a b with
   |true=>rw[Je e e3]at h2;cases h2
   |false=>rw[Iu e2 e3]at h2;rw[h2]at e;cases e
def cO (a b:Ye):(leL a b||leL b a)=true:=by
 unfold leL;cases e:AZ b a with
 |false=>rfl
 |true=>
  cases e2:AZ a b with
  |false=>rfl
  |true=>have:=Je e e2;rw[MX]at this;cases this
def JJ (ts:Ya):(Cq ts).Perm ts:=List.mergeSort_perm ts leL
def We (ts:Ya):(Cq ts).Pairwise λa b=>AZ b a=false:=(List.pairwise_mergeSort fY cO ts).imp λ{a b} h=>by unfold leL at h;simpa using h
theorem OG:∀ {xs ys:Ya},xs.Perm ys->xs.Pairwise (λa b=>AZ b a=false)->ys.Pairwise (λa b=>AZ b a=false)->xs=ys
 |[],ys,h,_,_=>by rw[List.nil_perm.mp h]
 |x::xs,[],h,_,_=>by have:=h.length_eq;simp at this
 |x::xs,y::ys,h,hx,hy=>by
  have px:=CD.mp hx;have py:=CD.mp hy;have e:x=y:=by
   have m1:x∈y::ys:=h.mem_iff.mp Ah;have m2:y∈x::xs:=h.mem_iff.mpr Ah;rcases AO.mp m1 with z|z
   .exact z
   .rcases AO.mp m2 with z'|z'
    .exact z'.symm
    .exact Iu (py.1 x z) (px.1 y z')
  subst e;rw[OG (List.Perm.cons_inv h) px.2 py.2]
def bE (h:xs.Perm ts) (hp:xs.Pairwise λa b=>AZ b a=false):xs=Cq ts:=OG (h.trans (JJ ts).symm) hp (We ts)
end
end ST
namespace L3
open L2 ST
def GK (H:Hp) (ys:List V) (ts:Ya):Prop:=ys.length=ts.length /\ ∀ (i:Nat) t,ts[i]?=some t -> ∃ b,ys[i]?=some (.ref b)/\H b=some (.tup ((kkI t).map kV))
def d6 (hl:its.length=ts.length) (ha:∀ (i:Nat) u,its[i]?=some u -> ∃ t b,ts[i]?=some t/\u=.ref b/\H b=some (.tup ((kkI t).map kV))/\Bg h1 (.ref b) t)
  (hp:out.Perm its) (hs:out.Pairwise λx y=>AZ (CT h1 y) (CT h1 x)=false):∃ ys,zX ys out/\GK H ys (Cq ts):=by
 have key:∀ u∈its,∃ t b,u=.ref b/\H b=some (.tup ((kkI t).map kV))/\CT h1 u=t:=λu hu=>by
  obtain ⟨i,hi⟩:=List.mem_iff_getElem?.mp hu;obtain ⟨t,b,_,rfl,e1,e2⟩:=ha i u hi;exact ⟨t,b,rfl,e1,FP e2⟩
 have e0:its.map (CT h1)=ts:=by
  apply List.ext_getElem?;intro i;rw[Af];by_cases hi:i<its.length
  .rw[AL hi];obtain ⟨t,b,e1,e2,_,e4⟩:=ha i _ (AL hi);rw[e1,e2];exact Bv some (FP e4)
  .rw[Ec (by omega),Ec (by omega)];rfl
 have e1:out.map (CT h1)=Cq ts:=bE (by rw[<-e0];exact hp.map _) (List.pairwise_map.mpr hs);refine ⟨out.map λu=>match u with|.ref b=> .ref b|_=> .non,?_,?_,λi t et=>?_⟩
 .refine Ou (by simp) λi y u ey eu=>?_;rw[Af,eu]at ey;obtain ⟨t,b,rfl,_⟩:=key u (hp.mem_iff.mp (Bd eu));cases ey;rfl
 .rw[AF,<-e1,AF]
 .rw[<-e1,Af]at et;cases eu:out[i]? with
  |none=>rw[eu]at et;cases et
  |some u=>
   rw[eu]at et;obtain ⟨t',b,rfl,e2,e3⟩:=key u (hp.mem_iff.mp (Bd eu));have et':CT h1 (.ref b)=t:=CH et;rw[e3]at et';subst et';exact ⟨b,by rw[Af,eu];rfl,e2⟩
theorem Qo:∀ {ts:Ya} {ys:List V},GK H ys ts->zK L H (ts.map λt=>D.tup (t.map D.int)) ys
 |[],ys,h=>by
  have:ys=[]:=HI.mp h.1;subst this;exact .nil
 |t::ts,[],h=>by have:=h.1;cases this
 |t::ts,y::ys,h=>by
  obtain ⟨b,e1,e2⟩:=h.2 0 t rfl;cases e1;refine .cons (WJ (k:=kkI t) ?_ e2) (Qo ⟨Nat.succ.inj h.1,λi u e=>by obtain ⟨b,q1,q2⟩:=h.2 (i+1) u (by simpa using e);exact ⟨b,by simpa using q1,q2⟩⟩);exact Oa (Gz t)
theorem Pu:∀ {ds:List D} {ts:Ya} {vs:List V},Fw ds=some ts->zK L H ds vs->GK H vs ts
 |[],ts,vs,h,r=>by cases h;unfold zK at r;subst r;exact ⟨rfl,λi t e=>by simp at e⟩
 |d::ds,ts,vs,h,r=>by
  unfold Fw at h;split at h
  .rename_i x xs h1 h2;cases h;unfold zK at r;obtain ⟨v,r',rfl,r1,r2⟩:=r;obtain ⟨l2,q2⟩:=Pu h2 r2;refine ⟨by simp[l2],λi t e=>?_⟩;cases i with
   |succ i=>obtain ⟨b,z1,z2⟩:=q2 i t (by simpa using e);exact ⟨b,by simpa using z1,z2⟩
   |zero=>
    cases e;cases d with
    |tup es=>
     unfold Rep at r1;obtain ⟨a,ws,rfl,e1,r3⟩:=r1;have:=Ia h1 r3;subst this;refine ⟨a,rfl,?_⟩;rw[e1];unfold kkI;rw[BD];rfl
    |_=>cases h1
  .cases h
section
variable {X:Cx}
def cI:Cm X (.builtin "sorted") (λxs H Q=>∃ a vs ts,xs=[.ref a]/\(SqL X.K H a vs\/SqT X.K H a vs)/\GK H vs ts/\(∀ t∈ts,t≠[])/\ts.length<=90000 /\ ∀ ys l,GK H ys (Cq ts)->H l=none->Q (.ref l) (upd H l (.lst ys))):=by
 intro zB s Y H xs us Q I r h;obtain ⟨a,vs,ts,rfl,hq,hv,hne,hz,q⟩:=h;obtain ⟨u,rfl,rx⟩:=Eu r;cases rx;have key:∃ (ty:String) (its:List Value),(ty = "list" \/ ty = "tuple")/\(∃ ol,s.heap.get? a=some ol/\ol.cls=.type ty /\ ∃ nl,ol.data=.seq its.toArray nl)/\zX vs its:=by
  rcases hq with hq|hq
  .obtain ⟨its,rv,⟨ol,nl,e1,e2,_,e3⟩,_⟩:=I.list hq;exact ⟨"list", its,.inl rfl,⟨ol,e1,e2,nl,e3⟩,rv⟩
  .obtain ⟨its,rv,⟨ol,e1,e2,nl,e3⟩,_⟩:=I.tuple hq;exact ⟨"tuple", its,.inr rfl,⟨ol,e1,e2,nl,e3⟩,rv⟩
 obtain ⟨ty,its,hty,hl,rv⟩:=key;have hlen:its.length=ts.length:=by rw[<-rv.length];exact hv.1
 have hsl:its.length<=sizeLine:=by rw[sizeLine_eq];omega
 have ait:∀ (i:Nat) u,its[i]?=some u -> ∃ t b,ts[i]?=some t/\u=.ref b/\H b=some (.tup ((kkI t).map kV)):=by
  intro i u e;have hi:i<ts.length:=by rw[<-hlen];exact (AI.mp e).1
  obtain ⟨b,e1,e2⟩:=hv.2 i _ (AL hi);refine ⟨_,b,AL hi,?_,e2⟩;obtain ⟨u',e3,rfl⟩:=rv.get e1;rw[e]at e3;exact CH e3
 refine Zq (Pn hty hl ?_ hsl);generalize hH1:(s.heap.push (seqObj "list" #[] 0)).update s.heap.objs.size (Obj.mapSeq (· ++ its.toArray))=h1;have k1:∀ b u,s.heap.get? b=some u->h1.get? b=some u:=λb u e=>by
  have hb:s.heap.objs.size≠b:=λz=>Bq _ (z▸AH e);rw[<-hH1];exact (Dz _ _ hb).trans (AJ _ e)
 have a2:∀ (i:Nat) u,its[i]?=some u -> ∃ t b,ts[i]?=some t/\u=.ref b/\H b=some (.tup ((kkI t).map kV))/\Bg h1 (.ref b) t:=λi u e=>by
  obtain ⟨t,b,e1,e2,e3⟩:=ait i u e;exact ⟨t,b,e1,e2,e3,(Ss (I.hok b _ e3)).keep λc o _ eo=>k1 c o eo⟩
 refine ⟨hsl,λv hv'=>?_,λh' out n hk hL hp hs=>?_⟩
 .obtain ⟨i,hi⟩:=List.mem_iff_getElem?.mp hv';obtain ⟨t,b,e1,rfl,_,tt⟩:=a2 i v hi;cases t with
  |nil=>exact absurd rfl (hne _ (Bd e1))
  |cons x t=>exact ⟨x,t,tt⟩
 .obtain ⟨ys,rvy,tv⟩:=d6 hlen a2 hp hs;have I2:Inv X zB Y H { s with heap:=h1 }:=I.kept (t':=s.toks) k1;have hf:H h1.objs.size=none:=I2.hok.fresh (AG _);exact ⟨.ref h1.objs.size,upd H h1.objs.size (.lst ys),I2.laid (t':=s.toks) hk (AG _) ⟨by rw[tv.1,(JJ ts).length_eq,sizeLine_eq];omega,out,n,rvy,hL⟩,rfl,q ys _ tv hf⟩
noncomputable def Gk (ts:Ya):Bool:=ts.all λt=> !t.isEmpty
def dY (h:Gk ts=true):∀ t∈ts,t≠[]:=λt ht e=>by
 unfold Gk at h;rw[Ae]at h;have:=h t ht;rw[e]at this;cases this
noncomputable def HE:KB:=λxs M=>match xs with
 |[x]=>match Az M x with
  |some ds=>match Fw ds with
   |some ts=>if Gk ts=true/\ts.length<=90000 then some (.fl ((Cq ts).map λt=>D.tup (t.map D.int)),M) else none
   |none=>none
  |none=>none
 |_=>none
def Zr:D7 X.K (λxs H Q=>∃ a vs ts,xs=[.ref a]/\(SqL X.K H a vs\/SqT X.K H a vs)/\GK H vs ts/\(∀ t∈ts,t≠[])/\ts.length<=90000 /\ ∀ ys l,GK H ys (Cq ts)->H l=none->Q (.ref l) (upd H l (.lst ys))) HE:=by
 intro L M M' H H0 xs d vs Q cc r hk q;unfold HE at hk;split at hk
 .rename_i x;split at hk
  .rename_i ds e1;split at hk
   .rename_i ts e2;split at hk
    .rename_i hb;cases hk;obtain ⟨v,rfl,r1⟩:=r.one;obtain ⟨a,ws,rfl,hs,r2⟩:=F6 cc r1 e1;exact ⟨a,ws,ts,rfl,hs,Pu e2 r2,dY hb.1,hb.2,λys l tv hl=>q L _ _ (.upd hl) (cc.upd hl) (zk.newLst' cc hl (Qo tv))⟩
    .cases hk
   .cases hk
  .cases hk
 .cases hk
def cL (hg:Gl X "sorted") (hm:X.mg "sorted" = none) (ha:QAE X [e] fa) (he:starEach [e] X.env=(false,eval e X.env)::starEach [] X.env:=by rfl) (hpl:(backTo pos (starEach [] X.env)).any (·.1)=false:=by rfl):QE X (.Call (.Name "sorted" p) [e] [] pos) (fB HE fa) :=
 HZ Zr cI (by rfl) hg hm ha (by decide) (by decide) he hpl
end
section
variable {X:Cx} {a b a2 b2 a3 b3:Expr} {pos:Pos}
noncomputable def Im (k1:Str) (fv:FE) (k2:Str) (fw:FE) (k3:Str) (fz:FE):FE:=λY M=>match toD fv Y (M++[.dict []]) with
 |some (v,M1)=>match toD fw Y M1 with
  |some (w,M2)=>match toD fz Y M2 with
   |some (z,M3)=>match M3[M.length]? with
    |some (.dict [])=>if k1=k2\/k1=k3\/k2=k3 then none else some (.dat (.ref M.length),M3.set M.length (.dict [(.str k1,v),(.str k2,w),(.str k3,z)]))
    |_=>none
   |none=>none
  |none=>none
 |none=>none
def SA (h1:QE X a (fC (.str k1))) (h2:QE X b fv) (h3:QE X a2 (fC (.str k2))) (h4:QE X b2 fw) (h5:QE X a3 (fC (.str k3))) (h6:QE X b3 fz):QE X (.Dict [some a,some a2,some a3] [b,b2,b3] pos) (Im k1 fv k2 fw k3 fz):=.mk <| PE.imp (Xj (JA (Bt h1).un (Bt h2).un (JA (Bt h3).un (Bt h4).un (JA (Bt h5).un (Bt h6).un Qu))) rfl rfl (by simp) (by simp)) λτ H Q ⟨L,Y,M,d,M',c,rs,hf,q⟩ p hp=>by
 unfold Im at hf;split at hf
 .rename_i v M1 e2;split at hf
  .rename_i w M2 e4;split at hf
   .rename_i z M3 e6;split at hf
    .rename_i e5;split at hf
     .cases hf
     .rename_i hne;cases hf;obtain ⟨c0,s0⟩:=c.pushO (m:=.dict []) (o:=.dK []) hp ⟨[],Ct,rfl⟩;refine ⟨L++[p],Y,_,_,_,c0,rs.stp s0,(rfl:toD (fC (.str k1)) Y (M++[.dict []])=some (.str k1,_)),λL1 H1 x st1 c1 r1=>⟨L1,Y,_,_,_,c1,(rs.stp s0).stp st1,e2,λL2 H2 y st2 c2 r2=>?_⟩⟩;refine ⟨L2,Y,_,_,_,c2,((rs.stp s0).stp st1).stp st2,(rfl:toD (fC (.str k2)) Y M1=some (.str k2,_)),λL3 H3 x' st3 c3 r3=>⟨L3,Y,_,_,_,c3,(((rs.stp s0).stp st1).stp st2).stp st3,e4,λL4 H4 y' st4 c4 r4=>?_⟩⟩;refine ⟨L4,Y,_,_,_,c4,((((rs.stp s0).stp st1).stp st2).stp st3).stp st4,(rfl:toD (fC (.str k3)) Y M2=some (.str k3,_)),λL5 H5 x'' st5 c5 r5=>⟨L5,Y,_,_,_,c5,(((((rs.stp s0).stp st1).stp st2).stp st3).stp st4).stp st5,e6,λL6 H6 y'' st6 c6 r6=>?_⟩⟩;have st:=(((((s0.trans st1).trans st2).trans st3).trans st4).trans st5).trans st6;have hx:x=.str k1:=by unfold Rep at r1;exact r1
      have hx':x'=.str k2:=by unfold Rep at r3;exact r3
      have hx'':x''=.str k3:=by unfold Rep at r5;exact r5
      have lp:L6[M.length]?=some p:=by
       obtain ⟨N,hN⟩:=(((((st1.trans st2).trans st3).trans st4).trans st5).trans st6).pre;rw[hN,<-c.len];simp
      obtain ⟨vs,ev,dv⟩:=c6.obj _ p _ lp e5;unfold Aa at dv;subst dv;have hm:F1 [] [((Sum.inr k1:Key),y),(Sum.inr k2,y'),(Sum.inr k3,y'')]=[((Sum.inr k1:Key),y),(Sum.inr k2,y'),(Sum.inr k3,y'')]:=by
       unfold F1 BO;have h12:¬ ((Sum.inr k1:Key)=Sum.inr k2):=λz=>hne (.inl (Sum.inr.inj z));have h13:¬ ((Sum.inr k1:Key)=Sum.inr k3):=λz=>hne (.inr (.inl (Sum.inr.inj z)));have h23:¬ ((Sum.inr k2:Key)=Sum.inr k3):=λz=>hne (.inr (.inr (Sum.inr.inj z)));simp[h12,h13,h23,BO]
      refine ⟨ev,[(Sum.inr k1,y),(Sum.inr k2,y'),(Sum.inr k3,y'')],by rw[hx,hx',hx''];rfl,by simp,?_⟩;rw[hm];obtain ⟨c7,s7⟩:=c6.put (m:=.dict [(.str k1,v),(.str k2,w),(.str k3,z)]) (o':=.dK [(Sum.inr k1,y),(Sum.inr k2,y'),(Sum.inr k3,y'')]) lp ev (λ_ z=>by cases z) (λ_ _ z=>by cases z) λs7=>⟨_,Ct,_,y,[(Sum.inr k2,y'),(Sum.inr k3,y'')],rfl,rfl,(r2.stp (((st3.trans st4).trans st5).trans st6)).stp s7,_,y',[(Sum.inr k3,y'')],rfl,rfl,(r4.stp (st5.trans st6)).stp s7,_,y'',[],rfl,rfl,r6.stp s7,rfl⟩;refine q _ _ _ (st.trans s7) c7 ?_;unfold zk Rep;exact ⟨p,rfl,lp⟩
    .cases hf
   .cases hf
  .cases hf
 .cases hf
end
open PySem.Calls
section
variable {X:Cx} {pr:Arguments} {bd:Expr} {sc:Y0} {pos p lp:Pos} {e:Expr} {es:Yi} {c P f:Yt} {g1 g2:FA}
noncomputable def only (h:Heap) (base:Heap) (S:Yg):Heap:=PySem.W.hideAll h ((List.range h.objs.size).filter λb=> !((base.get? b).isSome||S.contains b))
end
structure Tb (K:Yb) (x:Str) {st:Stmt} (g:Dg K x st) where
 c:Addr
 P:Addr
 {od:Option Addr}
 {sl:Array (Option Value)}
 {vs:Yp}
 e:g.cd=.ref c
 l:K.lookup c=some ⟨.type "code", od,.fields vs,sl⟩
 v:vs[11]?=some (.ref P)
 h:PySem.W.codeHdIn [(c,⟨.type "code", od,.fields vs,sl⟩)] c P=true
section
variable {K:Yb} {x:Str} {st:Stmt} {g:Dg K x st}
def Tb.tab (t:Tb K x g):PySem.W.tabIn K x=some (t.c,t.P):=by
 have h1:=g.a;have h2:=g.l;have h3:=t.e;have h4:=t.l;have h5:=t.v;generalize g.cd=cd at h2 h3;subst h3;unfold PySem.W.tabIn;simp only[h1,h2,h4,h5]
def Tb.hd (t:Tb K x g):PySem.W.codeHdIn K t.c t.P=true:=by
 have h4:=t.l;have h6:=t.h;have e:List.lookup t.c [(t.c,(⟨.type "code", t.od,.fields t.vs,t.sl⟩:Obj))]=K.lookup t.c:=by rw[h4,FC];simp
 unfold PySem.W.codeHdIn at h6 ⊢;rw[e]at h6;exact h6
end
noncomputable def Qn (neg:Bool) (K:Yb):R2:=λx y H Q=>∃ (L:Yg) (d:D) (ds:List D) (p:Yt) (xs:List V),y=.ref p/\(SqL K H p xs\/SqT K H p xs)/\BX 1 d=true/\ds.all (BX 1)=true/\Rep L H d x/\zK L H ds xs/\Q (.bl (nb neg (ds.any λe=>BP 1 e d))) H
section
variable {X:Cx} {a b:Expr} {pos:Pos} {f g:FE} {zB:Yd} {Y:L2.St} {H:Hp} {s:Yl} {L:Yg} {d:D} {ds:List D} {xs:List V} {its:Yf} {v:V} {u:Yu}
open Classical in
noncomputable def eY (L:Yg) (H:Hp) (ds:List D) (d:D) (y:Yu):Bool:=decide (∃ e,e∈ds/\(∃ v,Rep L H e v/\zm v y)/\BP 1 e d=true)
open Classical in
def Ll (hs:ds.all (BX 1)=true) {e:D} {v:V} {y:Yu} (he:e∈ds) (r:Rep L H e v) (q:zm v y):eY L H ds d y=BP 1 e d:=by
 rw[Ae]at hs;have h1:=hs e he;have key:(∃ e,e∈ds/\(∃ v,Rep L H e v/\zm v y)/\BP 1 e d=true) ↔ BP 1 e d=true:=by
  constructor
  .rintro ⟨e',h2,⟨v',r',q'⟩,h3⟩;have h4:=hs e' h2;have:v=v':=by
    cases e <;> first|cases h1|skip
    cases e' <;> first|cases h4|skip
    have r1:=r;have r2:=r';unfold Rep at r1 r2;obtain ⟨a1,_,rfl,_⟩:=r1;obtain ⟨a2,_,rfl,_⟩:=r2;cases q;cases q';rfl
   subst this;rw[NU 1 e e' v h1 h4 r r'];exact h3
  .intro h;exact ⟨e,he,⟨v,r,q⟩,h⟩
 unfold eY;cases z:BP 1 e d with
 |true=>exact AR (key.mpr z)
 |false=>exact AM λw=>by rw[key.mp w]at z;cases z
def J7 (rr:zK L H ds xs) (r:zX xs its) (h:j<its.length):∃ e v,e∈ds/\ds[j]?=some e/\Rep L H e v/\zm v its[j]:=by
 have l1:xs.length=its.length:=r.length;have l2:xs.length=ds.length:=rr.length;have hj:j<ds.length:=by omega
 obtain ⟨v,g1,t1⟩:=rr.get (AL hj);obtain ⟨o,g2,t2⟩:=r.get g1;rw[AL h]at g2;cases g2;exact ⟨_,v,Ab hj,AL hj,t1,t2⟩
def Qc (I:Inv X zB Y H s) (hu:X.A.units+1+1<cLine) (hd:BX 1 d=true) (hs:ds.all (BX 1)=true) (rd:Rep L H d v) (rx:zm v u) (rr:zK L H ds xs) (r:zX xs its) (w:Yu) (hw:w∈its):SeqAt.EqAt X.A.in1 s w u (eY L H ds d w):=by
 obtain ⟨j,hj,rfl⟩:=E6 hw;obtain ⟨e,v',he,_,re,q⟩:=J7 rr r hj;rw[Ll hs he re q];rw[Ae]at hs;exact WB I 1 X.A.in1 _ _ _ _ _ _ hu (hs e he) hd re rd q rx
def Qg (hs:ds.all (BX 1)=true) (rr:zK L H ds xs) (r:zX xs its):its.any (eY L H ds d)=ds.any λe=>BP 1 e d:=by
 have l1:xs.length=its.length:=r.length;have l2:xs.length=ds.length:=rr.length;rw[En,List.any_eq_true,List.any_eq_true];constructor
 .rintro ⟨w,hw,h⟩;obtain ⟨j,hj,rfl⟩:=E6 hw;obtain ⟨e,v',he,_,re,q⟩:=J7 rr r hj;rw[Ll hs he re q]at h;exact ⟨e,he,h⟩
 .rintro ⟨e,he,h⟩;obtain ⟨j,hj,rfl⟩:=E6 he;obtain ⟨e',v',he',g,re,q⟩:=J7 rr r (j:=j) (by omega);rw[AL hj]at g;cases g;exact ⟨its[j],Ab (by omega),by rw[Ll hs he' re q];exact h⟩
def Uo (hu:X.A.units+1+1<cLine):OpR X (compareOp .NotIn) (Qn true X.K):=by
 intro zB s Y H x y v u Q I rx ry h;obtain ⟨L,d,ds,p,xs,rfl,hq,hd,hs,rd,rr,q⟩:=h;cases ry;rcases hq with hq|hq
 .obtain ⟨its,r,pl,hz⟩:=I.list hq;refine SeqAt.notIn_listAt (eY L H ds d) pl.isList (λw hw=>Qc I hu hd hs rd rx rr r w (by simpa using hw)) ⟨.bl _,H,I,rfl,?_⟩;rw[show its.toArray.any (eY L H ds d)=its.any (eY L H ds d) by simp,Qg hs rr r];exact q
 .obtain ⟨its,r,pl,hz⟩:=I.tuple hq;refine SeqAt.notIn_tupleAt (eY L H ds d) pl (λw hw=>Qc I hu hd hs rd rx rr r w (by simpa using hw)) ⟨.bl _,H,I,rfl,?_⟩;rw[show its.toArray.any (eY L H ds d)=its.any (eY L H ds d) by simp,Qg hs rr r];exact q
noncomputable def Ed (neg:Bool):K2:=λx y M=>match x with
 |.dat d=>match Az M y with
  |some ds=>if BX 1 d&&ds.all (BX 1) then some (.dat (.bl (nb neg (ds.any λe=>BP 1 e d))),M) else none
  |none=>none
 |_=>none
def Wa {K:Yb} {neg:Bool}:BL K (Qn neg K) (Ed neg):=by
 intro L M M' H H0 x y d v w Q cc rx ry hk q;unfold Ed at hk;split at hk
 .rename_i d';split at hk
  .rename_i ds e1;split at hk
   .rename_i hb;cases hk;rw[Am]at hb;obtain ⟨p,vs,rfl,hs,r⟩:=F6 cc ry e1;exact ⟨L,d',ds,p,vs,rfl,hs,hb.1,hb.2,rx,r,q L H _ (.refl L H) cc (Ce (L:=L) (H:=H))⟩
   .cases hk
  .cases hk
 .cases hk
def ZV (hu:X.A.units+1+1<cLine) (h1:QE X a f) (h2:QE X b g) (hm:behindInMarks .NotIn b=false:=by rfl):QT X (.Compare a [.NotIn] [b] pos) (tst (fOp (Ed true) f g)):=G2 Wa (Uo hu) h1 h2 hm
end
end L3
namespace Law
open L2 L3
theorem DE (n:Nat):∀ c:List Int,D.unds n (c.map D.int)=true
 |[]=>rfl
 |x::r=>by
  show (D.und n (D.int x)&&D.unds n (r.map D.int))=true;rw[DE n r];rfl
theorem Kw:∀ {a b:Ye},a.map D.int=b.map D.int->a=b
 |[],[],_=>rfl
 |[],_::_,h=>by cases h
 |_::_,[],h=>by cases h
 |x::a,y::b,h=>by
  rw[AY,AY]at h;have h1:=(CF h).1;have h2:=Kw (CF h).2;cases h1;rw[h2]
def Tg (h:x::r=c.map D.int):∃ y c',c=y::c'/\x=.int y/\r=c'.map D.int:=by
 cases c with
 |nil=>cases h
 |cons y c'=>rw[AY]at h;exact ⟨y,c',rfl,(CF h).1,(CF h).2⟩
def zo:B6 none xs M:=trivial
def zb (h:n<=100000):n<=sizeLine:=BA h (by decide)
mutual
theorem IZ (h:a<=b):∀ {d:D},D.und a d=true->D.und b d=true
 |.non,_=>by unfold D.und;rfl
 |.bl _,_=>by unfold D.und;rfl
 |.int _,_=>by unfold D.und;rfl
 |.str _,_=>by unfold D.und;rfl
 |.tup ds,e=>by unfold D.und at e ⊢;exact E3 h e
 |.fn _ ds,e=>by unfold D.und at e ⊢;exact E3 h e
 |.ref k,e=>by unfold D.und at e ⊢;simp at e ⊢;omega
theorem E3 (h:a<=b):∀ {ds:List D},D.unds a ds=true->D.unds b ds=true
 |[],_=>by unfold D.unds;rfl
 |d::ds,e=>by
  unfold D.unds at e ⊢;rw[Am]at e ⊢;exact ⟨IZ h e.1,E3 h e.2⟩
end
def Qy (h:a<=b) (e:MO.und a u=true):MO.und b u=true:=by
 cases u with
 |lst xs=>exact E3 h e
 |fro xs=>exact E3 h e
 |set xs=>exact E3 h e
 |dict kvs|dicT kvs|froT kvs|froK kvs=>
  unfold MO.und at e ⊢;rw[Ae]at e ⊢;intro p hp;have:=e p hp;rw[Am]at this ⊢;exact ⟨IZ h this.1,IZ h this.2⟩
theorem Js:∀ {xs ys:List D},D.unds n (xs++ys)=(D.unds n xs&&D.unds n ys)
 |[],ys=>by simp[D.unds]
 |x::xs,ys=>by
  show (D.und n x&&D.unds n (xs++ys))=((D.und n x&&D.unds n xs)&&D.unds n ys);rw[Js,Bool.and_assoc]
theorem FY:∀ {xs:List D},(∀ x∈xs,D.und n x=true)->D.unds n xs=true
 |[],_=>rfl
 |x::xs,h=>by
  show (D.und n x&&D.unds n xs)=true;rw[h x Ah,FY λy hy=>h y (BS _ hy)];rfl
def HG (c:Ye):D.und n (.tup (c.map D.int))=true:=by unfold D.und;exact DE n c
noncomputable def DV (i:Nat):Nat->List D
 |0=>[]
 |n+1=> .int i::DV (i+1) n
def YD (n:Nat):∀ i,((List.range' i n).map λ(k:Nat)=>D.int k)=DV i n:=by
 induction n with
 |zero=>intro i;rfl
 |succ n ih=>intro i;rw[List.range'_succ,AY,ih];rfl
def JL (n:Nat):((List.range n).map λ(k:Nat)=>D.int k)=DV 0 n:=by rw[List.range_eq_range',YD]
theorem HN:∀ (n i:Nat),(DV i n).length=n
 |0,_=>rfl
 |n+1,i=>by show (DV (i+1) n).length+1=_;rw[HN n]
def D2 (n:Nat) (I:Nat->Sd->Mem->Prop)
  (hs:∀ i Y M,i<n->I i Y M -> ∃ σ1,g (.int i) Y=some σ1/\OkS (b σ1 M) λo σ2 M2=>match o with|.nx=>I (i+1) σ2 M2|.cnt=>I (i+1) σ2 M2|.brk=>P .nx σ2 M2|.ret d=>P (.ret d) σ2 M2)
  (he:∀ Y M,I n Y M->P .nx Y M) (Y:Sd) (M:Mem) (h0:I 0 Y M):OkS (Dy g b all none (DV 0 n) Y M) P:=by
 refine Dc (I:=λr Y M=>∃ i,i<=n/\r=DV i (n-i)/\I i Y M) ?_ ?_ _ _ _ ⟨0,Ba _,by simp,h0⟩
 .intro x r Y M hI;refine Classical.byContradiction λG=>?_;obtain ⟨i,hi,e,hI⟩:=hI;refine G ?_;clear G;have hlt:i<n:=by
   rcases Nat.lt_or_ge i n with z|z
   .exact z
   .rw[show n-i=0 by omega]at e;cases e
  rw[show n-i=(n-(i+1))+1 by omega]at e;obtain ⟨rfl,rfl⟩:=CF e;obtain ⟨σ1,e1,q⟩:=hs i Y M hlt hI;refine ⟨zo,σ1,e1,OkS.mono q ?_⟩;intro o σ2 M2 z;cases o with
  |nx=>exact ⟨i+1,hlt,rfl,z⟩
  |cnt=>exact ⟨i+1,hlt,rfl,z⟩
  |brk=>exact z
  |ret d=>exact z
 .intro Y M hI;refine Classical.byContradiction λG=>?_;obtain ⟨i,hi,e,hI⟩:=hI;refine G ?_;clear G;have:i=n:=by
   rcases Nat.lt_or_ge i n with z|z
   .rw[show n-i=(n-(i+1))+1 by omega]at e;cases e
   .omega
  subst this;exact ⟨zo,he Y M hI⟩
def KU (n:Nat) (I:Nat->List D->Mem->Prop)
  (hs:∀ i acc M,i<n->I i acc M -> ∃ σ1,g (.int i) Y=some σ1/\Ok (te σ1 M) (EJ λd M2=>I (i+1) (acc++[d]) M2)) (h0:I 0 [] M) :
  Ok (Bc g zf te Y all none (DV 0 n) M) λys M1=>I n ys M1:=by
 refine Ok.mono (G6 (I:=λr acc M=>∃ i,i<=n/\r=DV i (n-i)/\I i acc M) (Q:=λacc M=>I n acc M) ?_ ?_ _ [] _ ⟨0,Ba _,by simp,h0⟩) λys M1 q=>by simpa using q
 .intro x r acc M hI;refine Classical.byContradiction λG=>?_;obtain ⟨i,hi,e,hI⟩:=hI;refine G ?_;clear G;have hlt:i<n:=by
   rcases Nat.lt_or_ge i n with z|z
   .exact z
   .rw[show n-i=0 by omega]at e;cases e
  rw[show n-i=(n-(i+1))+1 by omega]at e;obtain ⟨rfl,rfl⟩:=CF e;obtain ⟨σ1,e1,q⟩:=hs i acc M hlt hI;refine ⟨zo,σ1,e1,Qa.mpr ?_⟩;rw[AB rfl];refine Ok.mono q ?_;intro x M2 z;cases x with
  |dat d=>exact ⟨i+1,hlt,rfl,z⟩
  |fl xs=>exact ⟨i+1,hlt,rfl,z⟩
 .intro acc M hI;refine Classical.byContradiction λG=>?_;obtain ⟨i,hi,e,hI⟩:=hI;refine G ?_;clear G;have:i=n:=by
   rcases Nat.lt_or_ge i n with z|z
   .rw[show n-i=(n-(i+1))+1 by omega]at e;cases e
   .omega
  subst this;exact ⟨zo,hI⟩
def CV (e:f Y M=some (.dat (.int j),M)) (h1:0<=j) (h2:j<2 ^ 62):zt (zD (toD f) zG) Y M=some (DV 0 j.toNat,none,M):=by
 have e':(zD (toD f) zG) Y M=some ([.int j],M):=by unfold zD toD zG;rw[e]
 rw[Na e' h1 h2,JL]
noncomputable def mD (zA:Ya):D:=.tup (zA.map λr=> .tup (r.map D.int))
structure IsM (zA:Ya) (l:Nat):Prop where
 r0:0<zA.length
 l0:0<l
 row:∀ r∈zA,r.length=l /\ ∀ g∈r,0<=g/\g<zA.length
def Iw (zA:Ya):D.und n (mD zA)=true:=by
 unfold mD D.und;refine FY λx hx=>?_;obtain ⟨r,_,rfl⟩:=AV.mp hx;exact HG r
def zH {α:Type} {x:Option (α × Mem)} {a:α} {M:Mem} (h:Ok x λb M'=>b=a/\M'=M):x=some (a,M):=by
 obtain ⟨b,M',e,rfl,rfl⟩:=h;exact e
def zF {α:Type} {x:Option (α × Mem)} {a:α} {M:Mem} {P:α->Mem->Prop} (h:x=some (a,M)) (p:P a M):Ok x P:=⟨a,M,h,p⟩
def EY {c:FT} {a g:FS} {Y:Sd} {M:Mem} {P:Out->Sd->Mem->Prop} (hc:c Y M=some (false,M)) (h:OkS (g Y M) P):OkS (zM (sIf c a Ac) g Y M) P:=by
 rw[zL,BQ];refine zF hc ?_;rw[AD (by decide),Bx];exact h
def K1 {c:FT} {a:FS} {Y:Sd} {M:Mem} {P:Out->Sd->Mem->Prop} (hc:c Y M=some (false,M)) (h:P .nx Y M):OkS (sIf c a Ac Y M) P:=by
 rw[BQ];refine zF hc ?_;rw[AD (by decide),Bx];exact h
def MZ {f:FE} {Y:Sd} {M M':Mem} {k:Bool} (h:f Y M=some (.dat (.bl k),M')):BM (tst f) Y M=some (!k,M'):=by
 unfold BM tst;rw[h]
def zU {f:FE} {Y:Sd} {M:Mem} {d:D} (h:f Y M=some (.dat d,M)):zD (toD f) zG Y M=some ([d],M):=by
 unfold zD toD zG;rw[h]
def zg {f:FE} {g:FA} {Y:Sd} {M:Mem} {d:D} {ds:List D} (h:f Y M=some (.dat d,M)) (hg:g Y M=some (ds,M)):zD (toD f) g Y M=some (d::ds,M):=by
 unfold zD toD;rw[h];dsimp only;rw[hg]
def zp {m:FF} {a:FA} {Y:Sd} {M M':Mem} {ds:List D} {d:D} (h:a Y M=some (ds,M)) (hm:m ds M=some (d,M')):zO m a Y M=some (.dat d,M'):=by
 unfold zO;rw[h];dsimp only;rw[hm]
def zI {k:K2} {f g:FE} {Y:Sd} {M:Mem} {x y:EV} {r:Option (EV × Mem)} (hf:f Y M=some (x,M)) (hg:g Y M=some (y,M)) (hk:k x y M=r):fOp k f g Y M=r:=by
 unfold fOp;rw[hf];dsimp only;rw[hg];exact hk
def BR {x:EV} {xs:List D} {i:Int} {d:D} {M:Mem} (h:Az M x=some xs) (hd:atI xs i=some d):kIx x (.dat (.int i)) M=some (.dat d,M):=zH (NO h hd ⟨rfl,rfl⟩)
def Bo {f:FE} {x:EV} {xs:List D} {Y:Sd} {M:Mem} (hf:f Y M=some (x,M)) (h:Az M x=some xs):fB zV (zE f zJ) Y M=some (.dat (.int xs.length),M):=by
 unfold fB zE zJ;rw[hf];exact zH ((Tj h).mpr ⟨rfl,rfl⟩)
noncomputable def BH (zA:Ya) (h g:Int):Int:=(zA.getD h.toNat []).getD g.toNat 0
def Fo {zA:Ya} {h:Int} (h0:0<=h) (h1:h<zA.length):atI (zA.map λr=>D.tup (r.map D.int)) h=some (.tup ((zA.getD h.toNat []).map D.int)):=by
 refine HA h0 ?_;rw[Af,ES,AL (by omega)];rfl
def Q7 {r:Ye} {g:Int} (h0:0<=g) (h1:g<r.length):atI (r.map D.int) g=some (.int (r.getD g.toNat 0)):=by
 refine HA h0 ?_;rw[Af,ES,AL (by omega)];rfl
def IsM.get {zA:Ya} {l:Nat} (m:IsM zA l) {h:Int} (h0:0<=h) (h1:h<zA.length):(zA.getD h.toNat []).length=l /\ ∀ g∈zA.getD h.toNat [],0<=g/\g<zA.length:=by
 refine m.row _ ?_;rw[ES,AL (by omega)];exact Ab _
def IsM.step {zA:Ya} {l:Nat} (m:IsM zA l) {h g:Int} (h0:0<=h) (h1:h<zA.length) (g0:0<=g) (g1:g<l):0<=BH zA h g/\BH zA h g<zA.length:=by
 obtain ⟨q1,q2⟩:=m.get h0 h1;refine q2 _ ?_;unfold BH;rw[ES (l:=zA.getD h.toNat []),AL (by omega)];exact Ab _
def IsM.ix {zA:Ya} {l:Nat} (m:IsM zA l) {h g:Int} (h0:0<=h) (h1:h<zA.length) (g0:0<=g) (g1:g<l) {f1 f2 f3:FE} {Y:Sd} {M:Mem} (e1:f1 Y M=some (.dat (mD zA),M)) (e2:f2 Y M=some (.dat (.int h),M)) (e3:f3 Y M=some (.dat (.int g),M)) :
  fOp kIx (fOp kIx f1 f2) f3 Y M=some (.dat (.int (BH zA h g)),M):=by
 obtain ⟨q1,_⟩:=m.get h0 h1;exact zI (zI e1 e2 (BR za (Fo h0 h1))) e3 (BR za (Q7 g0 (by omega)))
def Cc (hf:f Y M=some (x,M)) (ht:DG M x=some t):BK T f Y M=some (.dat (.bl (isT t T)),M):=by
 unfold BK;rw[hf];dsimp only;rw[ht]
def Au (h:f Y M=some (.dat (.bl k),M')):tst f Y M=some (k,M'):=by unfold tst;rw[h]
def isV (hf:f Y M=some (x,M)) (ht:DG M x=some t) (h:isT t T=k):BK T f Y M=some (.dat (.bl k),M):=by
 rw[Cc hf ht,h]
def DA (hc:c Y M=some (true,M)) (h:OkS (a Y M) (nxP (λσ1 M1=>OkS (g σ1 M1) P) P)):OkS (zM (sIf c a b) g Y M) P:=by
 rw[zL,BQ];refine zF hc ?_;rw[AB rfl];exact h
def zc (hf:f Y M=some (.dat d,M)) (h:P (.ret d) Y M):OkS (zv f Y M) P:=by
 rw[JR];exact zF hf h
def Em {α:Type} (as:List α) (enc out:α->D) (hi:fi Y M=some (as.map enc,gd,M)) (hgd:B6 gd (as.map enc) M) (hz:as.length<=100000)
  (he:∀ a∈as,∃ σ1,g (enc a) (Bi own Y)=some σ1/\te σ1 M=some (.dat (out a),M)):zn own fi g zf te Y M=some (.fl (as.map out),M):=by
 refine zH (HK.mpr ⟨_,_,_,hi,by rw[AF];exact zb hz,?_⟩);refine Ok.mono (G6 (I:=λr acc M'=>M'=M /\ ∃ ra rb:List α,as=rb++ra/\r=ra.map enc/\acc=rb.map out) (Q:=λacc M'=>M'=M/\acc=as.map out) ?_ ?_ _ [] _ ⟨rfl,as,[],rfl,rfl,rfl⟩) ?_
 .rintro x r acc M' ⟨rfl,ra,rb,hab,hr,rfl⟩;cases ra with
  |nil=>cases hr
  |cons a ra=>
   rw[AY]at hr;obtain ⟨rfl,rfl⟩:=CF hr;obtain ⟨σ1,e1,e2⟩:=he a (by rw[hab];simp);refine ⟨hgd,σ1,e1,Qa.mpr ?_⟩;rw[AB rfl];refine zF e2 ?_;rw[zS];exact ⟨rfl,ra,rb++[a],by rw[hab];simp,rfl,by simp⟩
 .rintro acc M' ⟨rfl,ra,rb,hab,hr,rfl⟩;cases ra with
  |nil=>rw[By]at hab;subst hab;exact ⟨hgd,rfl,rfl⟩
  |cons a ra=>cases hr
 .rintro ys M' ⟨rfl,h⟩;rw[List.nil_append]at h;subst h;exact ⟨rfl,rfl⟩
def Dw (hf:f Y M=some (x,M)) (h:Az M x=some xs):fB Av (zE f zJ) Y M=some (.dat (.tup xs),M):=by
 unfold fB zE zJ;rw[hf];exact zH ((cR h).mpr ⟨rfl,rfl⟩)
def MJ (hf:f Y M=some (.dat (.tup xs),M)):AU f Y M=some (xs,none,M):=DF hf za
def Cj (hf:f Y M=some (.dat d,M)) (h:OkS (g (Y.set i (some d)) M) P):OkS (zM (AK i f) g Y M) P:=by
 rw[zL,zi];exact zF hf h
open ST
noncomputable def ris (xs:Ye):List Int:=Bm (CY xs)
def LP (xs:Ye) (x:Int):x∈ris xs ↔ x∈xs:=by
 unfold ris;rw[(Fx _).mem_iff,VN]
def N0 (xs:Ye):(ris xs).Pairwise (· < ·):=by
 have h1:=Ib (CY xs);have h2:(ris xs).Nodup:=(Fx _).nodup_iff.mpr (WQ xs);unfold ris at h2 ⊢;exact (h1.and h2).imp λ{a b} h=>by have:=h.1;have:=h.2;omega
theorem Oj:∀ {xs ys:Ye},xs.Pairwise (· < ·)->ys.Pairwise (· < ·)->(∀ x,x∈xs ↔ x∈ys)->xs=ys
 |[],[],_,_,_=>rfl
 |[],y::ys,_,_,h=>by have:=(h y).mpr Ah;cases this
 |x::xs,[],_,_,h=>by have:=(h x).mp Ah;cases this
 |x::xs,y::ys,h1,h2,h=>by
  have hx:=CD.mp h1;have hy:=CD.mp h2;have e:x=y:=by
   have a:=(h x).mp Ah;have b:=(h y).mpr Ah;rcases AO.mp a with z|z
   .exact z
   .rcases AO.mp b with q|q
    .exact q.symm
    .have:=hx.1 y q;have:=hy.1 x z;omega
  subst e;rw[Oj hx.2 hy.2 λz=>?_];constructor
  .intro hz;rcases AO.mp ((h z).mp (BS _ hz))with q|q
   .subst q;have:=hx.1 _ hz;omega
   .exact q
  .intro hz;rcases AO.mp ((h z).mpr (BS _ hz))with q|q
   .subst q;have:=hy.1 _ hz;omega
   .exact q
def XN (h:0<xs.length):0<(ris xs).length:=by
 cases xs with
 |nil=>cases h
 |cons x r=>exact List.length_pos_of_mem ((LP (x::r) x).mpr Ah)
def Ug (h:zn own fi g tc te Y M=some (.fl (ks.map D.int),M)) (hz:ks.length<=4000):Gv own fi g tc te Y M=some (CY ks,M):=by
 unfold Gv;rw[h];dsimp only;rw[Gz];dsimp only;rw[AB (by unfold scanBound;omega)]
def TJ (h:fz Y M=some (CY ks,M)) (hz:(CY ks).length<64):IG fz Y M=some (.fl ((ris ks).map D.int),M):=by
 unfold IG;rw[h];dsimp only;rw[AB hz];rfl
noncomputable def LV:FS:=(zv (fB Av (zE (IG (Gv [3] (AU (zC 1)) (gN 3) zf (fOp kIx (fOp kIx (zC 0) (zC 3)) (zC 2)))) zJ)))
noncomputable def HF:FF:=GB (Ag 4 LV)
noncomputable def setR (zA:Ya) (S:Ye) (g:Int):List Int:=ris (S.map λh=>BH zA h g)
structure IsS (zA:Ya) (S:Ye):Prop where
 pw:S.Pairwise (· < ·)
 n0:0<S.length
 mem:∀ x∈S,0<=x/\x<(zA.length:Int)
theorem Ob:∀ {S:Ye} {a:Int} {n:Nat},S.Pairwise (· < ·)->(∀ x∈S,a<=x/\x<a+(n:Int))->S.length<=n
 |[],_,_,_,_=>Ba _
 |x::S,a,n,h,hm=>by
  have hx:=CD.mp h;obtain ⟨m0,m1⟩:=hm x Ah;have hn:0<n:=by omega
  have:=Ob (S:=S) (a:=x+1) (n:=(a+n-(x+1)).toNat) hx.2 λy hy=>by
   have:=hx.1 y hy;have:=(hm y (BS _ hy)).2;omega
  simp only[CS];omega
def IsS.len (h:IsS zA S):S.length<=zA.length:=Ob h.pw (a:=0) λx hx=>by have:=h.mem x hx;omega
theorem IsM.setR {zA:Ya} {l:Nat} (m:IsM zA l) {S:Ye} (s:IsS zA S) {g:Int} (g0:0<=g) (g1:g<l):IsS zA (setR zA S g):=by
 refine ⟨N0 _,XN (by rw[AF];exact s.n0),λx hx=>?_⟩;obtain ⟨y,hy,rfl⟩:=AV.mp ((LP _ _).mp hx);obtain ⟨y0,y1⟩:=s.mem y hy;exact m.step y0 y1 g0 g1
noncomputable def tI (xs:Ye):D:=.tup (xs.map D.int)
def dQ {zA:Ya} {l:Nat} (m:IsM zA l) (hR:zA.length<64) {S:Ye} (s:IsS zA S) {g:Int} (g0:0<=g) (g1:g<l) {M:Mem}:HF [mD zA,tI S,.int g] M=some (tI (setR zA S g),M):=by
 refine zH ?_;unfold HF;refine Jl (by unfold D.unds D.unds D.unds D.unds;rw[Iw];simp[tI,HG,D.und,DE]) ?_;rw[BG];unfold LV;have hl:=s.len;have hz:(CY (S.map λh=>BH zA h g)).length<64:=by have:=Qw (S.map λh=>BH zA h g);rw[AF]at this;omega
 refine zc (d:=tI (setR zA S g)) ?_ ⟨by unfold tI;exact HG _,rfl,rfl⟩;refine Dw (TJ (ks:=S.map λh=>BH zA h g) (Ug ?_ (by rw[AF];omega)) hz) Dx;refine (Em S D.int (λh=> .int (BH zA h g)) (MJ rfl) trivial (by omega) λh hh=>⟨_,rfl,?_⟩).trans ?_
 .obtain ⟨h0,h1⟩:=s.mem h hh;exact m.ix h0 h1 g0 g1 rfl rfl rfl
 .rw[BD];rfl
def Sk {α:Type} (xs:List α) (x:α):atI (xs++[x]) (-1)=some x:=by
 unfold atI ixN;rw[AD (by decide),AB (by simp;omega)];have:((-1:Int)+((xs++[x]).length:Int)).toNat=xs.length:=by simp;omega
 simp only[Option.bind_some];rw[this];simp
def Sb {M:Mem} {n:Nat} {xs:List D} {k:Nat} {d:D} {Q:D->Mem->Prop} (h:M[n]?=some (.lst xs)) (hk:xs[k]?=some d) (hz:k<90000) (q:Q d (M.set n (.lst (xs.eraseIdx k)))):Ok (DN (.dat (.ref n)) [.int (k:Int)] M) Q:=by
 refine ⟨d,M.set n (.lst (xs.eraseIdx k)),?_,q⟩;have hl:k<xs.length:=(AI.mp hk).1;unfold DN;dsimp only;rw[h];dsimp only;have e:ixN xs.length (k:Int)=some k:=by unfold ixN;rw[AB (by omega),AB (by omega)];simp
 rw[e];dsimp only;rw[hk];dsimp only;rw[AB ⟨by omega,by omega⟩]
def GQ (e:f Y M=some (.dat (mD zA),M)):fB zV (zE f zJ) Y M=some (.dat (.int zA.length),M):=by
 have:=Bo e za;rw[AF]at this;exact this
def Qm (m:IsM zA l) (e:f Y M=some (.dat (mD zA),M)):fB zV (zE (fOp kIx f (fC (.int 0))) zJ) Y M=some (.dat (.int l),M):=by
 have r0:=m.r0;have:=Bo (zI (g:=fC (.int 0)) e rfl (BR za (Fo (h:=0) (by omega) (by omega)))) za;rw[AF,(m.get (h:=0) (by omega) (by omega)).1]at this;exact this
def OK (e:f Y M=some (.dat (tI xs),M)):fB zV (zE f zJ) Y M=some (.dat (.int xs.length),M):=by
 have:=Bo e za;rw[AF]at this;exact this
noncomputable def MB:FS:=(zv (Bu (BK "int" (zC 0)) (DY (BK "bool" (zC 0)))))
noncomputable def HS:FF:=Ag 1 MB
noncomputable def La:FS:=(zv (Bu (zO HS (zD (toD (zC 0)) zG)) (E4 kLe kLt (fC (.int 0)) (zC 0) (zC 1))))
noncomputable def Hc:FF:=Ag 2 La
noncomputable def Kt:FS:=(zv (Bu (BK "tuple" (zC 0)) (fB C4 (zE (zn [2] (AU (zC 0)) (gN 2) zf (zO Hc (zD (toD (zC 2)) (zD (toD (zC 1)) zG)))) zJ))))
noncomputable def IH:FF:=Ag 3 Kt
mutual
def Vd (M:Mem):D->Prop
 |.ref n=>∃ t,DG M (.dat (.ref n))=some t/\(t = "list" \/ t = "dict")
 |.tup ds=>ds.length<=100000/\Vds M ds
 |.fn _ _=>False
 |_=>True
def Vds (M:Mem):List D->Prop
 |[]=>True
 |d::ds=>Vd M d/\Vds M ds
end
def Vds.mem:∀ {ds:List D},Vds M ds -> ∀ d∈ds,Vd M d
 |[],_,d,h=>by cases h
 |x::ds,hv,d,h=>by
  unfold Vds at hv;rcases AO.mp h with q|q
  .subst q;exact hv.1
  .exact Vds.mem hv.2 d q
def Vds.of:∀ {ds:List D},(∀ d∈ds,Vd M d)->Vds M ds
 |[],_=>trivial
 |x::ds,h=>⟨h x Ah,Vds.of λd hd=>h d (BS _ hd)⟩
noncomputable def JN:D->Bool
 |.int _=>true
 |_=>false
noncomputable def BU (n:Int):D->Bool
 |.int i=>decide (0<=i)&&decide (i<n)
 |_=>false
noncomputable def tbD (n:Int):D->Bool
 |.tup ds=>ds.all (BU n)
 |_=>false
noncomputable def Hi:D->Nat
 |.tup ds=>ds.length
 |_=>0
noncomputable def GI:D->Bool
 |.tup _=>true
 |_=>false
def GR (out:D->D) (hf:f Y M=some (.dat (.tup ds),M)) (hz:ds.length<=100000)
  (he:∀ a∈ds,∃ σ1,g a (Bi own Y)=some σ1/\te σ1 M=some (.dat (out a),M)):zn own (AU f) g zf te Y M=some (.fl (ds.map out),M) :=
 Em (gd:=none) ds id out (by rw[List.map_id];exact MJ hf) trivial hz he
def Vd.ty (h:Vd M d):∃ t,DG M (.dat d)=some t/\isT t "tuple" = GI d/\(isT t "int" && !isT t "bool")=JN d:=by
 cases d with
 |non=>exact ⟨_,rfl,(show isT "NoneType" "tuple" = false by decide),(show (isT "NoneType" "int" && !isT "NoneType" "bool")=false by decide)⟩
 |bl k=>exact ⟨_,rfl,(show isT "bool" "tuple" = false by decide),(show (isT "bool" "int" && !isT "bool" "bool")=false by decide)⟩
 |int i=>exact ⟨_,rfl,(show isT "int" "tuple" = false by decide),(show (isT "int" "int" && !isT "int" "bool")=true by decide)⟩
 |str x=>exact ⟨_,rfl,(show isT "str" "tuple" = false by decide),(show (isT "str" "int" && !isT "str" "bool")=false by decide)⟩
 |tup ds=>exact ⟨_,rfl,(show isT "tuple" "tuple" = true by decide),(show (isT "tuple" "int" && !isT "tuple" "bool")=false by decide)⟩
 |ref n=>
  unfold Vd at h;obtain ⟨t,e,h⟩:=h;rcases h with rfl|rfl
  .exact ⟨_,e,(show isT "list" "tuple" = false by decide),(show (isT "list" "int" && !isT "list" "bool")=false by decide)⟩
  .exact ⟨_,e,(show isT "dict" "tuple" = false by decide),(show (isT "dict" "int" && !isT "dict" "bool")=false by decide)⟩
 |fn _ _=>exact h.elim
def Dh (hf:f Y M=some (.dat (.bl a),M)) (hg:a=true->g Y M=some (.dat (.bl b),M)):Bu f g Y M=some (.dat (.bl (a&&b)),M):=by
 unfold Bu;rw[hf];cases a with
 |true=>exact hg rfl
 |false=>rfl
def Ov (hf:f Y M=some (.dat (.bl a),M)):DY f Y M=some (.dat (.bl (!a)),M):=by unfold DY;rw[hf]
def Ih (h:f (ds.map some++List.replicate (n-ds.length) none) M=some (.dat d,M)):Ag n (zv f) ds M=some (d,M):=by
 refine zH ?_;rw[BG];exact zc h ⟨rfl,rfl⟩
def d3 (h:Vd M d):HS [d] M=some (.bl (JN d),M):=by
 obtain ⟨t,e,_,q⟩:=h.ty;unfold HS MB;refine Ih ?_;rw[<-q];exact Dh (Cc rfl e) λ_=>Ov (Cc rfl e)
def cE (h:Vd M d):Hc [d,.int n] M=some (.bl (BU n d),M):=by
 unfold Hc La;refine Ih ?_;have hw:=zp (Y:=[some d,some (.int n)]) (a:=zD (toD (zC 0)) zG) (zU rfl) (d3 h);have e:BU n d=(JN d&&BU n d):=by cases d <;> rfl
 rw[e];refine Dh hw λhi=>?_;cases d with
 |int i=>
  refine zH (N2.mpr (GN.mpr (CM.mpr ⟨_,rfl,Ku.mpr (F5.mpr ?_)⟩)));by_cases h0:0<=i
  .rw[AB (by simpa using h0)];refine CM.mpr ⟨_,rfl,G4.mpr ⟨?_,rfl⟩⟩;simp[BU,h0]
  .rw[AD (by simpa using h0)];exact ⟨by simp[BU,h0],rfl⟩
 |_=>cases hi
def Dk {bs:List Bool} (h:f Y M=some (.fl (bs.map D.bl),M)):fB C4 (zE f zJ) Y M=some (.dat (.bl (bs.all id)),M):=by
 unfold fB zE zJ;rw[h];exact zH ((Sw YU (Pk bs)).mpr ⟨rfl,rfl⟩)
def Ld {α:Type} (xs:List α) (p:α->Bool):(xs.map p).all id=xs.all p:=by rw[List.all_map];rfl
def gC (h:Vd M d):IH [d,.int n] M=some (.bl (tbD n d),M):=by
 unfold IH Kt;refine Ih ?_;obtain ⟨t,e,q,_⟩:=h.ty;cases d with
 |tup ds=>
  have hh:Vd M (.tup ds):=h;unfold Vd at hh;have:tbD n (.tup ds)=(true&&(ds.map (BU n)).all id):=by rw[Bool.true_and,Ld];rfl
  rw[this];refine Dh (by rw[Cc rfl e,q];rfl) λ_=>Dk ?_;rw[BD];exact GR (λx=> .bl (BU n x)) rfl hh.1 λx hx=>⟨_,rfl,zp (zg rfl (zU rfl)) (cE (hh.2.mem x hx))⟩
 |_=>
  have:∀ b,(false&&b)=false:=λb=>rfl;refine (Dh (a:=false) (b:=true) (by rw[Cc rfl e,q];rfl) λz=>by cases z).trans ?_;rfl
def bR {xs:List D} {lo hi:Ys} {M:Mem}:kSl (.dat (.tup xs)) lo hi M=some (.dat (.tup (L3.Ak xs lo hi)),M):=rfl
def slE {f:FE} {fl fh:FO} {Y:Sd} {M:Mem} {xs:List D} {lo hi:Ys} (hf:f Y M=some (.dat (.tup xs),M)) (hl:fl Y M=some (lo,M)) (hh:fh Y M=some (hi,M)):fSl f fl fh Y M=some (.dat (.tup (L3.Ak xs lo hi)),M):=by
 unfold fSl;rw[hf];dsimp only;rw[hl];dsimp only;rw[hh];exact bR
def oS (h:f Y M=some (.dat (.int i),M)):BW f Y M=some (some i,M):=by unfold BW;rw[h]
end Law
namespace Lac
open L2 L3 ST Law
theorem IJ {α:Type} (enc out:α->D) (keep:α->Bool):∀ (as:List α),(∀ a∈as,∃ σ1,g (enc a) Y=some σ1/\tc σ1 M=some (keep a,M)/\(keep a=true->te σ1 M=some (.dat (out a),M)))->Bc g tc te Y all none (as.map enc) M=some ((as.filter keep).map out,M)
 |[],_=>by
  rw[List.map_nil];unfold Bc;rw[AB (show B6 none all M from trivial)];rfl
 |a::r,h=>by
  obtain ⟨σ1,e1,e2,e3⟩:=h a Ah;have ih:=IJ (all:=all) (Y:=Y) enc out keep r λb hb=>h b (BS _ hb);rw[AY];unfold Bc;rw[AB (show B6 none all M from trivial),e1];dsimp only;rw[e2];cases hk:keep a with
  |false=>
   dsimp only;rw[ih,List.filter_cons_of_neg (by simp[hk])]
  |true=>
   dsimp only;rw[show toD te σ1 M=some (out a,M) by unfold toD;rw[e3 hk]];dsimp only;rw[ih,List.filter_cons_of_pos hk];rfl
noncomputable def Ep (g:Ye):List Key:=g.map Sum.inl
theorem P4:∀ {a b:Ye},Ep a=Ep b->a=b
 |[],[],_=>rfl
 |[],_::_,h=>by cases h
 |_::_,[],h=>by cases h
 |x::a,y::b,h=>by
  have h1:=(CF h).1;have h2:=P4 (CF h).2;cases h1;rw[h2]
theorem Qe:∀ g:List Int,DU (g.map D.int)=some (Ep g)
 |[]=>rfl
 |x::r=>by
  rw[AY];unfold DU;rw[Qe r];rfl
def J9 (g:Ye):tkD (tI g)=some (Ep g):=Qe g
noncomputable abbrev Br (T:List (List Int × D)):List (D × D):=T.map λq=>(tI q.1,q.2)
noncomputable abbrev dT (T:List (List Int × D)):MO:=.dicT (Br T)
noncomputable def ze:List (List Int × D)->List Int->Option D
 |[],_=>none
 |q::r,g=>if q.1=g then some q.2 else ze r g
noncomputable def BI (T:List (List Int × D)) (g:Ye) (v:D):List (List Int × D):=match ze T g with
 |some _=>T.map λq=>if q.1=g then (q.1,v) else q
 |none=>T++[(g,v)]
def KY (a g:Ye):decide (tkD (tI a)=some (Ep g))=decide (a=g):=by
 rw[J9];by_cases h:a=g
 .subst h;simp
 .rw[AM h,AM];intro e;exact h (P4 (CH e))
theorem Pg (g:Ye):∀ T:List (List Int × D),DQ tkD (Br T) (Ep g)=ze T g
 |[]=>rfl
 |q::r=>by
  have ih:=Pg g r;unfold DQ at ih ⊢;unfold Br at ih ⊢;rw[AY,Ez];dsimp only;rw[KY];unfold ze;by_cases h:q.1=g
  .rw[AR h,AB h];rfl
  .rw[AM h,AD h];exact ih
theorem OA (g:Ye):∀ T:List (List Int × D),((Br T).any λp=>decide (tkD p.1=some (Ep g)))=(ze T g).isSome
 |[]=>rfl
 |q::r=>by
  have ih:=OA g r;unfold Br at ih ⊢;rw[AY,List.any_cons,KY];unfold ze;by_cases h:q.1=g
  .rw[AR h,AB h];rfl
  .rw[AM h,AD h,Bool.false_or];exact ih
def aL (T:List (List Int × D)) (g:Ye) (v:D):Fg tkD (Br T) (Ep g) (tI g) v=Br (BI T g v):=by
 unfold Fg BI;rw[OA];cases h:ze T g with
 |none=>
  rw[AD (by simp)];unfold Br;rw[B7];rfl
 |some d=>
  rw[AB (by simp)];unfold Br;dsimp only;rw[BD,BD];apply List.map_congr_left;intro q _;show (if tkD (tI q.1)=some (Ep g) then (tI q.1,v) else (tI q.1,q.2))=(tI (if q.1=g then (q.1,v) else q).1,(if q.1=g then (q.1,v) else q).2);have hd:=KY q.1 g;by_cases hq:q.1=g
  .rw[AR hq]at hd;rw[AB (CG hd),AB hq]
  .rw[AM hq]at hd;rw[AD (of_decide_eq_false hd),AD hq]
def VT (T:List (List Int × D)) (g h:Ye) (v:D):ze (BI T g v) h=if g=h then some v else ze T h:=by
 have app:∀ (T:List (List Int × D)),ze T g=none->ze (T++[(g,v)]) h=if g=h then some v else ze T h:=by
  intro T;induction T with
  |nil=>intro _;rfl
  |cons q r ih=>
   intro e;unfold ze at e;by_cases hq:q.1=g
   .rw[AB hq]at e;cases e
   .rw[AD hq]at e;show (if q.1=h then some q.2 else ze (r++[(g,v)]) h)=if g=h then some v else if q.1=h then some q.2 else ze r h
    rw[ih e];by_cases h1:q.1=h
    .rw[AB h1,AB h1,AD (λz=>hq (h1.trans z.symm))]
    .rw[AD h1,AD h1]
 have mp:∀ (T:List (List Int × D)),(ze T g).isSome=true->ze (T.map λq=>if q.1=g then (q.1,v) else q) h=if g=h then some v else ze T h:=by
  intro T;by_cases hgh:g=h
  .subst hgh;induction T with
   |nil=>intro e;cases e
   |cons q r ih=>
    intro e;rw[AY];unfold ze;by_cases hq:q.1=g
    .rw[AB hq];simp[hq]
    .rw[AD hq,AD hq];unfold ze at e;rw[AD hq]at e;rw[ih e,AB rfl,AB rfl]
  .intro hx;clear hx;rw[AD hgh];clear app;induction T with
   |nil=>rfl
   |cons q r ih=>
    rw[AY];unfold ze;by_cases hq:q.1=g
    .have:¬ q.1=h:=λz=>hgh (hq.symm.trans z);rw[AB hq];show (if q.1=h then some v else _)=_;rw[AD this,AD this];exact ih
    .rw[AD hq];by_cases h1:q.1=h
     .rw[AB h1,AB h1]
     .rw[AD h1,AD h1];exact ih
 unfold BI;cases e:ze T g with
 |none=>exact app T e
 |some d=>exact mp T (by rw[e];rfl)
section
variable {M:Mem} {n:Nat} {T:List (List Int × D)} {g:Ye}
def dgT (h:M[n]?=some (dT T)):Es M (.dat (.ref n)) (tI g)=some (ze T g):=by
 unfold Es;dsimp only;rw[h];dsimp only;rw[J9];dsimp only;rw[Pg]
def DX (h:M[n]?=some (dT T)):Ci neg (.dat (tI g)) (.dat (.ref n)) M=some (.dat (.bl (if neg then !(ze T g).isSome else (ze T g).isSome)),M):=by
 unfold Ci;dsimp only;rw[dgT h]
def Ft (h:M[n]?=some (dT T)) (hd:ze T g=some d):A9 (.dat (.ref n)) (.dat (tI g)) M=some (.dat d,M):=by
 unfold A9;dsimp only;rw[dgT h,hd]
def C8 (h:M[n]?=some (dT T)) (hz:T.length<90000):D5 M n (tI g) v=some (M.set n (dT (BI T g v))):=by
 unfold D5;rw[h];dsimp only;rw[J9];dsimp only;rw[AB (by rw[AF];exact Ax hz (zb (by omega))),aL]
end
def eV (ha:a Y M=some (true,M)):BB a b Y M=some (true,M):=by unfold BB;rw[ha]
def OW (ha:a Y M=some (false,M)) (hb:b Y M=some (k,M)):BB a b Y M=some (k,M):=by unfold BB;rw[ha];exact hb
def eqE:kEq (.dat (.int a)) (.dat (.int b)) M=some (.dat (.bl (decide (a=b))),M):=zH (B3.mpr ⟨rfl,rfl⟩)
noncomputable def DP:FS:=(zM (sIf (BB (BM (tst (zO IH (zD (toD (zC 1)) (zD (toD (fB zV (zE (zC 0) zJ))) zG))))) (tst (fOp kEq (fB zV (zE (zC 1) zJ)) (fC (.int 0))))) (zv (fC (.bl false))) Ac)
  (zv (fB C4 (zE (zn [2,3] (IS (zD (toD (zC 1)) (zD (toD (fSl (zC 1) (BW (fC (.int 1))) Bj)) zG))) (Ei 2 3) zf (fOp kLt (zC 2) (zC 3))) zJ))))
noncomputable def Ck:FF:=Ag 4 DP
def ZH {xs:List D} {lo hi:Ys} {a b:Nat} (ha:HT.sIx xs.length 0 lo=a) (hb:HT.sIx xs.length xs.length hi=b):L3.Ak xs lo hi=(xs.drop a).take (b-a):=by
 unfold L3.Ak;rw[ha,hb]
def Rg (n:Nat) (d:Nat):HT.sIx n d none=d:=rfl
def NI (h:∀ x∈c,0<=x/\x<R):tbD R (tI c)=true:=by
 show List.all _ _=true;rw[Ae];intro d hd;obtain ⟨i,hi,rfl⟩:=AV.mp hd;have:=h i hi;simp[BU,this.1,this.2]
theorem HY:∀ {ds:List D},ds.all (BU n)=true -> ∃ xs:List Int,ds=xs.map D.int /\ ∀ x∈xs,0<=x/\x<n
 |[],_=>⟨[],rfl,λ_ h=>by cases h⟩
 |d::ds,h=>by
  rw[D8,Am]at h;obtain ⟨xs,rfl,hx⟩:=HY h.2;have h1:=h.1;cases d with
  |int i=>
   simp only[BU,Am,DS]at h1;exact ⟨i::xs,rfl,λx hm=>by
    rcases AO.mp hm with z|z
    .subst z;exact h1
    .exact hx x z⟩
  |_=>cases h1
def RO:tbD n d=true ↔ ∃ xs:List Int,d=tI xs /\ ∀ x∈xs,0<=x/\x<n:=by
 constructor
 .intro h;cases d with
  |tup ds=>
   obtain ⟨xs,rfl,hx⟩:=HY (show ds.all (BU n)=true from h);exact ⟨xs,rfl,hx⟩
  |_=>cases h
 .rintro ⟨xs,rfl,h⟩;exact NI h
def EN (wf:∀ (j:Nat) u,M[j]?=some u->MO.und M.length u=true) (hd:D.und 0 d=true) (h:Ok (m ds M) λd' M'=>d'=d /\ ∃ us,M'=M++us):Dr m ds M=some (d,M):=by
 refine zH (LI (Ok.mono h ?_));rintro d' M' ⟨rfl,us,rfl⟩;refine ⟨⟨IZ (Ba _) hd,by simp,λj u hj e=>?_⟩,rfl,by simp⟩;rw[Ai hj]at e;exact wf j u e
theorem QK:∀ {S:Ye},((S.zip (S.drop 1)).map λq=>decide (q.1<q.2)).all id=true ↔ S.Pairwise (· < ·)
 |[]=>by simp
 |[a]=>by simp
 |a::b::r=>by
  have ih:=QK (S:=b::r);have e:((a::b::r).zip ((a::b::r).drop 1)).map (λq=>decide (q.1<q.2))=decide (a<b)::((b::r).zip ((b::r).drop 1)).map (λq=>decide (q.1<q.2)):=rfl;rw[e,D8,Am,ih];constructor
  .rintro ⟨h1,h2⟩;have h1:a<b:=CG h1;refine CD.mpr ⟨λc hc=>?_,h2⟩;rcases AO.mp hc with z|z
   .rw[z];exact h1
   .exact Int.lt_trans h1 ((CD.mp h2).1 c z)
  .intro h;obtain ⟨h1,h2⟩:=CD.mp h;exact ⟨AR (h1 b Ah),h2⟩
def IL (hd:Vd M d):∃ b,Ck [mD zA,d] M=some (.bl b,M)/\(b=true ↔ ∃ S,d=tI S/\IsS zA S):=by
 have e:=gC (n:=zA.length) hd;cases h:tbD zA.length d with
 |false=>
  refine ⟨false,?_,(λz=>by cases z),?_⟩
  .refine zH ?_;unfold Ck;rw[BG];unfold DP;show OkS (zM _ _ [some (mD zA),some d,none,none] M) _;rw[h]at e;exact DA (eV (MZ (zp (zg (d:=d) rfl (zU (GQ rfl))) e))) (zc (d:=.bl false) rfl ⟨rfl,rfl⟩)
  .rintro ⟨S,rfl,s⟩;rw[NI s.mem]at h;cases h
 |true=>
  rw[h]at e;obtain ⟨S,rfl,hS⟩:=RO.mp h;have hl:S.length<=100000:=by
   have hh:Vd M (.tup (S.map D.int)):=hd;unfold Vd at hh;simpa using hh.1
  by_cases s0:S.length=0
  .refine ⟨false,?_,(λz=>by cases z),?_⟩
   .refine zH ?_;unfold Ck;rw[BG];unfold DP;show OkS (zM _ _ [some (mD zA),some (tI S),none,none] M) _;refine DA (OW (MZ (zp (zg (d:=tI S) rfl (zU (GQ rfl))) e)) (Au (zI (OK (f:=zC 1) (xs:=S) rfl) (y:=.dat (.int 0)) rfl (eqE.trans ?_)))) (zc (d:=.bl false) rfl ⟨rfl,rfl⟩);rw[AR (by omega)]
   .rintro ⟨S',e',s⟩;have:S=S':=Kw (D.tup.inj e');subst this;have:=s.n0;omega
  .refine ⟨((S.zip (S.drop 1)).map λq=>decide (q.1<q.2)).all id,?_,?_⟩
   .refine zH ?_;unfold Ck;rw[BG];unfold DP;show OkS (zM _ _ [some (mD zA),some (tI S),none,none] M) _;refine EY (OW (MZ (zp (zg (d:=tI S) rfl (zU (GQ rfl))) e)) (Au (zI (OK (f:=zC 1) (xs:=S) rfl) (y:=.dat (.int 0)) rfl (eqE.trans ?_)))) ?_
    .rw[AM (by omega)]
    have c1:L3.Ak (S.map D.int) (some 1) none=(S.drop 1).map D.int:=by
     rw[ZH (a:=1) (b:=S.length) (by show HT.sIx _ _ (some ((1:Nat):Int))=1;rw[HT.IY,AF];omega) (by rw[Rg,AF]),List.map_drop];exact Gs (by simp)
    have hi:IS (zD (toD (zC 1)) (zD (toD (fSl (zC 1) (BW (fC (.int 1))) Bj)) zG)) [some (mD zA),some (tI S),none,none] M=some ((S.zip (S.drop 1)).map (λq=>D.tup [.int q.1,.int q.2]),none,M):=by
     have s1:=slE (f:=zC 1) (Y:=[some (mD zA),some (tI S),none,none]) (M:=M) (xs:=S.map D.int) rfl (oS (f:=fC (.int 1)) rfl) (rfl:Bj _ M=some (none,M));rw[c1]at s1;have:=zg (f:=zC 1) (Y:=[some (mD zA),some (tI S),none,none]) (M:=M) (d:=tI S) rfl (zU s1);unfold IS;rw[this];show some ((((S.map D.int).zip ((S.drop 1).map D.int)).map λq=>D.tup [q.1,q.2]),none,M)=_;congr 2;rw[List.zip_map,BD];rfl
    refine zc (Dk (bs:=(S.zip (S.drop 1)).map λq=>decide (q.1<q.2)) ?_) ⟨rfl,rfl⟩;rw[BD];exact Em (gd:=none) (S.zip (S.drop 1)) (λq=>D.tup [.int q.1,.int q.2]) (λq=> .bl (decide (q.1<q.2))) hi trivial (by rw[List.length_zip];omega) λq _=>⟨_,rfl,zI (f:=zC 2) (g:=zC 3) (x:=.dat (.int q.1)) (y:=.dat (.int q.2)) rfl rfl rfl⟩
   .rw[QK];constructor
    .exact λh=>⟨S,rfl,⟨h,by omega,hS⟩⟩
    .rintro ⟨S',e',s⟩;have:S=S':=Kw (D.tup.inj e');subst this;exact s.pw
end Lac
namespace Lae
open L2 L3 ST Law
noncomputable abbrev Lvl:=List (List Int × List Int)
noncomputable def D4 (zA:Ya) (S w:Ye) (p:List (List Int) × Lvl) (g:Int):List (List Int) × Lvl :=
 if setR zA S g∈p.1 then p else (p.1++[setR zA S g],p.2++[(setR zA S g,w++[g])])
noncomputable def BN (l:Nat):List Int:=(List.range l).map λ(g:Nat)=>(g:Int)
noncomputable def Gg (zA:Ya) (l:Nat) (p:List (List Int) × Lvl) (s:List Int × List Int):List (List Int) × Lvl:=(BN l).foldl (D4 zA s.1 s.2) p
noncomputable def Ee (zA:Ya) (l:Nat) (seen:Ya) (level:Lvl):List (List Int) × Lvl:=level.foldl (Gg zA l) (seen,[])
noncomputable def run (zA:Ya) (l:Nat) (due:List Int->Bool):Nat->List (List Int)->Lvl->List (List (List Int))->Option (Option (List Int) × List (List (List Int)))
 |0,_,_,_=>none
 |n+1,seen,level,acc=>if level.isEmpty then some (none,acc) else match level.find? λp=>due p.1 with
  |some p=>some (some p.2,acc)
  |none=>run zA l due n (Ee zA l seen level).1 (Ee zA l seen level).2 (acc++[level.map (·.1)])
structure Met (zA:Ya) (seen:Ya) (level:Lvl):Prop where
 nd:seen.Nodup
 st:∀ S∈seen,IsS zA S
 lv:∀ p∈level,IsS zA p.1
structure Gr (zA:Ya) (seen:Ya) (p:List (List Int) × Lvl):Prop where
 nd:p.1.Nodup
 st:∀ S∈p.1,IsS zA S
 eq:p.1=seen++p.2.map (·.1)
def Gr.lv {zA:Ya} {seen:Ya} {p:List (List Int) × Lvl} (h:Gr zA seen p):∀ s∈p.2,IsS zA s.1:=λs hs=>h.st _ (by rw[h.eq];exact Ar _ (AV.mpr ⟨s,hs,rfl⟩))
def Q1 {zA:Ya} {l:Nat} (m:IsM zA l) {seen:Ya} {p:List (List Int) × Lvl} (h:Gr zA seen p) {S w:Ye} (s:IsS zA S) {g:Int} (g0:0<=g) (g1:g<l):Gr zA seen (D4 zA S w p g):=by
 unfold D4;split
 .exact h
 .rename_i hn;refine ⟨?_,λT hT=>?_,by rw[h.eq];simp⟩
  .rw[E9];exact ⟨h.nd,by simp,λa ha b hb z=>hn (by rw[<-(show b=setR zA S g by simpa using hb),<-z];exact ha)⟩
  .rcases AS.mp hT with z|z
   .exact h.st T z
   .have:T=setR zA S g:=by simpa using z
    rw[this];exact m.setR s g0 g1
def Lh (h:g∈BN l):0<=g/\g<l:=by
 obtain ⟨i,hi,rfl⟩:=AV.mp h;have:=List.mem_range.mp hi;omega
theorem PY {zA:Ya} {l:Nat} (m:IsM zA l) {seen:Ya} {S w:Ye} (s:IsS zA S):∀ (gs:Ye) {p:List (List Int) × Lvl},(∀ g∈gs,0<=g/\g<(l:Int))->Gr zA seen p->Gr zA seen (gs.foldl (D4 zA S w) p)
 |[],_,_,h=>h
 |g::r,p,hg,h=>PY m s r (λx hx=>hg x (BS _ hx)) (Q1 m h s (hg g Ah).1 (hg g Ah).2)
def S5 {zA:Ya} {l:Nat} (m:IsM zA l) {seen:Ya} {p:List (List Int) × Lvl} (h:Gr zA seen p) {s:List Int × List Int} (hs:IsS zA s.1):Gr zA seen (Gg zA l p s):=PY m hs _ (λg hg=>Lh hg) h
theorem Kx {zA:Ya} {l:Nat} (m:IsM zA l) {seen:Ya}:∀ {level:Lvl} {p:List (List Int) × Lvl},(∀ s∈level,IsS zA s.1)->Gr zA seen p->Gr zA seen (level.foldl (Gg zA l) p)
 |[],_,_,h=>h
 |s::r,p,hs,h=>Kx m (level:=r) (λx hx=>hs x (BS _ hx)) (S5 m h (hs s Ah))
def Met.next {zA:Ya} {l:Nat} (m:IsM zA l) {seen:Ya} {level:Lvl} (h:Met zA seen level):Gr zA seen (Ee zA l seen level):=Kx m h.lv ⟨h.nd,h.st,by simp⟩
def Gr.met {zA:Ya} {seen:Ya} {p:List (List Int) × Lvl} (h:Gr zA seen p):Met zA p.1 p.2:=⟨h.nd,h.st,h.lv⟩
noncomputable def FV:Nat->List (List Int)
 |0=>[[]]
 |n+1=>FV n++(FV n).map (· ++ [(n:Int)])
theorem Pz:∀ n,(FV n).length=2 ^ n
 |0=>rfl
 |n+1=>by unfold FV;rw[AN,AF,Pz n,Nat.pow_succ];omega
theorem MW:∀ (n:Nat) (S:Ye),S.Pairwise (· < ·)->(∀ x∈S,0<=x/\x<(n:Int))->S∈FV n
 |0,S,_,h=>by
  cases S with
  |nil=>unfold FV;simp
  |cons x r=>have:=h x Ah;omega
 |n+1,S,hp,h=>by
  unfold FV;rw[AS];by_cases hn:(n:Int)∈S
  .right;obtain ⟨a,b,rfl⟩:=List.append_of_mem hn;rw[List.pairwise_append,CD]at hp;have hb:b=[]:=by
    cases b with
    |nil=>rfl
    |cons y b=>
     have h1:=hp.2.1.1 y Ah;have h2:=h y (by simp);omega
   subst hb;refine AV.mpr ⟨a,MW n a hp.1 λx hx=>?_,rfl⟩;have h1:=hp.2.2 x hx (n:Int) Ah;have h2:=h x (Cr _ hx);omega
  .left;refine MW n S hp λx hx=>?_;have h2:=h x hx;have:x≠n:=λz=>hn (z▸hx);omega
theorem Pf {α:Type} [DecidableEq α]:∀ {xs ys:List α},xs.Nodup->(∀ x∈xs,x∈ys)->xs.length<=ys.length
 |[],_,_,_=>Ba _
 |x::r,ys,hn,h=>by
  have hn':=List.nodup_cons.mp hn;have h1:=h x Ah;have ih:=Pf (xs:=r) (ys:=ys.erase x) hn'.2 λy hy=>by
   have:y≠x:=λz=>hn'.1 (z▸hy);exact (List.mem_erase_of_ne this).mpr (h y (BS _ hy))
  rw[List.length_erase_of_mem h1]at ih;have:=List.length_pos_of_mem h1;rw[CS];omega
def GV {zA:Ya} {seen:Ya} (nd:seen.Nodup) (st:∀ S∈seen,IsS zA S) (h9:zA.length<=9):seen.length<=512:=by
 have h1:seen.length<=(FV zA.length).length:=Pf nd λS hS=>MW _ S (st S hS).pw (st S hS).mem;rw[Pz]at h1;have:2 ^ zA.length<=2 ^ 9:=Nat.pow_le_pow_right (by decide) h9;omega
theorem NN {zA:Ya} {l:Nat} (m:IsM zA l) (h9:zA.length<=9) {due:List Int->Bool}:∀ (n:Nat) {seen:Ya} {level:Lvl} {acc:List (List (List Int))},Met zA seen level->514<=n+seen.length -> ∃ r,run zA l due n seen level acc=some r
 |0,seen,level,acc,h,hn=>by have:=GV h.nd h.st h9;omega
 |n+1,seen,level,acc,h,hn=>by
  unfold run;split
  .exact ⟨_,rfl⟩
  .split
   .exact ⟨_,rfl⟩
   .have g:=h.next m;by_cases he:(Ee zA l seen level).2=[]
    .cases n with
     |zero=>have:=GV h.nd h.st h9;omega
     |succ n=>
      unfold run;rw[he];exact ⟨_,rfl⟩
    .refine NN m h9 n g.met ?_;rw[g.eq,AN,AF];have:=List.length_pos_iff.mpr he;omega
theorem Nd (hd:∀ S,due S=false):∀ (n:Nat) {seen:Ya} {level:Lvl} {acc:List (List (List Int))} {r},run zA l due n seen level acc=some r->r.1=none
 |0,_,_,_,_,h=>by cases h
 |n+1,seen,level,acc,r,h=>by
  unfold run at h;split at h
  .cases h;rfl
  .split at h
   .rename_i p hp;have:=List.find?_some hp;rw[hd]at this;cases this
   .exact Nd hd n h
theorem K6:∀ (n:Nat) {seen:Ya} {level:Lvl} {acc:List (List (List Int))} {r:Option (List Int) × List (List (List Int))},run zA l due n seen level acc=some r->r.2.length<=acc.length+n
 |0,_,_,_,_,h=>by cases h
 |n+1,seen,level,acc,r,h=>by
  unfold run at h;split at h
  .cases h;show acc.length<=_;omega
  .split at h
   .cases h;show acc.length<=_;omega
   .have:=K6 n h;rw[AN,FH]at this;omega
noncomputable def KH:FS:=(zv (Im "cells" (fOp CQ (fB C5 (zE (zC 0) zJ)) (fOp Eh (AQ (zD (toD (fC (.int 0))) zG)) (fB Cd (zE (fOp kEq (fB zV (zE (zC 0) zJ)) (fC (.int 0))) zJ)))) "at" (fC (.int 0)) "number" (fC (.int 0))))
noncomputable def IA:FF:=Ag 1 KH
noncomputable def Ju:FS:=(zM (sIf (tst (fOp kEq (fOp A9 (zC 0) (fC (.str "number"))) (fC (.int 0)))) (zM (AK 2 (fOp kIx (fOp A9 (zC 0) (fC (.str "cells"))) (fOp Cf (fOp A9 (zC 0) (fC (.str "at"))) (fB zV (zE (fOp A9 (zC 0) (fC (.str "cells"))) zJ)))))
  (zM (Co (fOp zY (fOp A9 (zC 0) (fC (.str "at"))) (fC (.int 1))) (zC 0) (fC (.str "at")))
  (zM (sIf (BB (tst (fOp kLt (zC 2) (fOp Gq (fC (.int 10)) (fC (.int 18))))) (tst (fOp kGt (fOp A9 (zC 0) (fC (.str "at"))) (fB zV (zE (fOp A9 (zC 0) (fC (.str "cells"))) zJ))))) (zM (AK 3 (fOp A9 (zC 0) (fC (.str "at"))))
  (zM (AK 4 (fOp Cf (fOp zY (fOp zY (fOp Ex (fOp Cf (zC 2) (fC (.int 2147483629))) (fC (.int 48271))) (fOp Ex (fOp Ex (zC 3) (zC 3)) (fC (.int 69621)))) (fC (.int 11))) (fC (.int 2147483647))))
  (zv (fOp Cf (fOp GL (fOp Cf (fOp Ex (zC 4) (zC 4)) (fC (.int 1999999973))) (fC (.int 7))) (zC 1))))) Ac)
  (Co (zC 2) (zC 0) (fC (.str "number")))))) Ac)
  (zM (AK 5 (fOp Cf (fOp A9 (zC 0) (fC (.str "number"))) (zC 1)))
  (zM (Co (fOp GL (fOp A9 (zC 0) (fC (.str "number"))) (zC 1)) (zC 0) (fC (.str "number")))
  (zv (zC 5)))))
noncomputable def zN:FF:=Ag 6 Ju
noncomputable abbrev gS (k:Nat) (a x:Int):MO:=.dict [(.str "cells", .ref k),(.str "at", .int a),(.str "number", .int x)]
structure Gen (M:Mem) (n k:Nat) (q:Nat):Prop where
 ex:∃ (c:Ye) (a x:Int),M[n]?=some (gS k a x)/\M[k]?=some (.lst (c.map D.int))/\0<c.length/\c.length<=63/\0<=a/\a<=q
 ne:n≠k
 wf:∀ (j:Nat) u,M[j]?=some u->MO.und M.length u=true
def Gen.mono (h:Gen M n k q) (hq:q<=q'):Gen M n k q' :=
 let ⟨c,a,x,e1,e2,e3,e4,e5,e6⟩:=h.ex;⟨⟨c,a,x,e1,e2,e3,e4,e5,by omega⟩,h.ne,h.wf⟩
structure Nw (M M':Mem) (n k q:Nat):Prop where
 gen:Gen M' n k q
 len:M.length<=M'.length
 fr:∀ j,j<M.length->j≠n->j≠k->M'[j]?=M[j]?
def Nw.mono (h:Nw M M' n k q) (hq:q<=q'):Nw M M' n k q':=⟨h.gen.mono hq,h.len,h.fr⟩
def Nw.refl (h:Gen M n k q):Nw M M n k q:=⟨h,AG _,λ_ _ _ _=>rfl⟩
def Nw.trans {M M1 M2:Mem} {n k q q':Nat} (a:Nw M M1 n k q) (b:Nw M1 M2 n k q'):Nw M M2 n k q' :=
 ⟨b.gen,BA a.len b.len,λj h h1 h2=>(b.fr j (Ax h a.len) h1 h2).trans (a.fr j h h1 h2)⟩
def Gen.lt (h:Gen M n k q):n<M.length/\k<M.length:=by
 obtain ⟨c,a,x,e1,e2,_⟩:=h.ex;exact ⟨(AI.mp e1).1,(AI.mp e2).1⟩
def N1 (hk:k<N):MO.und N (gS k a x)=true:=by
 unfold MO.und;simp[D.und,hk]
def Gen.put {M:Mem} {n k q q':Nat} (h:Gen M n k q) {a x:Int} (h0:0<=a) (h1:a<=q'):Nw M (M.set n (gS k a x)) n k q':=by
 obtain ⟨hn,hk⟩:=h.lt;obtain ⟨c,_,_,e1,e2,e3,e4,_⟩:=h.ex;refine ⟨⟨⟨c,a,x,B9 hn,by rw[A7 h.ne];exact e2,e3,e4,h0,h1⟩,h.ne,λj u e=>?_⟩,by simp,λj _ h1 h2=>A7 (Ne.symm h1)⟩;rw[CP];rw[FL]at e;split at e
 .cases e;exact N1 hk
 .exact h.wf j u e
def Gen.app (h:Gen A n k q) (hu:∀ u∈us,MO.und (A.length+us.length) u=true):Nw A (A++us) n k q:=by
 obtain ⟨c,a,x,e1,e2,r⟩:=h.ex;obtain ⟨hn,hk⟩:=h.lt;refine ⟨⟨⟨c,a,x,by rw[Ai hn];exact e1,by rw[Ai hk];exact e2,r⟩,h.ne,λj u e=>?_⟩,by simp,λj hj _ _=>Ai hj⟩;rw[AN];by_cases hj:j<A.length
 .rw[Ai hj]at e;exact Qy (by omega) (h.wf j u e)
 .rw[EG (by omega)]at e;exact hu u (Bd e)
def Gen.lst (h:Gen A n k q) (xs:List D) (hx:D.unds A.length xs=true):Nw A (A++[.lst xs]) n k q:=h.app λu hu=>by
 have:u=.lst xs:=by simpa using hu
 subst this;exact E3 (by simp) hx
def Nw.setB (h:Nw M A n k q) (g:Gen M n k q0) (hj:M.length<=j) (hu:MO.und A.length u=true):Nw M (A.set j u) n k q:=by
 obtain ⟨hn,hk⟩:=g.lt;obtain ⟨c,a,x,e1,e2,r⟩:=h.gen.ex;refine ⟨⟨⟨c,a,x,by rw[A7 (by omega)];exact e1,by rw[A7 (by omega)];exact e2,r⟩,g.ne,λi v e=>?_⟩,by rw[CP];exact h.len,λi hi h1 h2=>by rw[A7 (by omega)];exact h.fr i hi h1 h2⟩;rw[CP];rw[FL]at e;split at e
 .split at e
  .cases e;exact hu
  .cases e
 .exact h.gen.wf i v e
def Nw.wf0 (h:Nw M M' n k q) (g:Gen M n k q0):∀ (j:Nat) u,j<M.length->M'[j]?=some u->MO.und M.length u=true:=λj u hj e=>by
 obtain ⟨hn,hk⟩:=g.lt;obtain ⟨c,a,x,e1,e2,r⟩:=h.gen.ex;by_cases q1:j=n
 .subst q1;rw[e1]at e;cases e;exact N1 hk
 .by_cases q2:j=k
  .subst q2;rw[e2]at e;cases e;exact DE _ _
  .rw[h.fr j hj q1 q2]at e;exact g.wf j u e
def Nw.trim (h:Nw M M' n k q) (g:Gen M n k q0):Nw M (M'.take M.length) n k q:=by
 obtain ⟨hn,hk⟩:=g.lt;have tk:∀ j,j<M.length->(M'.take M.length)[j]?=M'[j]?:=λj hj=>List.getElem?_take_of_lt hj;have tl:(M'.take M.length).length=M.length:=by have:=h.len;rw[BF];omega
 obtain ⟨c,a,x,e1,e2,r⟩:=h.gen.ex;refine ⟨⟨⟨c,a,x,(tk n hn).trans e1,(tk k hk).trans e2,r⟩,g.ne,λj u e=>?_⟩,by omega,λj hj h1 h2=>(tk j hj).trans (h.fr j hj h1 h2)⟩;have hj:j<M.length:=by have:=(AI.mp e).1;omega
 rw[tk j hj]at e;rw[tl];exact h.wf0 g j u hj e
def Nw.get (h:Nw M M' n k q) (e:M[j]?=some u) (h1:j≠n) (h2:j≠k):M'[j]?=some u :=
 (h.fr j (AI.mp e).1 h1 h2).trans e
def D9 (hf:f Y M=some (.dat (.ref n),M)) (hM:M[n]?=some (gS k a x)):fOp A9 f (fC (.str "cells")) Y M=some (.dat (.ref k),M)/\fOp A9 f (fC (.str "at")) Y M=some (.dat (.int a),M)/\fOp A9 f (fC (.str "number")) Y M=some (.dat (.int x),M):=by
 refine ⟨?_,?_,?_⟩ <;>
 .refine zI hf rfl ?_;unfold A9 Es;dsimp only;rw[hM];rfl
def VG (hM:M[n]?=some (gS k a x)):D5 M n (.str "at") (.int a')=some (M.set n (gS k a' x)):=by
 unfold D5;rw[hM];dsimp only[Bz];rw[AB (show [(D.str (Str.ofString "cells"),D.ref k),(D.str (Str.ofString "at"),D.int a),(D.str (Str.ofString "number"),D.int x)].length<sizeLine from zb (n:=4) (by omega))];rfl
def Mr (hM:M[n]?=some (gS k a x)):D5 M n (.str "number") (.int x')=some (M.set n (gS k a x')):=by
 unfold D5;rw[hM];dsimp only[Bz];rw[AB (show [(D.str (Str.ofString "cells"),D.ref k),(D.str (Str.ofString "at"),D.int a),(D.str (Str.ofString "number"),D.int x)].length<sizeLine from zb (n:=4) (by omega))];rfl
def Fv (h1:fv Y M=some (.dat v,M)) (h2:fo Y M=some (.dat (.ref n),M)) (h3:fi Y M=some (.dat k,M)) (h4:D5 M n k v=some M4) (q:P .nx Y M4):OkS (Co fv fo fi Y M) P:=by
 refine ⟨.nx,Y,M4,?_,q⟩;unfold Co toD;rw[h1];dsimp only;rw[h2];dsimp only;rw[h3];dsimp only;rw[h4]
def EK (h:0<b):Cf (.dat (.int a)) (.dat (.int b)) M=some (.dat (.int (a % b)),M):=zH (YA.mpr ⟨h,rfl,rfl⟩)
def Px (h:0<b/\b<1073741824):GL (.dat (.int a)) (.dat (.int b)) M=some (.dat (.int (a / b)),M):=zH (gK.mpr ⟨h,rfl,rfl⟩)
def XT (h:Hd a b=true):Ex (.dat (.int a)) (.dat (.int b)) M=some (.dat (.int (a*b)),M):=zH (UQ.mpr ⟨h,rfl,rfl⟩)
def Ma {M:Mem} {c:Ye} (hf:f Y M=some (.dat (.ref j),M)) (h:M[j]?=some (.lst (c.map D.int))):fB zV (zE f zJ) Y M=some (.dat (.int c.length),M):=by
 have:=Bo (f:=f) (xs:=c.map D.int) hf (zh h);rw[AF]at this;exact this
def JI (h : -(2 ^ 64)<b/\b<2 ^ 64):Ex (.dat (.int a)) (.dat (.int b)) M=some (.dat (.int (a*b)),M):=XT (by unfold Hd;simp only[Bool.or_eq_true,Am,DS];exact .inr h)
def OX (h:Gen M n k q) (e1:M[n]?=some (gS k a x)) (ha:0<=a) (hb:a<=q) (h0:0<m) (h1:m<1073741824) (hP:∀ Y i x',0<=i->i<m->P (.ret (.int i)) Y (M.set n (gS k a x'))) :
  OkS (zM (AK 5 (fOp Cf (fOp A9 (zC 0) (fC (.str "number"))) (zC 1))) (zM (Co (fOp GL (fOp A9 (zC 0) (fC (.str "number"))) (zC 1)) (zC 0) (fC (.str "number"))) (zv (zC 5))) [some (.ref n),some (.int m),y2,y3,y4,none] M) P:=by
 refine Cj (zI (D9 rfl e1).2.2 rfl (EK h0)) ?_;show OkS (zM _ _ [some (.ref n),some (.int m),y2,y3,y4,some (.int (x % m))] M) _;rw[zL];refine Fv (zI (D9 rfl e1).2.2 rfl (Px ⟨h0,h1⟩)) rfl rfl (Mr e1) ?_;rw[zQ];exact zc rfl (hP _ _ _ (Int.emod_nonneg _ (by omega)) (Fn _ h0))
def GZ (h:Gen M n k q) (hq:q<1000000000) (h0:0<m) (h1:m<1073741824) :
  Ok (zN [.ref n,.int m] M) λd M'=>(∃ i,d=.int i/\0<=i/\i<m)/\Nw M M' n k (q+1)/\M'.length=M.length:=by
 unfold zN;rw[BG];unfold Ju;show OkS (zM _ _ [some (.ref n),some (.int m),none,none,none,none] M) _;obtain ⟨c,a,x,e1,e2,e3,e4,e5,e6⟩:=h.ex;obtain ⟨hn,hk⟩:=h.lt;rw[zL,BQ];refine zF (Au (zI (D9 rfl e1).2.2 rfl (zH (B3.mpr ⟨rfl,rfl⟩)))) ?_;by_cases hx:x=0
 .rw[AB (by simpa using hx)];have hl:(0:Int)<(c.length:Int):=by omega
  have hi0:0<=a % (c.length:Int):=Int.emod_nonneg _ (by omega);have hi1:a % (c.length:Int)<c.length:=Fn _ hl;obtain ⟨y,hy⟩:∃ y:Int,atI (c.map D.int) (a % (c.length:Int))=some (.int y):=by
   obtain ⟨i,hi⟩:=Int.eq_ofNat_of_zero_le hi0;rw[hi]at hi1 ⊢;refine ⟨c[i]'(by omega),?_⟩;exact C6 (by rw[Af,AL (by omega)];rfl)
  refine Cj (d:=.int y) (zI (D9 rfl e1).1 (zI (D9 rfl e1).2.1 (Ma (D9 rfl e1).1 e2) (EK hl)) (BR (zh e2) hy)) ?_;show OkS (zM _ _ [some (.ref n),some (.int m),some (.int y),none,none,none] M) _;rw[zL];refine Fv (v:=.int (a+1)) (zI (D9 rfl e1).2.1 rfl rfl) rfl rfl (VG e1) ?_;rw[zQ];have P:=h.put (a:=a+1) (x:=x) (q':=q+1) (by omega) (by omega);have f1:(M.set n (gS k (a+1) x))[n]?=some (gS k (a+1) x):=B9 hn;have f2:(M.set n (gS k (a+1) x))[k]?=some (.lst (c.map D.int)):=by rw[A7 h.ne];exact e2
  have fl:(M.set n (gS k (a+1) x)).length=M.length:=by simp
  generalize M.set n (gS k (a+1) x)=M1 at P f1 f2 fl;rw[zL,BQ];have hor:∃ b,BB (tst (fOp kLt (zC 2) (fOp Gq (fC (.int 10)) (fC (.int 18))))) (tst (fOp kGt (fOp A9 (zC 0) (fC (.str "at"))) (fB zV (zE (fOp A9 (zC 0) (fC (.str "cells"))) zJ)))) [some (.ref n),some (.int m),some (.int y),none,none,none] M1=some (b,M1):=by
   have t1:tst (fOp kLt (zC 2) (fOp Gq (fC (.int 10)) (fC (.int 18)))) [some (.ref n),some (.int m),some (.int y),none,none,none] M1=some (decide (y<10 ^ (18:Int).toNat),M1) :=
    Au (zI rfl (zI rfl rfl (zH (Vp.mpr ⟨by decide,rfl,rfl⟩))) (zH (G4.mpr ⟨rfl,rfl⟩)))
   have t2:∃ b,tst (fOp kGt (fOp A9 (zC 0) (fC (.str "at"))) (fB zV (zE (fOp A9 (zC 0) (fC (.str "cells"))) zJ))) [some (.ref n),some (.int m),some (.int y),none,none,none] M1=some (b,M1) :=
    ⟨_,Au (zI (D9 rfl f1).2.1 (Ma (D9 rfl f1).1 f2) (zH (Hr.mpr ⟨rfl,rfl⟩)))⟩
   obtain ⟨b2,t2⟩:=t2;unfold BB;rw[t1];cases decide (y<10 ^ (18:Int).toNat) with
   |true=>exact ⟨true,rfl⟩
   |false=>exact ⟨b2,t2⟩
  obtain ⟨b,hor⟩:=hor;refine zF hor ?_;cases b with
  |true=>
   rw[AB rfl];refine Cj (D9 rfl f1).2.1 ?_;show OkS (zM _ _ [some (.ref n),some (.int m),some (.int y),some (.int (a+1)),none,none] M1) _;have hs0:0<=(y % 2147483629*48271+(a+1)*(a+1)*69621+11) % 2147483647:=Int.emod_nonneg _ (by decide);have hs1:(y % 2147483629*48271+(a+1)*(a+1)*69621+11) % 2147483647<2147483647:=Fn _ (by decide);refine Cj (d:=.int ((y % 2147483629*48271+(a+1)*(a+1)*69621+11) % 2147483647)) (zI (zI (zI (zI (zI rfl rfl (EK (by decide))) rfl (JI (by decide))) (zI (zI rfl rfl (JI ⟨by omega,by omega⟩)) rfl (JI (by decide))) rfl) rfl rfl) rfl (EK (by decide))) ?_;generalize (y % 2147483629*48271+(a+1)*(a+1)*69621+11) % 2147483647=s at hs0 hs1;show OkS (zv _ [some (.ref n),some (.int m),some (.int y),some (.int (a+1)),some (.int s),none] M1) _;refine zc (zI (zI (zI (zI (x:=.dat (.int s)) (y:=.dat (.int s)) rfl rfl (JI ⟨by omega,by omega⟩)) rfl (EK (by decide))) rfl (Px ⟨by decide,by decide⟩)) rfl (EK h0)) ?_;rw[Fc];exact ⟨⟨_,rfl,Int.emod_nonneg _ (by omega),Fn _ h0⟩,P,fl⟩
  |false=>
   rw[AD Ay,Bx,zQ];refine Fv rfl rfl rfl (Mr f1) ?_;rw[zQ];have P2:=P.gen.put (a:=a+1) (x:=y) (q':=q+1) (by omega) (by omega);have g1:(M1.set n (gS k (a+1) y))[n]?=some (gS k (a+1) y):=B9 (by omega);have gl:(M1.set n (gS k (a+1) y)).length=M.length:=by rw[CP,fl]
   have PP:=P.trans P2;generalize M1.set n (gS k (a+1) y)=M2 at PP g1 gl;refine OX PP.gen g1 (by omega) (by omega) h0 h1 λY i x' i0 i1=>⟨⟨i,rfl,i0,i1⟩,PP.trans (PP.gen.put (by omega) (by omega)),by rw[CP,gl]⟩
 .rw[AD (by simpa using hx),Bx,zQ];exact OX h e1 e5 e6 h0 h1 λY i x' i0 i1=>⟨⟨i,rfl,i0,i1⟩,h.put e5 (by omega),by simp⟩
def D6 (h:Gen M n k q) (hq:q<1000000000) (ha:fa Y M=some (.dat (.ref n),M)) (hb:fb Y M=some (.dat (.int m),M)) (h0:0<m) (h1:m<1073741824)
  (p:∀ i M',0<=i->i<m->Nw M M' n k (q+1)->M'.length=M.length->P (.dat (.int i)) M'):Ok (zO zN (zD (toD fa) (zD (toD fb) zG)) Y M) P:=by
 rw[Ek,Cp,Bk];refine ⟨_,_,ha,?_⟩;rw[zS,Cp,Bk];refine ⟨_,_,hb,?_⟩;rw[zS,Ca];refine Ok.mono (GZ h hq h0 h1) ?_;rintro d M' ⟨⟨i,rfl,i0,i1⟩,nx,hl⟩;exact p i M' i0 i1 nx hl
open Lac (dT Br ze BI DX C8)
noncomputable def sE (ss:Ya):List (List Int × D):=ss.map λs=>(s,.bl true)
theorem JY (x:D):∀ (T:List (List Int × D)) (g:Ye),(ze T g).isSome=decide (g∈T.map (·.1))
 |[],g=>by simp[ze]
 |q::r,g=>by
  unfold ze;by_cases h:q.1=g
  .rw[AB h];simp[h]
  .rw[AD h,JY x r g];have:g≠q.1:=λz=>h z.symm;simp[this]
def QG (ss:Ya):(sE ss).map (·.1)=ss:=by unfold sE;rw[BD];exact List.map_id' ss
def SD (h:g∉T.map (·.1)):BI T g v=T++[(g,v)]:=by
 unfold BI;have:=JY .non T g;rw[AM h]at this;cases e:ze T g with
 |none=>rfl
 |some d=>rw[e]at this;cases this
def VP (h:g∉ss):BI (sE ss) g (.bl true)=sE (ss++[g]):=by
 rw[SD (by rw[QG];exact h)];unfold sE;simp
noncomputable def Kg:FS:=(zM (Ad (zt (zD (toD (fB zV (zE (fOp kIx (zC 0) (fC (.int 0))) zJ))) zG)) (gN 2) (zM (AK 3 (AQ zG))
  (zM (Ad (zt (zD (toD (fB zV (zE (zC 0) zJ))) zG)) (gN 4) (Al (fM EO (zC 3) (zD (toD (fOp Cf (fOp kIx (fOp kIx (zC 0) (zC 4)) (zC 2)) (fOp zY (zC 4) (fC (.int 1))))) (zD (toD (zC 4)) zG)))))
  (Ad (zt (zD (toD (fB zV (zE (zC 0) zJ))) zG)) (gN 4) (EB (fOp kIx (zC 3) (zC 4)) (fOp kIx (zC 0) (zC 4)) (zC 2))))))
  (sIf (tst (zC 1)) (zM (AK 5 (fOp CU (fB zV (zE (fOp kIx (zC 0) (fC (.int 0))) zJ)) (fC (.int 1))))
  (EB (fOp kIx (fOp kIx (zC 0) (fOp CU (fB zV (zE (zC 0) zJ)) (fC (.int 1)))) (zC 5)) (fOp kIx (zC 0) (fC (.int 0))) (zC 5))) Ac))
noncomputable def Hz:FF:=Ag 6 Kg
noncomputable def Jt:FS:=(zM (AK 4 (fB zV (zE (zC 0) zJ)))
  (zM (AK 5 (fOp kIx (fOp kIx (zC 0) (fC (.int 0))) (fC (.int 0))))
  (zM (sIf (BJ (tst (fOp kEq (zC 3) (fC (.int 4)))) (tst (fOp kLt (zC 1) (zC 5)))) (zv (fOp Cf (fOp kIx (fOp kIx (zC 0) (zC 1)) (zC 2)) (zC 5))) Ac)
  (zM (sIf (tst (fOp kEq (zC 3) (fC (.int 4)))) (zv (fOp zY (zC 5) (fOp Cf (fOp kIx (fOp kIx (zC 0) (zC 1)) (zC 2)) (fOp CU (zC 4) (zC 5))))) Ac)
  (zM (sIf (BJ (tst (fOp kEq (zC 3) (fC (.int 5)))) (tst (fOp kEq (zC 2) (fC (.int 0))))) (zv (fOp Cf (fOp zY (zC 1) (fC (.int 1))) (zC 4))) Ac)
  (zM (sIf (tst (fOp kEq (zC 3) (fC (.int 5)))) (zv (fOp kIx (AQ (zD (toD (zC 1)) (zD (toD (fC (.int 0))) zG))) (fB Cd (zE (Bu (fOp kEq (zC 2) (fC (.int 1))) (fOp kEq (zC 1) (fOp CU (zC 4) (fC (.int 1))))) zJ)))) Ac)
  (zM (sIf (tst (fOp kEq (zC 3) (fC (.int 6)))) (zv (fOp kIx (fOp kIx (zC 0) (fC (.int 0))) (zC 2))) Ac)
  (zv (fOp kIx (fOp kIx (zC 0) (zC 1)) (fC (.int 0)))))))))))
noncomputable def F9:FF:=Ag 6 Jt
noncomputable def Ja:FS:=(zM (AK 3 (fOp zY (fC (.int 1)) (zO zN (zD (toD (zC 0)) (zD (toD (zC 1)) zG)))))
  (zM (AK 4 (fOp zY (fC (.int 1)) (zO zN (zD (toD (zC 0)) (zD (toD (zC 2)) zG)))))
  (zM (AK 5 (zO zN (zD (toD (zC 0)) (zD (toD (fC (.int 8))) zG))))
  (zM (AK 6 (AQ zG))
  (zM (Ad (zt (zD (toD (zC 3)) zG)) (gN 7) (Al (fM zw (zC 6) (zD (toD (zn [8] (zt (zD (toD (zC 4)) zG)) (gN 8) zf (zO zN (zD (toD (zC 0)) (zD (toD (zC 3)) zG))))) zG))))
  (zM (sIf (tst (fOp kEq (zC 5) (fC (.int 3)))) (Al (zO Hz (zD (toD (zC 6)) (zD (toD (fOp kEq (zO zN (zD (toD (zC 0)) (zD (toD (fC (.int 2))) zG))) (fC (.int 1)))) zG)))) Ac)
  (zM (sIf (tst (fOp kGt (zC 5) (fC (.int 3)))) (AK 6 (zn [7] (zt (zD (toD (zC 3)) zG)) (gN 7) zf (zn [8] (zt (zD (toD (zC 4)) zG)) (gN 8) zf (zO F9 (zD (toD (zC 6)) (zD (toD (zC 7)) (zD (toD (zC 8)) (zD (toD (zC 5)) zG)))))))) Ac)
  (zv (fB Av (zE (zn [9] (AU (zC 6)) (gN 9) zf (fB Av (zE (zC 9) zJ))) zJ))))))))))
noncomputable def Hj:FF:=Dr (Ag 10 Ja)
def zr (h:P (.ref M.length) (M++[.lst xs])):EJ P (.fl xs) M:=h
def zq (A:Mem) (u:MO):(A++[u])[A.length]?=some u:=by simp
def LF (h:M[n]?=some (.lst xs)) (h0:0<=i) (h1:i.toNat<=xs.length) (hz:xs.length<90000):EO (.dat (.ref n)) [.int i,d] M=some (.non,M.set n (.lst (xs.take i.toNat++[d]++xs.drop i.toNat))):=by
 unfold EO;dsimp only;rw[h];dsimp only;rw[AB ⟨h0,h1,Ax hz (zb (by omega))⟩]
def Np {M M1:Mem} (h:f Y M=some (.fl xs,M1)):toD f Y M=some (.ref M1.length,M1++[.lst xs]):=by unfold toD;rw[h]
def fB1 (hf:f Y M=some (x,M)):fB k (zE f zJ) Y M=k [x] M:=by unfold fB zE zJ;rw[hf]
def Zc {ns:Ye} (h:ns.length<=63):Ok (IA [.ref 0] [.fro (ns.map D.int)]) λd M'=>d=.ref 1/\Gen M' 1 2 0/\M'[0]?=some (.fro (ns.map D.int)):=by
 unfold IA;rw[BG];unfold KH;have e0:([.fro (ns.map D.int),.dict []]:Mem)[0]?=some (.fro (ns.map D.int)):=rfl;have l1:fB C5 (zE (zC 0) zJ) [some (.ref 0)] [.fro (ns.map D.int),.dict []]=some (.fl (ns.map D.int),[.fro (ns.map D.int),.dict []]):=by
  rw[fB1 (x:=.dat (.ref 0)) rfl];unfold C5;dsimp only;rw[Py e0]
 have l2:fB zV (zE (zC 0) zJ) [some (.ref 0)] [.fro (ns.map D.int),.dict []]=some (.dat (.int (ns.map D.int).length),[.fro (ns.map D.int),.dict []]):=Bo (x:=.dat (.ref 0)) rfl (Py e0);obtain ⟨zs,ez,hz⟩:∃ zs:List Int,fOp Eh (AQ (zD (toD (fC (.int 0))) zG)) (fB Cd (zE (fOp kEq (fB zV (zE (zC 0) zJ)) (fC (.int 0))) zJ)) [some (.ref 0)] [.fro (ns.map D.int),.dict []]=some (.fl (zs.map D.int),[.fro (ns.map D.int),.dict []])/\0<(ns++zs).length/\(ns++zs).length<=63:=by
  have l3:fB Cd (zE (fOp kEq (fB zV (zE (zC 0) zJ)) (fC (.int 0))) zJ) [some (.ref 0)] [.fro (ns.map D.int),.dict []]=some (.dat (.int (if decide (((ns.map D.int).length:Int)=0) then 1 else 0)),[.fro (ns.map D.int),.dict []]):=by
   have l4:fOp kEq (fB zV (zE (zC 0) zJ)) (fC (.int 0)) [some (.ref 0)] [.fro (ns.map D.int),.dict []]=some (.dat (.bl (decide (((ns.map D.int).length:Int)=0))),[.fro (ns.map D.int),.dict []]):=zI l2 rfl (zH (B3.mpr ⟨rfl,rfl⟩));rw[fB1 l4];rfl
  have l5:AQ (zD (toD (fC (.int 0))) zG) [some (.ref 0)] [.fro (ns.map D.int),.dict []]=some (.fl [.int 0],[.fro (ns.map D.int),.dict []]):=by
   unfold AQ;rw[zU (d:=.int 0) rfl];dsimp only;rw[AB (zb (by simp))]
  cases ns with
  |nil=>exact ⟨[0],zI l5 l3 (by unfold Eh;dsimp only[Cu,DZ];rw[AB ⟨by decide,by decide,zb (by decide)⟩];rfl),by simp,by simp⟩
  |cons x r=>
   refine ⟨[],zI l5 l3 ?_,by simp,by simpa using h⟩;have:decide (((List.map D.int (x::r)).length:Int)=0)=false:=by simp;omega
   rw[this];unfold Eh;dsimp only[Cu,DZ];rw[AB ⟨by decide,by decide,zb (by decide)⟩];rfl
 show OkS (zv _ [some (.ref 0)] [.fro (ns.map D.int)]) _;rw[JR];have ec:toD (fOp CQ (fB C5 (zE (zC 0) zJ)) (fOp Eh (AQ (zD (toD (fC (.int 0))) zG)) (fB Cd (zE (fOp kEq (fB zV (zE (zC 0) zJ)) (fC (.int 0))) zJ)))) [some (.ref 0)] ([.fro (ns.map D.int)]++[.dict []])=some (.ref 2,[.fro (ns.map D.int),.dict [],.lst ((ns++zs).map D.int)]):=by
  have:fOp CQ (fB C5 (zE (zC 0) zJ)) (fOp Eh (AQ (zD (toD (fC (.int 0))) zG)) (fB Cd (zE (fOp kEq (fB zV (zE (zC 0) zJ)) (fC (.int 0))) zJ))) [some (.ref 0)] [.fro (ns.map D.int),.dict []]=some (.fl ((ns++zs).map D.int),[.fro (ns.map D.int),.dict []]):=by
   refine zI l1 ez ?_;unfold CQ;dsimp only[DZ];rw[AB (zb (by have:=hz.2;simp at this ⊢;omega)),B7]
  exact Np this
 refine zF (M:=[.fro (ns.map D.int),gS 2 0 0,.lst ((ns++zs).map D.int)]) (a:=.dat (.ref 1)) ?_ ?_
 .unfold Im;rw[ec];dsimp only;rfl
 .rw[zS];refine ⟨rfl,⟨⟨ns++zs,0,0,rfl,rfl,hz.1,hz.2,by decide,by decide⟩,by decide,?_⟩,rfl⟩;intro j u e;match j,e with
  |0,e=>cases e;exact DE _ _
  |1,e=>cases e;rfl
  |2,e=>cases e;exact DE _ _
  |j+3,e=>simp at e
structure Rw (M:Mem) (j:Nat) (rs:Yj) (zA:Ya) (n l:Nat):Prop where
 at_:M[j]?=some (.lst (rs.map D.ref))
 len:rs.length=zA.length
 row:∀ (i r:Nat),rs[i]?=some r -> ∃ w,zA[i]?=some w/\M[r]?=some (.lst (w.map D.int))
 nd:rs.Nodup
 hj:j∉rs
 ok:∀ w∈zA,w.length=l /\ ∀ x∈w,0<=x/\x<(n:Int)
section
variable {M M':Mem} {j n l:Nat} {rs:Yj} {zA:Ya}
def Rw.keep (h:Rw M j rs zA n l) (k:∀ i,i<M.length->M'[i]?=M[i]?):Rw M' j rs zA n l:=by
 have kp:∀ {i:Nat} {u:MO},M[i]?=some u->M'[i]?=some u:=λ{i u} e=>(k i (AI.mp e).1).trans e;exact ⟨kp h.at_,h.len,λi r e=>let ⟨w,e1,e2⟩:=h.row i r e;⟨w,e1,kp e2⟩,h.nd,h.hj,h.ok⟩
def Rw.ix (h:Rw M j rs zA n l) {Y:Sd} {f1 f2 f3:FE} {i g:Int} (h1:f1 Y M=some (.dat (.ref j),M)) (h2:f2 Y M=some (.dat (.int i),M)) (h3:f3 Y M=some (.dat (.int g),M)) (i0:0<=i) (i1:i<zA.length) (g0:0<=g) (g1:g<l) :
  fOp kIx (fOp kIx f1 f2) f3 Y M=some (.dat (.int (BH zA i g)),M)/\0<=BH zA i g/\BH zA i g<n:=by
 have hi:i.toNat<rs.length:=by rw[h.len];omega
 obtain ⟨w,e1,e2⟩:=h.row i.toNat rs[i.toNat] (AL hi);obtain ⟨hl,hx⟩:=h.ok w (Bd e1);have es:BH zA i g=w[g.toNat]'(by omega):=by
  unfold BH;rw[ES (l:=zA),e1,Option.getD_some,ES,AL (by omega)];rfl
 refine ⟨zI (zI h1 h2 (BR (d:=.ref rs[i.toNat]) (zh h.at_) (HA i0 (by rw[Af,AL hi];rfl)))) h3 (BR (zh e2) (HA g0 (by rw[Af,AL (by omega),es];rfl))),?_⟩;rw[es];exact hx _ (Ab _)
def Rw.len0 (h:Rw M j rs zA n l) (h1:f1 Y M=some (.dat (.ref j),M)):fB zV (zE f1 zJ) Y M=some (.dat (.int zA.length),M):=by
 rw[Bo h1 (zh h.at_),AF,h.len]
def Rw.row0 (h:Rw M j rs zA n l) (hr:0<zA.length) (h1:f1 Y M=some (.dat (.ref j),M)):fB zV (zE (fOp kIx f1 (fC (.int 0))) zJ) Y M=some (.dat (.int l),M):=by
 have hi:0<rs.length:=by rw[h.len];omega
 obtain ⟨w,e1,e2⟩:=h.row 0 rs[0] (AL hi);obtain ⟨hl,hx⟩:=h.ok w (Bd e1);have e3:=Bo (x:=.dat (.ref rs[0])) (zI (g:=fC (.int 0)) h1 rfl (BR (d:=.ref rs[0]) (zh h.at_) (HA (by decide) (by rw[Af];show Option.map _ rs[0]?=_;rw[AL hi];rfl)))) (zh e2);rw[e3,AF,hl]
def Rw.put (h:Rw M j rs zA n l) {i g r:Nat} {x:Int} (hr:rs[i]?=some r) (x0:0<=x) (x1:x<n):∃ w,zA[i]?=some w/\M[r]?=some (.lst (w.map D.int))/\Rw (M.set r (.lst ((w.set g x).map D.int))) j rs (zA.set i (w.set g x)) n l:=by
 obtain ⟨w,e1,e2⟩:=h.row i r hr;have hrl:=(AI.mp e2).1;have hil:=(AI.mp e1).1;have hrj:j≠r:=λz=>h.hj (by rw[z];exact Bd hr);refine ⟨w,e1,e2,by rw[A7 (Ne.symm hrj)];exact h.at_,by rw[CP];exact h.len,λi' r' e=>?_,h.nd,h.hj,λw' hw'=>?_⟩
 .by_cases hi:i'=i
  .subst hi;rw[hr]at e;cases e;exact ⟨w.set g x,B9 hil,B9 hrl⟩
  .obtain ⟨w2,e3,e4⟩:=h.row i' r' e;have:r'≠r:=λz=>hi (by subst z;exact (List.getElem?_inj (AI.mp e).1 h.nd).mp (e.trans hr.symm));exact ⟨w2,by rw[A7 (Ne.symm hi)];exact e3,by rw[A7 (Ne.symm this)];exact e4⟩
 .obtain ⟨hl,hx⟩:=h.ok w (Bd e1);rcases List.mem_or_eq_of_mem_set hw' with q|q
  .exact h.ok w' q
  .subst q;refine ⟨by rw[CP];exact hl,λy hy=>?_⟩;rcases List.mem_or_eq_of_mem_set hy with q|q
   .exact hx y q
   .subst q;exact ⟨x0,x1⟩
end
open Lac (dT Br ze BI DX C8)
theorem JH:∀ ts:List (List Int),Fw (ts.map tI)=some ts
 |[]=>rfl
 |t::r=>by
  rw[AY];unfold Fw;rw[JH r];show (match BZ (t.map D.int),some r with|some x,some xs=>some (x::xs)|_,_=>none)=_;rw[Gz]
noncomputable def lvD (L:Ya):D:=.tup ((Cq L).map tI)
noncomputable def shD (acc:List (List (List Int))):D:=.tup (acc.map lvD)
def bH {lv:Lvl} (h:∀ p∈lv,IsS zA p.1):Gk (lv.map (·.1))=true:=by
 unfold Gk;rw[Ae];intro t ht;obtain ⟨p,hp,rfl⟩:=AV.mp ht;have:=(h p hp).n0;cases e:p.1 with
 |nil=>rw[e]at this;cases this
 |cons x r=>rfl
section
variable {zA:Ya} {l:Nat} {R:Ye} {gL:List D->FF} {lL:Lm} {cs:List D} {due:List Int->Bool}
def Uc (hf:f Y (M++[.dicT []])=some (.dat (tI S),M++[.dicT []])) (hg:g Y (M++[.dicT []])=some (.dat v,M++[.dicT []])):IK f g Y M=some (.dat (.ref M.length),M++[dT [(S,v)]]):=by
 have t1:toD f Y (M++[.dicT []])=some (tI S,M++[.dicT []]):=by unfold toD;rw[hf]
 have t2:toD g Y (M++[.dicT []])=some (v,M++[.dicT []]):=by unfold toD;rw[hg]
 unfold IK;rw[t1];dsimp only;rw[t2];dsimp only;have e:(M++[MO.dicT []])[M.length]?=some (dT []):=by simp
 rw[C8 e (by simp)];dsimp only;refine Bv (λz=>some (EV.dat (D.ref M.length),z)) ?_;show (M++[MO.dicT []]).set M.length (dT [(S,v)])=M++[dT [(S,v)]];rw[List.set_append_right _ _ (AG _)];simp
def Hu (xs:Ye):D.und n (tI xs)=true:=HG xs
def aO (acc:List (List (List Int))):D.und n (shD acc)=true:=by
 unfold shD D.und;refine FY λx hx=>?_;obtain ⟨L,_,rfl⟩:=AV.mp hx;unfold lvD D.und;refine FY λx hx=>?_;obtain ⟨t,_,rfl⟩:=AV.mp hx;exact Hu t
end
open Lac (dT Br ze BI DX C8)
noncomputable def J0:FS:=(zM (AK 3 (AQ zG))
  (zM (Ad (AU (zC 1)) (gN 4) (sIf (tst (fOp (kIn true) (fOp kIx (fOp kIx (zC 0) (zC 4)) (zC 2)) (zC 3))) (Al (fM zw (zC 3) (zD (toD (fOp kIx (fOp kIx (zC 0) (zC 4)) (zC 2))) zG))) Ac))
  (zv (fB Av (zE (fB Gy (zE (zC 3) zJ)) zJ)))))
noncomputable def ER:FF:=GB (Ag 5 J0)
noncomputable def Le:FS:=(zM (AK 2 (IK (zC 1) (fC (.bl true))))
  (zM (AK 3 (AQ (zD (toD (AQ (zD (toD (zC 1)) zG))) zG)))
  (zM (DD (tst (fOp kGt (fB zV (zE (fOp kIx (zC 3) (DL (fC (.int 1)))) zJ)) (fC (.int 0)))) (zM (AK 4 (AQ zG))
  (zM (Ad (AU (fOp kIx (zC 3) (DL (fC (.int 1))))) (gN 5) (Ad (zt (zD (toD (fB zV (zE (fOp kIx (zC 0) (fC (.int 0))) zJ))) zG)) (gN 6) (zM (AK 7 (zO ER (zD (toD (zC 0)) (zD (toD (zC 5)) (zD (toD (zC 6)) zG)))))
  (sIf (tst (fOp (Ci true) (zC 7) (zC 2))) (zM (Co (fC (.bl true)) (zC 2) (zC 7))
  (Al (fM zw (zC 4) (zD (toD (zC 7)) zG)))) Ac))))
  (Al (fM zw (zC 3) (zD (toD (zC 4)) zG))))) 1000)
  (zv (fB Av (zE (zn [8] (AU (fSl (zC 3) Bj (BW (DL (fC (.int 1)))))) (gN 8) zf (fB Av (zE (fB HE (zE (zC 8) zJ)) zJ))) zJ))))))
noncomputable def G1:FF:=GB (Ag 9 Le)
def X1 {M:Mem} {c:Ye} (h:M[n]?=some (.lst (c.map D.int))):kIn true (.dat (.int x)) (.dat (.ref n)) M=some (.dat (.bl (!decide (x∈c))),M):=by
 unfold kIn;dsimp only;rw[zh h];dsimp only;rw[Gz];have:(c.any λy=>decide (y=x))=decide (x∈c):=by
  by_cases hm:x∈c
  .rw[AR hm];exact List.any_eq_true.mpr ⟨x,hm,by simp⟩
  .rw[AM hm];exact List.any_eq_false.mpr λy hy=>by simp;intro e;exact hm (e▸hy)
 show some (EV.dat (.bl (!(c.any λy=>decide (y=x)))),M)=_;rw[this]
def VA (hf:f Y M=some (.dat (.ref n),M)) (h:M[n]?=some (.lst (c.map D.int))) (hz:c.length<64):fB Gy (zE f zJ) Y M=some (.fl ((Bm c).map D.int),M):=by
 rw[fB1 hf];unfold Gy;dsimp only;rw[zh h];dsimp only;rw[Gz];dsimp only;rw[AB hz]
def Ni {zA:Ya} {l:Nat} (m:IsM zA l) (h9:zA.length<=9) {S:Ye} (s:IsS zA S) {g:Int} (g0:0<=g) (g1:g<l) {M:Mem}:ER [mD zA,tI S,.int g] M=some (tI (setR zA S g),M):=by
 refine zH ?_;unfold ER;refine Jl (by unfold D.unds D.unds D.unds D.unds;rw[Iw,Hu];rfl) ?_;rw[BG];unfold J0;show OkS (zM _ _ [some (mD zA),some (tI S),some (.int g),none,none] []) _;rw[zL,zi];refine GP.mpr (Ca.mpr ⟨zb (by simp),zr ?_⟩);rw[zQ,zL,Bp];show ∃ xs gd M2,AU (zC 1) [some (mD zA),some (tI S),some (.int g),some (.ref 0),none] [.lst []]=some (xs,gd,M2)/\_;refine ⟨_,_,_,DF (x:=.dat (tI S)) rfl za,?_⟩;have hl:=s.len;refine Dc (I:=λr Y M'=>∃ (y:Option D) (done rest c:Ye),Y=[some (mD zA),some (tI S),some (.int g),some (.ref 0),y]/\r=rest.map D.int/\done++rest=S/\M'=[.lst (c.map D.int)]/\c.Nodup/\(∀ x,x∈c ↔ x∈done.map λh=>BH zA h g)/\c.length<=done.length) ?_ ?_ _ _ _ ⟨none,[],S,[],rfl,rfl,rfl,rfl,List.nodup_nil,λx=>by simp,AG _⟩
 .rintro x r Y M' ⟨y,done,rest,c,rfl,hr,hd,rfl,nd,hc,hcl⟩;obtain ⟨z,rest',rfl,rfl,rfl⟩:=Tg hr;refine ⟨zo,_,rfl,?_⟩;obtain ⟨z0,z1⟩:=s.mem z (by rw[<-hd];simp);have ix:∀ {Y:Sd} {M:Mem},Y[0]?=some (some (mD zA))->Y[4]?=some (some (.int z))->Y[2]?=some (some (.int g))->fOp kIx (fOp kIx (zC 0) (zC 4)) (zC 2) Y M=some (.dat (.int (BH zA z g)),M):=λ{Y M} q0 q1 q2=>
   m.ix z0 z1 g0 g1 (by unfold zC;rw[q0]) (by unfold zC;rw[q1]) (by unfold zC;rw[q2])
  have e0:([MO.lst (c.map D.int)]:Mem)[0]?=some (.lst (c.map D.int)):=rfl;show OkS (sIf _ _ _ [some (mD zA),some (tI S),some (.int g),some (.ref 0),some (.int z)] [.lst (c.map D.int)]) _;rw[BQ];refine zF (Au (zI (y:=.dat (.ref 0)) (ix rfl rfl rfl) rfl (X1 e0))) ?_;by_cases hm:BH zA z g∈c
  .rw[AD (by simp[hm]),Bx];refine ⟨_,done++[z],rest',c,rfl,rfl,by rw[<-hd];simp,rfl,nd,λx=>?_,by simp;omega⟩;rw[hc x];simp only[B7,AS,AY,List.map_nil,BC];exact ⟨.inl,λh=>h.elim id λe=>by rw[e];exact (hc _).mp hm⟩
  .rw[AB (by simp[hm]),C0];refine DB.mpr (CM.mpr ⟨_,rfl,⟨_,CN e0⟩,?_⟩);refine zF (zU (ix rfl rfl rfl)) ?_;rw[Eo e0 (by rw[AF];exact Ax (m:=100) (by have:=Bv List.length hd;simp at this;omega) (zb (by omega)))];refine ⟨_,done++[z],rest',c++[BH zA z g],rfl,rfl,by rw[<-hd];simp,by simp,?_,λx=>?_,by simp;omega⟩
   .rw[E9];exact ⟨nd,by simp,λa ha b hb q=>hm (by rw[<-(show b=BH zA z g by simpa using hb),<-q];exact ha)⟩
   .simp only[B7,AS,AY,List.map_nil,BC,hc x]
 .rintro Y M' ⟨y,done,rest,c,rfl,hr,hd,rfl,nd,hc,hcl⟩;have:rest=[]:=by cases rest with|nil=>rfl|cons _ _=>cases hr
  subst this;rw[By]at hd;subst hd;refine ⟨zo,?_⟩;rw[zQ];have e0:([MO.lst (c.map D.int)]:Mem)[0]?=some (.lst (c.map D.int)):=rfl;refine zc (Dw (VA (n:=0) rfl e0 (by omega)) Dx) ?_;have:Bm c=setR zA done g:=by
   unfold setR;refine Oj ?_ (N0 _) λx=>?_
   .have h1:=Ib c;have h2:(Bm c).Nodup:=(Fx _).nodup_iff.mpr nd;exact (h1.and h2).imp λ{a b} h=>by have:=h.1;have:=h.2;omega
   .rw[(Fx _).mem_iff,hc x,LP]
  rw[this];exact ⟨Hu _,rfl,rfl⟩
noncomputable abbrev Dv (lv:Lvl):List D:=(lv.map (·.1)).map tI
structure Lw (M1 M:Mem) (b:Nat) (p:List (List Int) × Lvl):Prop where
 len:M.length=M1.length
 e0:M[0]?=some (dT (sE p.1))
 eb:M[b]?=some (.lst (Dv p.2))
 fr:∀ j,j≠0->j≠b->M[j]?=M1[j]?
def VU {zA:Ya} {l:Nat} (m:IsM zA l) (h9:zA.length<=9) {M1 M:Mem} {b:Nat} (hb0:b≠0) {seen0:Ya} {p:List (List Int) × Lvl} (gr:Gr zA seen0 p) (nl:Lw M1 M b p) {R S w:Ye} (s:IsS zA S) {g:Int} (g0:0<=g) (g1:g<l) {y7:Option D} :
  OkS (zM (AK 7 (zO ER (zD (toD (zC 0)) (zD (toD (zC 5)) (zD (toD (zC 6)) zG)))))
  (sIf (tst (fOp (Ci true) (zC 7) (zC 2))) (zM (Co (fC (.bl true)) (zC 2) (zC 7))
  (Al (fM zw (zC 4) (zD (toD (zC 7)) zG)))) Ac) [some (mD zA),some (tI R),some (.ref 0),some (.ref 2),some (.ref b),some (tI S),some (.int g),y7,none] M)
   λo Y M'=>o=.nx/\(∃ y7,Y=[some (mD zA),some (tI R),some (.ref 0),some (.ref 2),some (.ref b),some (tI S),some (.int g),y7,none])/\Lw M1 M' b (D4 zA S w p g):=by
 refine Cj (zp (zg rfl (zg rfl (zU rfl))) (Ni m h9 s g0 g1)) ?_;show OkS (sIf _ _ _ [some (mD zA),some (tI R),some (.ref 0),some (.ref 2),some (.ref b),some (tI S),some (.int g),some (tI (setR zA S g)),none] M) _;rw[BQ];refine zF (Au (zI (x:=.dat (tI (setR zA S g))) (y:=.dat (.ref 0)) rfl rfl (DX nl.e0))) ?_;rw[JY .non,QG];unfold D4;by_cases hm:setR zA S g∈p.1
 .rw[AB hm,AD (by simp[hm]),Bx];exact ⟨rfl,⟨_,rfl⟩,nl⟩
 .rw[AD hm,AB (by simp[hm]),zL];have hl:=GV gr.nd gr.st h9;have hk:p.2.length<=p.1.length:=by rw[gr.eq,AN,AF];omega
  refine Fv rfl rfl rfl (C8 nl.e0 (by unfold sE;rw[AF];omega)) ?_;rw[zQ,VP hm,C0];have h0l:0<M.length:=(AI.mp nl.e0).1;have hbl:b<M.length:=(AI.mp nl.eb).1;have eb':(M.set 0 (dT (sE (p.1++[setR zA S g]))))[b]?=some (.lst (Dv p.2)):=by rw[A7 (Ne.symm hb0)];exact nl.eb
  refine DB.mpr (CM.mpr ⟨_,rfl,⟨_,CN eb'⟩,?_⟩);refine zF (zU (d:=tI (setR zA S g)) rfl) ?_;rw[Eo eb' (by unfold Dv;rw[AF,AF];exact Ax (m:=600) (by omega) (zb (by omega)))];refine ⟨rfl,⟨_,rfl⟩,by simp[nl.len],?_,?_,λj h1 h2=>?_⟩
  .rw[A7 hb0,B9 h0l]
  .rw[B9 (by simpa using hbl)];simp
  .rw[A7 (Ne.symm h2),A7 (Ne.symm h1)];exact nl.fr j h1 h2
structure Tl (M:Mem) (ts:Yj) (acc:List (List (List Int))):Prop where
 len:ts.length=acc.length
 at_:∀ (i t:Nat),ts[i]?=some t -> ∃ L:List (List Int),acc[i]?=some L/\M[t]?=some (.lst (L.map tI))/\t≠0/\t≠2
 ne:∀ L∈acc,Gk L=true/\L.length<=600
noncomputable abbrev lwC:FT:=(tst (fOp kGt (fB zV (zE (fOp kIx (zC 3) (DL (fC (.int 1)))) zJ)) (fC (.int 0))))
noncomputable abbrev lwB:FS:=(zM (AK 4 (AQ zG))
  (zM (Ad (AU (fOp kIx (zC 3) (DL (fC (.int 1))))) (gN 5) (Ad (zt (zD (toD (fB zV (zE (fOp kIx (zC 0) (fC (.int 0))) zJ))) zG)) (gN 6) (zM (AK 7 (zO ER (zD (toD (zC 0)) (zD (toD (zC 5)) (zD (toD (zC 6)) zG)))))
  (sIf (tst (fOp (Ci true) (zC 7) (zC 2))) (zM (Co (fC (.bl true)) (zC 2) (zC 7))
  (Al (fM zw (zC 4) (zD (toD (zC 7)) zG)))) Ac))))
  (Al (fM zw (zC 3) (zD (toD (zC 4)) zG)))))
section
variable {zA:Ya} {l:Nat} {R:Ye}
def Oi (hf:f Y M=some (.dat (.ref 2),M)) (e2:M[2]?=some (.lst ((ts++[v]).map D.ref))):fOp kIx f (DL (fC (.int 1))) Y M=some (.dat (.ref v),M) :=
 zI (g:=DL (fC (.int 1))) (y:=.dat (.int (-1))) hf rfl (BR (zh e2) (by rw[B7];exact Law.Sk _ _))
def fN (m:IsM zA l) (h9:zA.length<=9) (hl9:l<=1000) {seen:Ya} {level:Lvl} {acc:List (List (List Int))} (mt:Met zA seen level) (hz:level.length<=600) (hacc:acc.length<=4000) {M:Mem} {ts:Yj} {v:Nat} (v0:v≠0) (v2:v≠2)
  (e0:M[0]?=some (dT (sE seen))) (e2:M[2]?=some (.lst ((ts++[v]).map D.ref))) (ev:M[v]?=some (.lst (Dv level))) (tl:Tl M ts acc) {y4 y5 y6 y7:Option D} :
  OkS (lwB [some (mD zA),some (tI R),some (.ref 0),some (.ref 2),y4,y5,y6,y7,none] M) λo Y M'=>o=.nx /\ ∃ v',(∃ y4 y5 y6 y7,Y=[some (mD zA),some (tI R),some (.ref 0),some (.ref 2),y4,y5,y6,y7,none])/\v'≠0/\v'≠2/\M'[0]?=some (dT (sE (Ee zA l seen level).1))/\M'[2]?=some (.lst (((ts++[v])++[v']).map D.ref))/\M'[v']?=some (.lst (Dv (Ee zA l seen level).2))/\Tl M' (ts++[v]) (acc++[level.map (·.1)]):=by
 have h2l:2<M.length:=(AI.mp e2).1;have hvl:v<M.length:=(AI.mp ev).1;rw[zL,zi];refine GP.mpr (Ca.mpr ⟨zb (by simp),zr ?_⟩);rw[zQ];have lw1:Lw (M++[MO.lst ([]:List D)]) (M++[MO.lst ([]:List D)]) M.length (seen,[]):=⟨rfl,by rw[Ai (by omega)];exact e0,by simp,λj _ _=>rfl⟩;have k1:∀ j,j<M.length->(M++[MO.lst ([]:List D)])[j]?=M[j]?:=λj hj=>Ai hj;have ln1:(M++[MO.lst ([]:List D)]).length=M.length+1:=by simp
 generalize M++[MO.lst ([]:List D)]=M1 at lw1 k1 ln1;have hb0:M.length≠0:=by omega
 generalize hb:M.length=b at lw1 hb0 k1 ln1;show OkS (zM _ _ [some (mD zA),some (tI R),some (.ref 0),some (.ref 2),some (.ref b),y5,y6,y7,none] M1) _;rw[zL,Bp];have ev1:M1[v]?=some (.lst (Dv level)):=by rw[k1 v (by omega)];exact ev
 have e21:M1[2]?=some (.lst ((ts++[v]).map D.ref)):=by rw[k1 2 (by omega)];exact e2
 refine ⟨_,_,_,DF (Oi rfl e21) (zh ev1),?_⟩;refine Dc (I:=λr Y M'=>(∃ y5 y6 y7,Y=[some (mD zA),some (tI R),some (.ref 0),some (.ref 2),some (.ref b),y5,y6,y7,none]) /\ ∃ (done rest:Lvl),r=Dv rest/\done++rest=level/\Lw M1 M' b (done.foldl (Gg zA l) (seen,[]))) ?_ ?_ _ _ _ ⟨⟨_,_,_,rfl⟩,[],level,rfl,rfl,lw1⟩
 .rintro x r Y M' ⟨⟨y5,y6,y7,rfl⟩,done,rest,er,hd,nl⟩;cases rest with
  |nil=>cases er
  |cons sw rest=>
   obtain ⟨rfl,rfl⟩:=CF er;have hs:sw∈level:=by rw[<-hd];simp
   have sS:=mt.lv sw hs;have gr0:Gr zA seen (done.foldl (Gg zA l) (seen,[])):=Kx m (λs z=>mt.lv s (by rw[<-hd];simp[z])) ⟨mt.nd,mt.st,by simp⟩;generalize hp:done.foldl (Gg zA l) (seen,[])=p0 at nl gr0;have gd:∀ {M2:Mem} {q:List (List Int) × Lvl},Lw M1 M2 b q->M2[v]?=some (.lst (Dv level)):=λ{M2 q} h=>by rw[h.fr v v0 (by omega)];exact ev1
   refine ⟨.inl (gd nl),_,rfl,?_⟩;show OkS (Ad _ _ _ [some (mD zA),some (tI R),some (.ref 0),some (.ref 2),some (.ref b),some (tI sw.1),y6,y7,none] M') _;rw[Bp];have el:fB zV (zE (fOp kIx (zC 0) (fC (.int 0))) zJ) [some (mD zA),some (tI R),some (.ref 0),some (.ref 2),some (.ref b),some (tI sw.1),y6,y7,none] M'=some (.dat (.int l),M'):=by
    have hr:=m.get (h:=0) (by decide) (by have:=m.r0;omega);have:=Bo (f:=fOp kIx (zC 0) (fC (.int 0))) (Y:=[some (mD zA),some (tI R),some (.ref 0),some (.ref 2),some (.ref b),some (tI sw.1),y6,y7,none]) (M:=M') (zI (x:=.dat (mD zA)) rfl rfl (BR za (Fo (by decide) (by have:=m.r0;omega)))) za;rw[this,AF,hr.1]
   refine ⟨_,_,_,CV el (by omega) (by omega),?_⟩;rw[CK];refine D2 (n:=l) (I:=λi Y M2=>(∃ y6 y7,Y=[some (mD zA),some (tI R),some (.ref 0),some (.ref 2),some (.ref b),some (tI sw.1),y6,y7,none])/\Gr zA seen ((BN i).foldl (D4 zA sw.1 sw.2) p0)/\Lw M1 M2 b ((BN i).foldl (D4 zA sw.1 sw.2) p0)) ?_ ?_ _ _ ⟨⟨_,_,rfl⟩,gr0,nl⟩
   .rintro i Y M2 hi ⟨⟨y6,y7,rfl⟩,gr,nl2⟩;refine ⟨_,rfl,?_⟩;refine OkS.mono (VU (w:=sw.2) m h9 hb0 gr nl2 sS (g:=(i:Nat)) (by omega) (by omega)) ?_;rintro o Y M3 ⟨rfl,⟨y7,rfl⟩,nl3⟩;have e:(BN (i+1)).foldl (D4 zA sw.1 sw.2) p0=D4 zA sw.1 sw.2 ((BN i).foldl (D4 zA sw.1 sw.2) p0) (i:Nat):=by
     unfold BN;rw[List.range_succ,B7,List.foldl_append];rfl
    show (∃ y6 y7,_)/\_;rw[e];exact ⟨⟨_,_,rfl⟩,Q1 m gr sS (by omega) (by omega),nl3⟩
   .rintro Y M2 ⟨⟨y6,y7,rfl⟩,gr,nl2⟩;refine ⟨⟨_,_,_,rfl⟩,done++[sw],rest,rfl,by rw[<-hd];simp,?_⟩;rw[List.foldl_append,hp];exact nl2
 .rintro Y M' ⟨⟨y5,y6,y7,rfl⟩,done,rest,er,hd,nl⟩;have:rest=[]:=by cases rest with|nil=>rfl|cons _ _=>cases er
  subst this;rw[By]at hd;subst hd;have nl':Lw M1 M' b (Ee zA l seen done):=nl;have gN:=mt.next m;generalize Ee zA l seen done=pN at nl' gN;refine ⟨.inl (by rw[nl'.fr v v0 (by omega)];exact ev1),?_⟩;have e2':M'[2]?=some (.lst ((ts++[v]).map D.ref)):=by rw[nl'.fr 2 (by decide) (by omega)];exact e21
  rw[zQ,C0];refine DB.mpr (CM.mpr ⟨_,rfl,⟨_,CN e2'⟩,?_⟩);refine zF (zU (d:=.ref b) rfl) ?_;rw[Eo e2' (by rw[AF,AN,tl.len];exact Ax (m:=4002) (by simp;omega) (zb (by omega)))];have hl':=nl'.len;refine ⟨rfl,b,⟨_,_,_,_,rfl⟩,hb0,by omega,?_,?_,?_,?_⟩
  .rw[A7 (by decide)];exact nl'.e0
  .rw[B9 (by omega)];simp
  .rw[A7 (by omega)];exact nl'.eb
  .refine ⟨by simp[tl.len],λi t e=>?_,λL hL=>?_⟩
   .by_cases hi:i<ts.length
    .rw[Ai hi]at e;obtain ⟨L,q1,q2,q3,q4⟩:=tl.at_ i t e;have htl:t<M.length:=(AI.mp q2).1;exact ⟨L,by rw[Ai (by rw[<-tl.len];exact hi)];exact q1,by rw[A7 (Ne.symm q4),nl'.fr t q3 (by omega),k1 t (by omega)];exact q2,q3,q4⟩
    .have hi2:i=ts.length:=by
      have:=(AI.mp e).1;rw[AN]at this;simp at this;omega
     subst hi2;simp at e;subst e;exact ⟨done.map (·.1),by rw[tl.len];simp,by rw[A7 (Ne.symm v2),nl'.fr v v0 (by omega)];exact ev1,v0,v2⟩
   .rcases AS.mp hL with z|z
    .exact tl.ne L z
    .have:L=done.map (·.1):=by simpa using z
     rw[this];exact ⟨bH mt.lv,by rw[AF];exact hz⟩
theorem QP (m:IsM zA l) (h9:zA.length<=9) (hl9:l<=1000):∀ (n:Nat) {seen:Ya} {level:Lvl} {acc:List (List (List Int))} {r:Option (List Int) × List (List (List Int))},Met zA seen level->level.length<=600->acc.length+n<=4000->run zA l (λ_=>false) n seen level acc=some r ->
  ∀ (M:Mem) (ts:Yj) (v:Nat) (y4 y5 y6 y7:Option D),v≠0->v≠2->M[0]?=some (dT (sE seen))->M[2]?=some (.lst ((ts++[v]).map D.ref))->M[v]?=some (.lst (Dv level))->Tl M ts acc ->
  OkS (DD lwC lwB n [some (mD zA),some (tI R),some (.ref 0),some (.ref 2),y4,y5,y6,y7,none] M) λo Y M'=>o=.nx /\ ∃ ts v,(∃ y4 y5 y6 y7,Y=[some (mD zA),some (tI R),some (.ref 0),some (.ref 2),y4,y5,y6,y7,none])/\M'[2]?=some (.lst ((ts++[v]).map D.ref))/\Tl M' ts r.2
 |0,_,_,_,_,_,_,_,hr=>by cases hr
 |n+1,seen,level,acc,r,mt,hz,hacc,hr=>by
  intro M ts v y4 y5 y6 y7 v0 v2 e0 e2 ev tl;have ec:lwC [some (mD zA),some (tI R),some (.ref 0),some (.ref 2),y4,y5,y6,y7,none] M=some (!level.isEmpty,M):=by
   have h1:=Au (zI (Bo (Oi (f:=zC 3) (Y:=[some (mD zA),some (tI R),some (.ref 0),some (.ref 2),y4,y5,y6,y7,none]) rfl e2) (zh ev)) (show fC (.int 0) _ M=_ from rfl) (zH (Hr.mpr ⟨rfl,rfl⟩)));refine h1.trans (Bv (λz=>some (z,M)) ?_);unfold Dv;rw[AF,AF];cases level with
   |nil=>rfl
   |cons a b=>simp
  unfold run at hr;unfold DD;rw[ec];cases hl:level.isEmpty with
  |true=>
   rw[hl,AB rfl]at hr;cases hr;exact ⟨_,_,_,rfl,rfl,ts,v,⟨_,_,_,_,rfl⟩,e2,tl⟩
  |false=>
   rw[hl,AD Ay]at hr;obtain ⟨o,σ1,M1,eb,rfl,v',⟨z4,z5,z6,z7,rfl⟩,w0,w2,f0,f2,fv,tl'⟩:=fN (R:=R) (y4:=y4) (y5:=y5) (y6:=y6) (y7:=y7) m h9 hl9 mt hz (by omega) v0 v2 e0 e2 ev tl
   show OkS (match lwB [some (mD zA),some (tI R),some (.ref 0),some (.ref 2),y4,y5,y6,y7,none] M with
    |some (.nx,σ2,M2)=>DD lwC lwB n σ2 M2
    |some (.cnt,σ2,M2)=>DD lwC lwB n σ2 M2
    |some (.brk,σ2,M2)=>some (.nx,σ2,M2)
    |some (.ret d,σ2,M2)=>some (.ret d,σ2,M2)
    |none=>none) _
   rw[eb];have hf:level.find? (λp=>(λ_=>false:List Int->Bool) p.1)=none:=List.find?_eq_none.mpr λp hp=>by simp
   rw[hf]at hr;have g:=mt.next m;have hzz:(Ee zA l seen level).2.length<=600:=by
    have h1:=GV g.nd g.st h9;rw[g.eq,AN,AF]at h1;omega
   exact QP m h9 hl9 n g.met hzz (by rw[AN,FH];omega) hr _ _ _ _ _ _ _ w0 w2 f0 f2 fv tl'
def aCl {M M1 M2:Mem} (h:f Y M=some (.fl xs,M1)) (hg:g Y (M1++[.lst xs])=some (ds,M2)):zD (toD f) g Y M=some (.ref M1.length::ds,M2):=by
 unfold zD;rw[Np h];dsimp only;rw[hg]
def CZ {g:FA} {Y:Sd} {M M1:Mem} {ds:List D} (h:g Y M=some (ds,M1)) (hz:ds.length<=100000):AQ g Y M=some (.fl ds,M1):=by
 unfold AQ;rw[h];dsimp only;rw[AB (zb hz)]
def OC (hx:0<xs.length):L3.Ak xs none (some (-1))=xs.take (xs.length-1):=by
 unfold L3.Ak;have h0:HT.sIx xs.length 0 none=0:=rfl;have h1:HT.sIx xs.length xs.length (some (-1))=xs.length-1:=by
  unfold HT.sIx;simp;omega
 rw[h0,h1,List.drop_zero,Nat.sub_zero]
noncomputable def GD (M:Mem) (t:Nat):List (List Int):=match M[t]? with
 |some (.lst xs)=>(Fw xs).getD []
 |_=>[]
def U5 (m:IsM zA l) (h9:zA.length<=9) (hl9:l<=1000) (sR:IsS zA R) {r:Option (List Int) × List (List (List Int))} (hr:run zA l (λ_=>false) 1000 [R] [(R,[])] []=some r) {M:Mem}:G1 [mD zA,tI R] M=some (shD r.2,M):=by
 refine zH ?_;unfold G1;refine Jl (by unfold D.unds D.unds D.unds;rw[Iw,Hu];rfl) ?_;rw[BG];unfold Le;show OkS (zM _ _ [some (mD zA),some (tI R),none,none,none,none,none,none,none] []) _;rw[zL,zi];refine zF (Uc (S:=R) (v:=.bl true) rfl rfl) ?_;rw[zS,zQ];show OkS (zM _ _ [some (mD zA),some (tI R),some (.ref 0),none,none,none,none,none,none] [dT [(R,.bl true)]]) _;rw[zL,zi];have e3:AQ (zD (toD (AQ (zD (toD (zC 1)) zG))) zG) [some (mD zA),some (tI R),some (.ref 0),none,none,none,none,none,none] [dT [(R,.bl true)]]=some (.fl [.ref 1],[dT [(R,.bl true)],.lst [tI R]]) :=
  CZ (aCl (CZ (zU (d:=tI R) rfl) (by simp)) rfl) (by simp)
 refine zF e3 (zr ?_);rw[zQ];show OkS (zM _ _ [some (mD zA),some (tI R),some (.ref 0),some (.ref 2),none,none,none,none,none] [dT [(R,.bl true)],.lst [tI R],.lst [.ref 1]]) _;rw[zL];have mt:Met zA [R] [(R,[])]:=⟨by simp,λS hS=>by rw[BC.mp hS];exact sR,λp hp=>by rw[BC.mp hp];exact sR⟩;refine OkS.mono (QP (R:=R) m h9 hl9 1000 (acc:=[]) mt (by simp) (by simp) hr [dT [(R,.bl true)],.lst [tI R],.lst [.ref 1]] [] 1 none none none none (by decide) (by decide) rfl rfl rfl ⟨rfl,λi t e=>by simp at e,λ_ h=>by cases h⟩) ?_;rintro o Y M1 ⟨rfl,ts,v,⟨y4,y5,y6,y7,rfl⟩,e2,tl⟩;rw[zQ];have es:fSl (zC 3) Bj (BW (DL (fC (.int 1)))) [some (mD zA),some (tI R),some (.ref 0),some (.ref 2),y4,y5,y6,y7,none] M1=some (.fl (ts.map D.ref),M1):=by
  refine zH (WC.mpr (CM.mpr ⟨_,rfl,dC.mpr (bC.mpr ?_)⟩));refine zF (a:=.dat (.int (-1))) (M:=M1) rfl (WU.mpr ?_);rw[Oh (CN e2) rfl,OC (by simp)];exact ⟨by simp,rfl⟩
 have hz:ts.length<=100000:=by rw[tl.len];exact BA (K6 1000 hr) (by simp)
 have ec:zn [8] (AU (fSl (zC 3) Bj (BW (DL (fC (.int 1)))))) (gN 8) zf (fB Av (zE (fB HE (zE (zC 8) zJ)) zJ)) [some (mD zA),some (tI R),some (.ref 0),some (.ref 2),y4,y5,y6,y7,none] M1=some (.fl (ts.map λt=>lvD (GD M1 t)),M1):=by
  refine Em ts D.ref _ (gd:=none) (by unfold AU;rw[es];rfl) trivial hz λt ht=>?_;obtain ⟨i,hi⟩:=List.getElem?_of_mem ht;obtain ⟨L,q1,q2,_,_⟩:=tl.at_ i t hi;obtain ⟨ne,nz⟩:=tl.ne L (Bd q1);refine ⟨_,rfl,?_⟩;have ea:GD M1 t=L:=by unfold GD;rw[q2];dsimp only;rw[JH];rfl
  rw[ea];refine Dw (x:=.fl ((Cq L).map λt=>D.tup (t.map D.int))) ?_ Dx;rw[fB1 (x:=.dat (.ref t)) rfl];unfold HE;dsimp only;rw[zh q2];dsimp only;rw[JH];dsimp only;rw[AB ⟨ne,by omega⟩]
 refine zc (Dw ec Dx) ?_;have:(ts.map λt=>lvD (GD M1 t))=r.2.map lvD:=by
  apply List.ext_getElem?;intro i;rw[Af,Af];by_cases hi:i<ts.length
  .obtain ⟨L,q1,q2,_,_⟩:=tl.at_ i ts[i] (AL hi);rw[AL hi,q1];have ea:GD M1 ts[i]=L:=by unfold GD;rw[q2];dsimp only;rw[JH];rfl
   show some (lvD (GD M1 ts[i]))=some (lvD L);rw[ea]
  .rw[Ec (by omega),Ec (by rw[<-tl.len];omega)];rfl
 rw[this];exact ⟨aO _,rfl,rfl⟩
end
open Lac (dT Br ze BI DX C8 Ft Ck DP IL)
noncomputable def J3:FS:=(zv (Bu (BK "tuple" (zC 1)) (fB C4 (zE (zn [2] (AU (zC 1)) (gN 2) zf (zO Ck (zD (toD (zC 0)) (zD (toD (zC 2)) zG)))) zJ))))
noncomputable def FJ:FF:=Ag 3 J3
noncomputable def LW:FS:=(zM (AK 1 JO)
  (zM (Ad (Fh (zC 0)) (Ei 2 3) (Ad (AU (zC 3)) (gN 4) (sIf (tst (fOp (Ci true) (zC 4) (zC 1))) (Co (zC 2) (zC 1) (zC 4)) Ac)))
  (zv (zC 1))))
noncomputable def IB:FF:=Ag 5 LW
noncomputable def Jb:FS:=(zM (AK 4 (zn [5] (zt (zD (toD (fB zV (zE (fOp kIx (zC 0) (fC (.int 0))) zJ))) zG)) (gN 5) zf (zO HF (zD (toD (zC 0)) (zD (toD (zC 1)) (zD (toD (zC 5)) zG))))))
  (zv (fB C4 (zE (zn [6] (AU (zC 4)) (gN 6) zf (Bu (fOp (Ci false) (zC 6) (zC 2)) (fOp kLe (fOp A9 (zC 2) (zC 6)) (zC 3)))) zJ))))
noncomputable def GH:FF:=Dr (Ag 7 Jb)
noncomputable def Gf:FS:=(zM (sIf (BB (BM (tst (BK "tuple" (zC 2)))) (BM (tst (fB C4 (zE (zn [4] (AU (zC 2)) (gN 4) zf (zO FJ (zD (toD (zC 0)) (zD (toD (zC 4)) zG)))) zJ))))) (zv (fC (.bl false))) Ac)
  (zM (sIf (tst (fOp kEq (fB zV (zE (zC 2) zJ)) (fC (.int 0)))) (zv (DY (zC 3))) Ac)
  (zM (sIf (tst (fOp (Ed true) (zC 1) (fOp kIx (zC 2) (fC (.int 0))))) (zv (fC (.bl false))) Ac)
  (zM (AK 5 (zO IB (zD (toD (zC 2)) zG)))
  (zM (AK 6 (vIf (tst (zC 3)) (zC 2) (fSl (zC 2) Bj (BW (DL (fC (.int 1)))))))
  (zv (fB C4 (zE (GX [8,4,7] [7] (Fh (zC 6)) (Ei 8 4) zf (AU (zC 4)) (gN 7) zf (zO GH (zD (toD (zC 0)) (zD (toD (zC 7)) (zD (toD (zC 5)) (zD (toD (fOp zY (zC 8) (fC (.int 1)))) zG)))))) zJ))))))))
noncomputable def Hm:FF:=Dr (Ag 9 Gf)
noncomputable def dc (p:Prop):Bool:=@decide p (Classical.propDecidable p)
def FQ (h:p):dc p=true:=@AR p (Classical.propDecidable p) h
def FX (h:¬ p):dc p=false:=@AM p (Classical.propDecidable p) h
def Nr (h:dc p=true):p:=@CG p (Classical.propDecidable p) h
noncomputable def setB (zA:Ya) (d:D):Bool:=dc (∃ S,d=tI S/\IsS zA S)
def aV (hd:Vd M d):Ck [mD zA,d] M=some (.bl (setB zA d),M):=by
 obtain ⟨b,e,hb⟩:=IL (zA:=zA) hd;rw[e];have:b=setB zA d:=by
  unfold setB;cases b with
  |true=>rw[FQ (hb.mp rfl)]
  |false=>rw[FX (λz=>by have:=hb.mpr z;cases this)]
 rw[this]
noncomputable abbrev lvT (L:Ya):D:=.tup (L.map tI)
noncomputable abbrev shT (LL:List (List (List Int))):D:=.tup (LL.map lvT)
theorem Lp:∀ {ds:List D},(ds.map (setB zA)).all id=true -> ∃ L:List (List Int),ds=L.map tI /\ ∀ S∈L,IsS zA S
 |[],_=>⟨[],rfl,λ_ h=>by cases h⟩
 |d::ds,h=>by
  rw[AY,D8,Am]at h;obtain ⟨L,rfl,hL⟩:=Lp h.2;have h1:setB zA d=true:=h.1;unfold setB at h1;obtain ⟨S,rfl,s⟩:=Nr h1;exact ⟨S::L,rfl,λT hT=>by
   rcases AO.mp hT with z|z
   .rw[z];exact s
   .exact hL T z⟩
def Pr {L:Ya} (h:∀ S∈L,IsS zA S):((L.map tI).map (setB zA)).all id=true:=by
 rw[Ae];intro b hb;rw[BD]at hb;obtain ⟨S,hS,rfl⟩:=AV.mp hb;exact FQ ⟨S,rfl,h S hS⟩
def Uj (zA:Ya):D->Prop:=λd=>∃ L:List (List Int),d=lvT L /\ ∀ S∈L,IsS zA S
noncomputable def C1 (zA:Ya) (d:D):Bool:=dc (Uj zA d)
def Pe (hd:Vd M d):FJ [mD zA,d] M=some (.bl (C1 zA d),M):=by
 unfold FJ J3;refine Ih ?_;obtain ⟨t,e,q,_⟩:=hd.ty;cases d with
 |tup ds=>
  have hh:Vd M (.tup ds):=hd;unfold Vd at hh;have:C1 zA (.tup ds)=(true&&(ds.map (setB zA)).all id):=by
   rw[Bool.true_and];unfold C1;cases hb:(ds.map (setB zA)).all id with
   |true=>
    obtain ⟨L,rfl,hL⟩:=Lp hb;exact FQ ⟨L,rfl,hL⟩
   |false=>
    refine FX ?_;rintro ⟨L,e,hL⟩;cases e;rw[Pr hL]at hb;cases hb
  rw[this];refine Dh (by rw[Cc rfl e,q];rfl) λ_=>Dk ?_;rw[BD];exact GR (λx=> .bl (setB zA x)) rfl hh.1 λx hx=>⟨_,rfl,zp (zg rfl (zU rfl)) (aV (hh.2.mem x hx))⟩
 |_=>
  refine (Dh (a:=false) (b:=true) (by rw[Cc rfl e,q];rfl) λz=>by cases z).trans ?_;unfold C1;rw[FX (by rintro ⟨L,z,_⟩;cases z)];rfl
theorem Nx:∀ {ds:List D},(ds.map (C1 zA)).all id=true -> ∃ LL:List (List (List Int)),ds=LL.map lvT /\ ∀ L∈LL,∀ S∈L,IsS zA S
 |[],_=>⟨[],rfl,λ_ h=>by cases h⟩
 |d::ds,h=>by
  rw[AY,D8,Am]at h;obtain ⟨LL,rfl,hL⟩:=Nx h.2;have h1:C1 zA d=true:=h.1;unfold C1 at h1;obtain ⟨L,rfl,s⟩:=Nr h1;exact ⟨L::LL,rfl,λT hT=>by
   rcases AO.mp hT with z|z
   .rw[z];exact s
   .exact hL T z⟩
noncomputable def plc (LL:List (List (List Int))) (S:Ye):Option Nat:=LL.findIdx? λL=>decide (S∈L)
def G7 (done:List (List (List Int))) (part:Ya) (S:Ye):plc (done++[part]) S=match plc done S with|some k=>some k|none=>if S∈part then some done.length else none:=by
 unfold plc;rw[List.findIdx?_append];cases done.findIdx? (λL=>decide (S∈L)) with
 |some k=>rfl
 |none=>
  by_cases h:S∈part
  .simp[h]
  .simp[h]
structure Pl (zA:Ya) (P:List (List Int × D)) (LL:List (List (List Int))):Prop where
 lk:∀ S,ze P S=(plc LL S).map λk=>D.int (k:Nat)
 nd:(P.map (·.1)).Nodup
 st:∀ S∈P.map (·.1),IsS zA S
def Pl.open_ (h:Pl zA P LL):Pl zA P (LL++[[]]) :=
 ⟨λS=>by rw[h.lk,G7];cases plc LL S <;> rfl,h.nd,h.st⟩
def Pl.add {zA:Ya} {P:List (List Int × D)} {done:List (List (List Int))} {part:Ya} (h:Pl zA P (done++[part])) {S:Ye} (s:IsS zA S) :
  ((ze P S).isSome=true->Pl zA P (done++[part++[S]]))/\((ze P S).isSome=false->Pl zA (P++[(S,.int (done.length:Nat))]) (done++[part++[S]])):=by
 have hl:=h.lk S;rw[G7]at hl;refine ⟨λhs=>⟨λT=>?_,h.nd,h.st⟩,λhs=>⟨λT=>?_,?_,λT hT=>?_⟩⟩
 .rw[h.lk,G7,G7];cases hp:plc done T with
  |some k=>rfl
  |none=>
   by_cases ht:T∈part
   .simp[ht]
   .by_cases hT:T=S
    .subst hT;rw[hp]at hl;rw[hl]at hs;simp[ht]at hs
    .simp[ht,hT]
 .have hn:ze P S=none:=by cases e:ze P S with|none=>rfl|some d=>rw[e]at hs;cases hs
  have hput:BI P S (.int (done.length:Nat))=P++[(S,.int (done.length:Nat))]:=by unfold BI;rw[hn]
  rw[<-hput,Lac.VT,h.lk,G7,G7];rw[hn]at hl;by_cases hT:S=T
  .subst hT;rw[AB rfl];cases hp:plc done S with
   |some k=>rw[hp]at hl;cases hl
   |none=>simp
  .rw[AD hT];cases plc done T with
   |some k=>rfl
   |none=>
    have hT':¬ T=S:=λz=>hT z.symm;simp[hT']
 .rw[B7,E9];refine ⟨h.nd,by simp,λa ha b hb z=>?_⟩;have e1:=JY .non P S;rw[hs]at e1;have e2:=of_decide_eq_false e1.symm;refine e2 ?_;have hb':b=S:=by simpa using hb
  rw[<-hb',<-z];exact ha
 .rw[B7]at hT;rcases AS.mp hT with z|z
  .exact h.st T z
  .rw[BC.mp z];exact s
section
variable {zA:Ya} {l:Nat}
def NQ:((List.range (x::xs).length).zip (x::xs)).map (λq=>D.tup [.int ((n+q.1:Nat):Int),q.2])=D.tup [.int (n:Nat),x]::((List.range xs.length).zip xs).map λq=>D.tup [.int (((n+1)+q.1:Nat):Int),q.2]:=by
 rw[CS,List.range_succ_eq_map,List.zip_cons_cons,AY,List.zip_map_left,BD];congr 1;apply List.map_congr_left;intro q _;show D.tup [.int ((n+(q.1+1):Nat):Int),q.2]=D.tup [.int (((n+1)+q.1:Nat):Int),q.2];rw[show n+(q.1+1)=(n+1)+q.1 by omega]
noncomputable abbrev G0 (n:Nat) (xs:List D):List D:=((List.range xs.length).zip xs).map λq=>D.tup [.int ((n+q.1:Nat):Int),q.2]
def dP (xs:List D):Dp xs=G0 0 xs:=by
 unfold Dp G0;apply List.map_congr_left;intro q _;show D.tup [.int (q.1:Nat),q.2]=D.tup [.int ((0+q.1:Nat):Int),q.2];rw[Nat.zero_add]
def Xb (h9:zA.length<=9) (hs:∀ L∈LL,∀ S∈L,IsS zA S) :
  Ok (IB [shT LL] M) λd M'=>∃ P,d=.ref M.length/\M'=M++[dT P]/\Pl zA P LL:=by
 unfold IB;rw[BG];unfold LW;show OkS (zM _ _ [some (shT LL),none,none,none,none] M) _;rw[zL,zi];refine zF (a:=.dat (.ref M.length)) (M:=M++[.dicT []]) rfl ?_;rw[zS,zQ];show OkS (zM _ _ [some (shT LL),some (.ref M.length),none,none,none] (M++[.dicT []])) _;rw[zL,Bp];have ei:Fh (zC 0) [some (shT LL),some (.ref M.length),none,none,none] (M++[.dicT []])=some (G0 0 (LL.map lvT),none,M++[.dicT []]):=by
  rw[<-dP];rfl
 refine ⟨_,_,_,ei,?_⟩;refine Dc (I:=λr Y M'=>(∃ y2 y3 y4,Y=[some (shT LL),some (.ref M.length),y2,y3,y4]) /\ ∃ (done rest:List (List (List Int))) (P:List (List Int × D)),r=G0 done.length (rest.map lvT)/\done++rest=LL/\M'=M++[dT P]/\Pl zA P done) ?_ ?_ _ _ _ ⟨⟨_,_,_,rfl⟩,[],LL,[],rfl,rfl,rfl,⟨λS=>rfl,by simp,λ_ h=>by cases h⟩⟩
 .rintro x r Y M' ⟨⟨y2,y3,y4,rfl⟩,done,rest,P,er,hd,rfl,pl⟩;cases rest with
  |nil=>cases er
  |cons L rest=>
   rw[AY]at er;unfold G0 at er;rw[NQ]at er;obtain ⟨rfl,rfl⟩:=CF er;have hL:L∈LL:=by rw[<-hd];simp
   refine ⟨zo,_,rfl,?_⟩;show OkS (Ad _ _ _ [some (shT LL),some (.ref M.length),some (.int (done.length:Nat)),some (lvT L),y4] (M++[dT P])) _;rw[Bp];refine ⟨_,_,_,DF (x:=.dat (lvT L)) rfl za,?_⟩;refine Dc (I:=λr Y M'=>(∃ y4,Y=[some (shT LL),some (.ref M.length),some (.int (done.length:Nat)),some (lvT L),y4]) /\ ∃ (part rest:Ya) (P:List (List Int × D)),r=rest.map tI/\part++rest=L/\M'=M++[dT P]/\Pl zA P (done++[part])) ?_ ?_ _ _ _ ⟨⟨_,rfl⟩,[],L,P,rfl,rfl,rfl,pl.open_⟩
   .rintro x r Y M' ⟨⟨y4,rfl⟩,part,rs,P,er,hp,rfl,pl⟩;cases rs with
    |nil=>cases er
    |cons S rs=>
     obtain ⟨rfl,rfl⟩:=CF er;have s:=hs L hL S (by rw[<-hp];simp);refine ⟨zo,_,rfl,?_⟩;show OkS (sIf _ _ _ [some (shT LL),some (.ref M.length),some (.int (done.length:Nat)),some (lvT L),some (tI S)] (M++[dT P])) _;have eP:(M++[dT P])[M.length]?=some (dT P):=by simp
     rw[BQ];refine zF (Au (zI (x:=.dat (tI S)) (y:=.dat (.ref M.length)) rfl rfl (DX eP))) ?_;obtain ⟨p1,p2⟩:=pl.add s;cases hb:(ze P S).isSome with
     |true=>
      rw[AD (by simp),Bx];exact ⟨⟨_,rfl⟩,part++[S],rs,P,rfl,by rw[<-hp];simp,rfl,p1 hb⟩
     |false=>
      rw[AB (by simp)];have hl:=GV pl.nd pl.st h9;rw[AF]at hl;refine Fv rfl rfl rfl (C8 eP (by omega)) ?_;have hn:ze P S=none:=by cases e:ze P S with|none=>rfl|some d=>rw[e]at hb;cases hb
      have hput:BI P S (.int (done.length:Nat))=P++[(S,.int (done.length:Nat))]:=by unfold BI;rw[hn]
      refine ⟨⟨_,rfl⟩,part++[S],rs,_,rfl,by rw[<-hp];simp,?_,p2 hb⟩;rw[hput,List.set_append_right _ _ (AG _)];simp
   .rintro Y M' ⟨⟨y4,rfl⟩,part,rs,P,er,hp,rfl,pl⟩;have:rs=[]:=by cases rs with|nil=>rfl|cons _ _=>cases er
    subst this;rw[By]at hp;subst hp;exact ⟨zo,⟨_,_,_,rfl⟩,done++[part],rest,P,by rw[AN];rfl,by rw[<-hd];simp,rfl,pl⟩
 .rintro Y M' ⟨⟨y2,y3,y4,rfl⟩,done,rest,P,er,hd,rfl,pl⟩;have:rest=[]:=by
   cases rest with
   |nil=>rfl
   |cons L rest=>rw[AY]at er;unfold G0 at er;rw[NQ]at er;cases er
  subst this;rw[By]at hd;subst hd;refine ⟨zo,?_⟩;rw[zQ];exact zc rfl ⟨P,rfl,rfl,pl⟩
noncomputable def DC (zA:Ya) (l:Nat) (LL:List (List (List Int))) (S:Ye) (last:Int):Bool:=(BN l).all λg=>match plc LL (setR zA S g) with|some k=>decide ((k:Int)<=last)|none=>false
def RJ (m:IsM zA l) (h9:zA.length<=9) (hl9:l<=1000) (pl:Pl zA P LL) (s:IsS zA S) (eP:M[j]?=some (dT P)) :
  Ok (Ag 7 Jb [mD zA,tI S,.ref j,.int last] M) λd M'=>d=.bl (DC zA l LL S last) /\ ∃ us,M'=M++us:=by
 rw[BG];unfold Jb;show OkS (zM _ _ [some (mD zA),some (tI S),some (.ref j),some (.int last),none,none,none] M) _;have hjl:j<M.length:=(AI.mp eP).1;have ec:zn [5] (zt (zD (toD (fB zV (zE (fOp kIx (zC 0) (fC (.int 0))) zJ))) zG)) (gN 5) zf (zO HF (zD (toD (zC 0)) (zD (toD (zC 1)) (zD (toD (zC 5)) zG)))) [some (mD zA),some (tI S),some (.ref j),some (.int last),none,none,none] M=some (.fl ((BN l).map λg=>tI (setR zA S g)),M):=by
  refine Em (gd:=none) (BN l) D.int (λg=>tI (setR zA S g)) ?_ trivial (by unfold BN;simp;omega) λg hg=>⟨_,rfl,zp (zg rfl (zg rfl (zU rfl))) (dQ m (by omega) s (Lh hg).1 (Lh hg).2)⟩;rw[CV (Qm m rfl) (by omega) (by omega),CK,<-JL];unfold BN;rw[BD];rfl
 rw[zL,zi];refine zF ec (zr ?_);rw[zQ];have eg:(M++[MO.lst ((BN l).map λg=>tI (setR zA S g))])[M.length]?=some (.lst ((BN l).map λg=>tI (setR zA S g))):=zq _ _;have eP':(M++[MO.lst ((BN l).map λg=>tI (setR zA S g))])[j]?=some (dT P):=by rw[Ai hjl];exact eP
 have hM:∃ us,M++[MO.lst ((BN l).map λg=>tI (setR zA S g))]=M++us:=⟨_,rfl⟩;generalize M++[MO.lst ((BN l).map λg=>tI (setR zA S g))]=M1 at eg eP' hM;show OkS (zv _ [some (mD zA),some (tI S),some (.ref j),some (.int last),some (.ref M.length),none,none] M1) _;have e2:zn [6] (AU (zC 4)) (gN 6) zf (Bu (fOp (Ci false) (zC 6) (zC 2)) (fOp kLe (fOp A9 (zC 2) (zC 6)) (zC 3))) [some (mD zA),some (tI S),some (.ref j),some (.int last),some (.ref M.length),none,none] M1=some (.fl ((BN l).map λg=> .bl (match plc LL (setR zA S g) with|some k=>decide ((k:Int)<=last)|none=>false)),M1):=by
  refine Em (BN l) (λg=>tI (setR zA S g)) _ (DF (x:=.dat (.ref M.length)) rfl (zh eg)) (.inl eg) (by unfold BN;simp;omega) λg hg=>⟨_,rfl,?_⟩;have hl:=pl.lk (setR zA S g);have e3:=DX (neg:=false) (g:=setR zA S g) eP';cases hp:plc LL (setR zA S g) with
  |none=>
   rw[hp]at hl;have hl':ze P (setR zA S g)=none:=hl;rw[hl']at e3;exact Dh (a:=false) (b:=true) (zI rfl rfl e3) λz=>by cases z
  |some k=>
   rw[hp]at hl;have hl':ze P (setR zA S g)=some (.int (k:Nat)):=hl;rw[hl']at e3;have e4:=Dh (a:=true) (b:=decide ((k:Int)<=last)) (f:=fOp (Ci false) (zC 6) (zC 2)) (g:=fOp kLe (fOp A9 (zC 2) (zC 6)) (zC 3)) (Y:=(Bi [6] [some (mD zA),some (tI S),some (.ref j),some (.int last),some (.ref M.length),none,none]).set 6 (some (tI (setR zA S g)))) (M:=M1) (zI rfl rfl e3) λ_=>zI (zI rfl rfl (Ft eP' hl')) rfl (zH (Ku.mpr ⟨rfl,rfl⟩));rw[Bool.true_and]at e4;exact e4
 rw[show ((BN l).map λg=>D.bl (match plc LL (setR zA S g) with|some k=>decide ((k:Int)<=last)|none=>false))=((BN l).map λg=>(match plc LL (setR zA S g) with|some k=>decide ((k:Int)<=last)|none=>false)).map D.bl by rw[BD];rfl]at e2;refine zc (Dk e2) ⟨?_,hM⟩;unfold DC;rw[Ld]
def Ux (m:IsM zA l) (h9:zA.length<=9) (hl9:l<=1000) (pl:Pl zA P LL) (s:IsS zA S) (wf:∀ (j:Nat) u,M[j]?=some u->MO.und M.length u=true) (eP:M[j]?=some (dT P)) :
  GH [mD zA,tI S,.ref j,.int last] M=some (.bl (DC zA l LL S last),M):=by
 unfold GH;exact Lac.EN wf rfl (RJ m h9 hl9 pl s eP)
end
open Lac (dT Br ze BI DX C8 Ft Ck DP IL EN IJ)
def eO (h:n<=16000000):n<=sizeLine:=BA h (by decide)
def V3 {α β:Type} (as:List α) (enc:α->D) (bs:α->List β) (enc2:β->D) (out:α->β->D) (B:Nat)
  (hi:fi Y M=some (as.map enc,none,M)) (hB:∀ a∈as,(bs a).length<=B) (hz:as.length*B<=16000000)
  (he:∀ a∈as,∃ σ1,fg (enc a) (Bi own Y)=some σ1/\fi2 σ1 M=some ((bs a).map enc2,none,M) /\ ∀ b∈bs a,∃ σ2,fg2 (enc2 b) (Bi own2 σ1)=some σ2/\te σ2 M=some (.dat (out a b),M)) :
  GX own own2 fi fg zf fi2 fg2 zf te Y M=some (.fl (as.flatMap λa=>(bs a).map (out a)),M):=by
 have key:∀ (r:List α) (acc:List D),(∀ a∈r,a∈as)->acc.length+r.length*B<=16000000->El fg zf fi2 own2 fg2 zf te (Bi own Y) (as.map enc) none (r.map enc) acc M=some (acc++r.flatMap λa=>(bs a).map (out a),M):=by
  intro r;induction r with
  |nil=>
   intro acc _ _;rw[List.map_nil];unfold El;rw[AB (show B6 none (as.map enc) M from trivial)];simp
  |cons a r ih=>
   intro acc hs hl;have ha:=hs a Ah;obtain ⟨σ1,e1,e2,e3⟩:=he a ha;have hb:=hB a ha;rw[CS,Nat.add_mul]at hl;rw[AY];unfold El;rw[AB (show B6 none (as.map enc) M from trivial),e1];dsimp only;rw[show zf σ1 M=some (true,M)from rfl];dsimp only;rw[e2];dsimp only;rw[AB (eO (by rw[AF];omega)),IJ enc2 (out a) (λ_=>true) (bs a) (λb hb=>let ⟨σ2,q1,q2⟩:=e3 b hb;⟨σ2,q1,rfl,λ_=>q2⟩)];dsimp only;rw[ih _ (λb hb=>hs b (BS _ hb)) (by rw[AN,AF];have:=List.length_filter_le (λ_=>true) (bs a);omega)];rw[List.flatMap_cons,DJ,List.filter_eq_self.mpr (λ_ _=>rfl)]
 unfold GX;rw[hi];dsimp only;rw[key as [] (λ_ h=>h) (by simpa using hz)];simp
def bL (a:Ye):(a.map D.int).all (BX 0)=true:=by
 rw[Ae];intro x hx;obtain ⟨i,_,rfl⟩:=AV.mp hx;rfl
def HM (p:Ye):BX 1 (tI p)=true:=bL p
def LA (h:tI p=tI q):p=q:=(List.map_inj_right (f:=D.int) (λ_ _ h=>D.int.inj h)).mp (D.tup.inj h)
def Qk {ps:Ya} (h:Az M y=some (ps.map tI)):Ed neg (.dat (tI p)) y M=some (.dat (.bl (nb neg (decide (p∈ps)))),M):=by
 have ht:(ps.map tI).all (BX 1)=true:=by
  rw[Ae];intro x hx;obtain ⟨q,_,rfl⟩:=AV.mp hx;exact HM q
 have he:((ps.map tI).any λe=>BP 1 e (tI p))=decide (p∈ps):=by
  rw[En,List.any_eq_true,decide_eq_true_iff];constructor
  .rintro ⟨x,hx,e⟩;obtain ⟨q,hq,rfl⟩:=AV.mp hx;have:=RK 1 _ _ (HM q) (HM p) e;rw[<-LA this];exact hq
  .intro hp;exact ⟨tI p,AV.mpr ⟨p,hp,rfl⟩,MA 1 _ (HM p)⟩
 unfold Ed;dsimp only;rw[h];dsimp only;rw[HM,ht,he];rfl
noncomputable def DO (zA:Ya) (l:Nat) (LL:List (List (List Int))):Nat->List (List (List Int))->Bool
 |_,[]=>true
 |n,L::r=>(L.all λS=>DC zA l LL S ((n:Int)+1))&&DO zA l LL (n+1) r
noncomputable def shB (zA:Ya) (l:Nat) (R:Ye) (LL:List (List (List Int))) (closed:Bool):Bool:=match LL with
 |[]=> !closed
 |L0::_=>decide (R∈L0)&&DO zA l LL 0 (if closed then LL else LL.take (LL.length-1))
def KZ (zA:Ya) (LL:List (List (List Int))):Prop:=(∀ L∈LL,∀ S∈L,IsS zA S)/\LL.length<=2000 /\ ∀ L∈LL,L.length<=8000
section
variable {zA:Ya} {l:Nat} {R:Ye}
theorem N3 (LL:List (List (List Int))):∀ (n:Nat) (as:List (List (List Int))),((((List.range as.length).zip as).flatMap λq=>q.2.map λS=>DC zA l LL S (((n+q.1:Nat):Int)+1)).all id)=DO zA l LL n as
 |n,[]=>rfl
 |n,L::r=>by
  unfold DO;rw[<-N3 LL (n+1) r,CS,List.range_succ_eq_map,List.zip_cons_cons,List.flatMap_cons,List.all_append,List.zip_map_left,List.flatMap_map];congr 1
  .rw[Ld];rfl
  .congr 2;funext q;show List.map (λS=>DC zA l LL S (((n+(q.1+1):Nat):Int)+1)) q.2=_;rw[show n+(q.1+1)=(n+1)+q.1 by omega]
end
open Lac (dT Br ze BI DX C8 Ft Ck DP IL EN IJ)
section
variable {zA:Ya} {l:Nat} {R:Ye}
def Nc (nd:(P.map (·.1)).Nodup) (h:q∈P):ze P q.1=some q.2:=by
 induction P with
 |nil=>cases h
 |cons a r ih=>
  rw[AY,List.nodup_cons]at nd;unfold ze;rcases AO.mp h with e|e
  .rw[e,AB rfl]
  .rw[AD λz=>nd.1 (by rw[z];exact List.mem_map_of_mem (f:=(·.1)) e)];exact ih nd.2 e
def Pl.und (h:Pl zA P LL) (n:Nat):MO.und n (dT P)=true:=by
 have key:((Br P).all λp=>D.und n p.1&&D.und n p.2)=true:=by
  rw[Ae];intro p hp;unfold Br at hp;obtain ⟨q,hq,rfl⟩:=AV.mp hp;have e:=Nc h.nd hq;rw[h.lk]at e;obtain ⟨k,_,e⟩:=Option.map_eq_some_iff.mp e;rw[Am];refine ⟨HG _,?_⟩;show D.und n q.2=true;rw[<-e];rfl
 exact key
def TF (wf:∀ (j:Nat) u,M[j]?=some u->MO.und M.length u=true) (h:∀ n,MO.und n u=true):∀ (j:Nat) v,(M++[u])[j]?=some v->MO.und (M++[u]).length v=true:=by
 intro j v e;by_cases hj:j<M.length
 .rw[Ai hj]at e;exact Qy (by simp) (wf j v e)
 .rw[EG (by omega)]at e;cases hk:j-M.length with
  |zero=>rw[hk]at e;cases e;exact h _
  |succ k=>rw[hk]at e;simp at e
def VW (m:IsM zA l) (h9:zA.length<=9) (hl9:l<=1000) (hL:KZ zA LL) (wf:∀ (j:Nat) u,M[j]?=some u->MO.und M.length u=true) :
  Ok (Ag 9 Gf [mD zA,tI R,shT LL,.bl closed] M) λd M'=>d=.bl (shB zA l R LL closed) /\ ∃ us,M'=M++us:=by
 obtain ⟨hs,hz1,hz2⟩:=hL;rw[BG];unfold Gf;show OkS (zM _ _ [some (mD zA),some (tI R),some (shT LL),some (.bl closed),none,none,none,none,none] M) _;have vd:Vd M (shT LL):=by
  unfold shT Vd;refine ⟨by rw[AF];omega,Vds.of λd hd=>?_⟩;obtain ⟨L,hL,rfl⟩:=AV.mp hd;unfold lvT Vd;refine ⟨by rw[AF];have:=hz2 L hL;omega,Vds.of λd hd=>?_⟩;obtain ⟨S,hS,rfl⟩:=AV.mp hd;unfold tI Vd;refine ⟨by rw[AF];have:=(hs L hL S hS).len;omega,Vds.of λd hd=>?_⟩;obtain ⟨i,_,rfl⟩:=AV.mp hd;unfold Vd;trivial
 have vds:∀ d∈LL.map lvT,Vd M d:=by
  have hh:Vd M (.tup (LL.map lvT)):=vd;unfold Vd at hh;exact hh.2.mem
 have hall:fB C4 (zE (zn [4] (AU (zC 2)) (gN 4) zf (zO FJ (zD (toD (zC 0)) (zD (toD (zC 4)) zG)))) zJ) [some (mD zA),some (tI R),some (shT LL),some (.bl closed),none,none,none,none,none] M=some (.dat (.bl true),M):=by
  have e:=Dk (f:=zn [4] (AU (zC 2)) (gN 4) zf (zO FJ (zD (toD (zC 0)) (zD (toD (zC 4)) zG)))) (Y:=[some (mD zA),some (tI R),some (shT LL),some (.bl closed),none,none,none,none,none]) (M:=M) (bs:=(LL.map lvT).map (C1 zA)) (by
   rw[BD];exact GR (λx=> .bl (C1 zA x)) rfl (by rw[AF];omega) λx hx=>⟨_,rfl,zp (zg rfl (zU rfl)) (Pe (vds x hx))⟩)
  rw[e];have:((LL.map lvT).map (C1 zA)).all id=true:=by
   rw[Ae];intro b hb;rw[BD]at hb;obtain ⟨L,hL,rfl⟩:=AV.mp hb;exact FQ ⟨L,rfl,hs L hL⟩
  rw[this]
 have nt:∀ {f:FE} {Y:Sd} {M:Mem} {k:Bool},f Y M=some (.dat (.bl k),M)->BM (tst f) Y M=some (!k,M):=λ{f Y M k} e=>zH (Mb.mpr (zF (Au e) ⟨rfl,rfl⟩));refine EY (by unfold BB;rw[nt (isV (k:=true) rfl rfl (by decide))];exact nt hall) ?_;have el:=Bo (f:=zC 2) (Y:=[some (mD zA),some (tI R),some (shT LL),some (.bl closed),none,none,none,none,none]) (M:=M) (x:=.dat (shT LL)) rfl za;rw[AF]at el;have ez:tst (fOp kEq (fB zV (zE (zC 2) zJ)) (fC (.int 0))) [some (mD zA),some (tI R),some (shT LL),some (.bl closed),none,none,none,none,none] M=some (decide ((LL.length:Int)=0),M):=Au (zI el rfl (zH (B3.mpr ⟨rfl,rfl⟩)));cases LL with
 |nil=>
  refine DA ez ?_;exact zc (d:=.bl (!closed)) (by unfold DY;rw[show zC 3 [some (mD zA),some (tI R),some (shT []),some (.bl closed),none,none,none,none,none] M=some (.dat (.bl closed),M)from rfl]) ⟨rfl,[],by simp⟩
 |cons L0 rest=>
  refine EY (ez.trans (by rw[AM (by simp;omega)])) ?_;have ein:tst (fOp (Ed true) (zC 1) (fOp kIx (zC 2) (fC (.int 0)))) [some (mD zA),some (tI R),some (shT (L0::rest)),some (.bl closed),none,none,none,none,none] M=some (!(decide (R∈L0)),M) :=
   Au (k:=!(decide (R∈L0))) (zI (x:=.dat (tI R)) (y:=.dat (lvT L0)) rfl (zI (x:=.dat (shT (L0::rest))) (y:=.dat (.int 0)) rfl rfl (BR (xs:=(L0::rest).map lvT) (d:=lvT L0) za (C6 (j:=0) rfl))) (Qk (neg:=true) (p:=R) (ps:=L0) za))
  cases hR:decide (R∈L0) with
  |false=>
   rw[hR]at ein;refine DA ein ?_;exact zc (d:=.bl false) rfl ⟨by unfold shB;dsimp only;rw[hR];rfl,[],by simp⟩
  |true=>
  rw[hR]at ein;refine EY ein ?_;rw[zL,zi,Ek];refine zF (zU rfl) ?_;refine (Xb h9 hs).mono ?_;rintro d M1 ⟨P,rfl,rfl,pl⟩;rw[zS,zQ];have wf1:∀ (j:Nat) u,(M++[dT P])[j]?=some u->MO.und (M++[dT P]).length u=true:=TF wf pl.und;have eP:(M++[dT P])[M.length]?=some (dT P):=zq _ _;have hM:∃ us,M++[dT P]=M++us:=⟨_,rfl⟩;generalize M++[dT P]=M1 at wf1 eP hM;have key:∀ (as:List (List (List Int))),(∀ L∈as,L∈L0::rest)->as.length<=2000->fB C4 (zE (GX [8,4,7] [7] (Fh (zC 6)) (Ei 8 4) zf (AU (zC 4)) (gN 7) zf (zO GH (zD (toD (zC 0)) (zD (toD (zC 7)) (zD (toD (zC 5)) (zD (toD (fOp zY (zC 8) (fC (.int 1)))) zG)))))) zJ) [some (mD zA),some (tI R),some (shT (L0::rest)),some (.bl closed),none,some (.ref M.length),some (shT as),none,none] M1=some (.dat (.bl (DO zA l (L0::rest) 0 as)),M1):=by
   intro as ha hn;rw[<-N3];refine Dk ?_;have e:=V3 (own:=[8,4,7]) (own2:=[7]) (fi:=Fh (zC 6)) (fi2:=AU (zC 4)) (fg:=Ei 8 4) (fg2:=gN 7) (te:=zO GH (zD (toD (zC 0)) (zD (toD (zC 7)) (zD (toD (zC 5)) (zD (toD (fOp zY (zC 8) (fC (.int 1)))) zG))))) (Y:=[some (mD zA),some (tI R),some (shT (L0::rest)),some (.bl closed),none,some (.ref M.length),some (shT as),none,none]) (M:=M1) ((List.range as.length).zip as) (λq=> .tup [.int (q.1:Nat),lvT q.2]) (λq=>q.2) tI (λq S=> .bl (DC zA l (L0::rest) S (((0+q.1:Nat):Int)+1))) 8000 ?_ ?_ ?_ ?_
   .rw[e,List.map_flatMap];congr 3;congr 1;funext q;rw[BD];rfl
   .unfold Fh;rw[show zC 6 [some (mD zA),some (tI R),some (shT (L0::rest)),some (.bl closed),none,some (.ref M.length),some (shT as),none,none] M1=some (.dat (shT as),M1)from rfl];dsimp only;rw[show Az M1 (.dat (shT as))=some (as.map lvT)from za];show some (Dp (as.map lvT),none,M1)=_;unfold Dp;rw[AF,List.zip_map_right,BD];rfl
   .intro q hq;exact hz2 _ (ha _ (List.of_mem_zip hq).2)
   .rw[List.length_zip,List.length_range];omega
   .intro q hq;refine ⟨_,rfl,DF (x:=.dat (lvT q.2)) rfl za,λS hS=>⟨_,rfl,?_⟩⟩;exact zp (zg rfl (zg rfl (zg rfl (zU (zI rfl rfl (zH (De.mpr ⟨rfl,rfl⟩))))))) (by rw[Nat.zero_add];exact Ux m h9 hl9 pl (hs _ (ha _ (List.of_mem_zip hq).2) S hS) wf1 eP)
  cases closed with
  |true=>
   refine Cj (d:=shT (L0::rest)) rfl ?_;refine zc (key (L0::rest) (λ_ h=>h) hz1) ⟨?_,hM⟩;unfold shB;dsimp only;rw[hR];rfl
  |false=>
   refine Cj (d:=shT ((L0::rest).take rest.length)) ?_ ?_
   .unfold vIf;rw[show tst (zC 3) ([some (mD zA),some (tI R),some (shT (L0::rest)),some (.bl false),none,none,none,none,none].set 5 (some (.ref M.length))) M1=some (false,M1)from rfl];dsimp only;rw[slE (xs:=(L0::rest).map lvT) (lo:=none) (hi:=some (-1)) rfl rfl rfl,OC (by simp)];unfold shT;rw[List.map_take];simp
   .refine zc (key _ (λ_ h=>Di h) (by rw[BF];omega)) ⟨?_,hM⟩;unfold shB;dsimp only;rw[hR];rfl
end
open Lac (dT Br ze BI DX C8 Ft Ck DP IL EN IJ)
section
variable {zA:Ya} {l:Nat} {R:Ye}
def HH (zA:Ya):D->Prop:=λd=>∃ LL:List (List (List Int)),d=shT LL /\ ∀ L∈LL,∀ S∈L,IsS zA S
def R6 (hd:Vd M d) (hn:¬ HH zA d) :
  Ok (Ag 9 Gf [mD zA,tI R,d,.bl closed] M) λx M'=>x=.bl false /\ ∃ us,M'=M++us:=by
 rw[BG];unfold Gf;show OkS (zM _ _ [some (mD zA),some (tI R),some d,some (.bl closed),none,none,none,none,none] M) _;have nt:∀ {f:FE} {Y:Sd} {M:Mem} {k:Bool},f Y M=some (.dat (.bl k),M)->BM (tst f) Y M=some (!k,M):=λ{f Y M k} e=>zH (Mb.mpr (zF (Au e) ⟨rfl,rfl⟩));obtain ⟨t,e,q,_⟩:=hd.ty;refine DA ?_ (zc (d:=.bl false) rfl ⟨rfl,[],by simp⟩);cases d with
 |tup ds=>
  have hh:Vd M (.tup ds):=hd;unfold Vd at hh;have hf:(ds.map (C1 zA)).all id=false:=by
   cases hb:(ds.map (C1 zA)).all id with
   |false=>rfl
   |true=>obtain ⟨LL,rfl,hL⟩:=Nx hb;exact absurd ⟨LL,rfl,hL⟩ hn
  have ea:=Dk (f:=zn [4] (AU (zC 2)) (gN 4) zf (zO FJ (zD (toD (zC 0)) (zD (toD (zC 4)) zG)))) (Y:=[some (mD zA),some (tI R),some (.tup ds),some (.bl closed),none,none,none,none,none]) (M:=M) (bs:=ds.map (C1 zA)) (by
   rw[BD];exact GR (λx=> .bl (C1 zA x)) rfl hh.1 λx hx=>⟨_,rfl,zp (zg rfl (zU rfl)) (Pe (hh.2.mem x hx))⟩)
  rw[hf]at ea;unfold BB;rw[nt (k:=true) (by rw[Cc rfl e,q];rfl)];exact nt ea
 |_=>
  unfold BB;rw[nt (k:=false) (by rw[Cc rfl e,q];rfl)];rfl
noncomputable def Eg (zA:Ya) (l:Nat) (R:Ye) (d:D) (closed:Bool):Bool:=dc (∃ LL,d=shT LL/\(∀ L∈LL,∀ S∈L,IsS zA S)/\shB zA l R LL closed=true)
def Xc (h:lvT p=lvT q):p=q:=(List.map_inj_right (f:=tI) (λ_ _ h=>LA h)).mp (D.tup.inj h)
def S3 (h:shT p=shT q):p=q:=(List.map_inj_right (f:=lvT) (λ_ _ h=>Xc h)).mp (D.tup.inj h)
def NS (h:∀ L∈LL,∀ S∈L,IsS zA S):Eg zA l R (shT LL) closed=shB zA l R LL closed:=by
 unfold Eg;cases hb:shB zA l R LL closed with
 |true=>exact FQ ⟨LL,rfl,h,hb⟩
 |false=>
  refine FX ?_;rintro ⟨K,e,_,z⟩;rw[<-S3 e,hb]at z;cases z
def Po (h:¬ HH zA d):Eg zA l R d closed=false:=by
 unfold Eg;refine FX ?_;rintro ⟨K,e,s,_⟩;exact h ⟨K,e,s⟩
def aY (m:IsM zA l) (h9:zA.length<=9) (hl9:l<=1000) (wf:∀ (j:Nat) u,M[j]?=some u->MO.und M.length u=true) (hd:Vd M d)
  (hz:∀ LL,d=shT LL->LL.length<=2000 /\ ∀ L∈LL,L.length<=8000):Hm [mD zA,tI R,d,.bl closed] M=some (.bl (Eg zA l R d closed),M):=by
 unfold Hm;refine EN wf rfl ?_;by_cases h:HH zA d
 .obtain ⟨LL,rfl,s⟩:=h;rw[NS s];exact VW m h9 hl9 ⟨s,hz LL rfl⟩ wf
 .rw[Po h];exact R6 hd h
end
section
variable {M M':Mem} {j n l:Nat} {rs:Yj} {zA:Ya}
def Rw.other (h:Rw M j rs zA n l) (h1:p≠j) (h2:p∉rs):Rw (M.set p u) j rs zA n l:=by
 refine ⟨by rw[A7 h1];exact h.at_,h.len,λi r e=>?_,h.nd,h.hj,h.ok⟩;obtain ⟨w,e1,e2⟩:=h.row i r e;exact ⟨w,e1,by rw[A7 (λz=>h2 (by rw[z];exact Bd e))];exact e2⟩
def Rw.out (h:Rw M j rs zA n l) (hp:M.length<=p):p≠j/\p∉rs:=by
 refine ⟨λz=>?_,λz=>?_⟩
 .have:=(AI.mp h.at_).1;omega
 .obtain ⟨i,hi⟩:=List.getElem?_of_mem z;obtain ⟨w,_,e2⟩:=h.row i p hi;have:=(AI.mp e2).1;omega
def Rw.push (h:Rw M j rs zA n l) (us:Mem):Rw (M++us) j rs zA n l:=h.keep λi hi=>Ai hi
def Rw.refs (h:Rw M j rs zA n l):∀ r∈rs,r<M.length:=λr hr=>by
 obtain ⟨i,hi⟩:=List.getElem?_of_mem hr;obtain ⟨w,_,e2⟩:=h.row i r hi;exact (AI.mp e2).1
end
def WA (g:Gen M0 n k q0) (nw:Nw M0 M n k q) (rw_:Rw M j rs zA N l) (hN:zA.length=N) (h0:0<N) (h1:N<=1000) (hl0:0<l) (hl:l<=1000) (lo:M0.length<=j) (lr:∀ r∈rs,M0.length<=r) :
  Ok (Hz [.ref j,.bl b] M) λd M'=>d=.non/\Nw M0 M' n k q/\M.length<=M'.length /\ ∃ rows',Rw M' j rs rows' N l/\rows'.length=N:=by
 unfold Hz;rw[BG];unfold Kg;show OkS (zM _ _ [some (.ref j),some (.bl b),none,none,none,none] M) _;rw[zL,Bp];refine ⟨_,_,_,CV (rw_.row0 (by omega) rfl) (by omega) (by omega),?_⟩;rw[CK];refine D2 (n:=l) (I:=λi Y M'=>(∃ y2 y3 y4,Y=[some (.ref j),some (.bl b),y2,y3,y4,none])/\Nw M0 M' n k q/\M.length<=M'.length /\ ∃ rows',Rw M' j rs rows' N l/\rows'.length=N) ?_ ?_ _ _ ⟨⟨_,_,_,rfl⟩,nw,AG _,zA,rw_,hN⟩
 .rintro i Y M1 hi ⟨⟨y2,y3,y4,rfl⟩,nw1,hM1,rows1,rw1,hr1⟩;refine ⟨_,rfl,?_⟩;show OkS (zM _ _ [some (.ref j),some (.bl b),some (.int (i:Nat)),y3,y4,none] M1) _;rw[zL,zi];refine GP.mpr (Ca.mpr ⟨zb (by simp),zr ?_⟩);rw[zQ];have nw2:=nw1.trans (nw1.gen.lst [] rfl);have rw2:=rw1.push [MO.lst ([]:List D)];obtain ⟨p1,p2⟩:=rw1.out (AG M1.length);have hp0:M0.length<=M1.length:=nw1.len;have e2:(M1++[MO.lst ([]:List D)])[M1.length]?=some (.lst []):=zq _ _;have hM2:M.length<=(M1++[MO.lst ([]:List D)]).length:=by rw[AN];omega
  generalize M1++[MO.lst ([]:List D)]=M2 at nw2 rw2 e2 hM2;generalize M1.length=p at p1 p2 hp0 e2;show OkS (zM _ _ [some (.ref j),some (.bl b),some (.int (i:Nat)),some (.ref p),y4,none] M2) _;rw[zL,Bp];refine ⟨_,_,_,CV (rw2.len0 rfl) (by omega) (by omega),?_⟩;rw[CK,hr1];refine D2 (n:=N) (I:=λt Y M'=>(∃ y4,Y=[some (.ref j),some (.bl b),some (.int (i:Nat)),some (.ref p),y4,none])/\Nw M0 M' n k q/\M.length<=M'.length/\Rw M' j rs rows1 N l /\ ∃ c:List Int,M'[p]?=some (.lst (c.map D.int))/\c.length=t /\ ∀ x∈c,0<=x/\x<(N:Int)) ?_ ?_ _ _ ⟨⟨_,rfl⟩,nw2,hM2,rw2,[],e2,rfl,λ_ h=>by cases h⟩
  .rintro t Y M3 ht ⟨⟨y4,rfl⟩,nw3,hM3,rw3,c,e3,hc,hx⟩;refine ⟨_,rfl,?_⟩;show OkS (Al _ [some (.ref j),some (.bl b),some (.int (i:Nat)),some (.ref p),some (.int (t:Nat)),none] M3) _;rw[C0];obtain ⟨ev,v0,v1⟩:=rw3.ix (Y:=[some (.ref j),some (.bl b),some (.int (i:Nat)),some (.ref p),some (.int (t:Nat)),none]) (f1:=zC 0) (f2:=zC 4) (f3:=zC 2) (i:=t) (g:=i) rfl rfl rfl (by omega) (by omega) (by omega) (by omega);generalize BH rows1 t i=v at ev v0 v1;have m0:0<=v % ((t:Int)+1):=Int.emod_nonneg _ (by omega);have m1:v % ((t:Int)+1)<(t:Int)+1:=Fn _ (by omega);refine DB.mpr (CM.mpr ⟨_,rfl,⟨_,CN e3⟩,?_⟩);refine zF (zg (d:=.int (v % ((t:Int)+1))) (zI ev (zI (x:=.dat (.int (t:Nat))) rfl rfl rfl) (EK (by omega))) (zU (d:=.int (t:Nat)) rfl)) ?_;refine zF (LF e3 m0 (by rw[AF];omega) (by rw[AF];omega)) ?_;have hpl:p<M3.length:=(AI.mp e3).1;refine ⟨⟨_,rfl⟩,nw3.setB g hp0 ?_,by rw[CP];exact hM3,rw3.other p1 p2,c.take (v % ((t:Int)+1)).toNat++[(t:Int)]++c.drop (v % ((t:Int)+1)).toNat,?_,by simp;omega,λx hx'=>?_⟩
   .show D.unds _ _=true;rw[<-List.map_take,<-List.map_drop,Js,Js,DE,DE];rfl
   .rw[B9 hpl];simp
   .simp only[AS,BC]at hx';rcases hx' with (w|w)|w
    .exact hx x (Di w)
    .omega
    .exact hx x (EL w)
  .rintro Y M3 ⟨⟨y4,rfl⟩,nw3,hM3,rw3,c,e3,hc,hx⟩;rw[zQ,Bp];refine ⟨_,_,_,CV (rw3.len0 rfl) (by omega) (by omega),?_⟩;rw[CK,hr1];refine D2 (n:=N) (I:=λt Y M'=>(∃ y4,Y=[some (.ref j),some (.bl b),some (.int (i:Nat)),some (.ref p),y4,none])/\Nw M0 M' n k q/\M.length<=M'.length/\(∃ rows',Rw M' j rs rows' N l/\rows'.length=N)/\M'[p]?=some (.lst (c.map D.int))) ?_ ?_ _ _ ⟨⟨_,rfl⟩,nw3,hM3,⟨rows1,rw3,hr1⟩,e3⟩
   .rintro t Y M4 ht ⟨⟨y4,rfl⟩,nw4,hM4,⟨rows4,rw4,hr4⟩,e4⟩;refine ⟨_,rfl,?_⟩;show OkS (EB _ _ _ [some (.ref j),some (.bl b),some (.int (i:Nat)),some (.ref p),some (.int (t:Nat)),none] M4) _;rw[MQ];have hct:t<c.length:=by omega
    refine zF (a:=.dat (.int c[t])) (zI (x:=.dat (.ref p)) (y:=.dat (.int (t:Nat))) rfl rfl (BR (zh e4) (Km (by rw[Af,AL hct];rfl)))) ?_;rw[zS];have hrs:t<rs.length:=by rw[rw4.len];omega
    refine zF (a:=.dat (.ref rs[t])) (zI (x:=.dat (.ref j)) (y:=.dat (.int (t:Nat))) rfl rfl (BR (zh rw4.at_) (Km (by rw[Af,AL hrs];rfl)))) ?_;refine CM.mpr ⟨.int (i:Nat),rfl,?_⟩;rw[zS];obtain ⟨x0,x1⟩:=hx c[t] (Ab hct);obtain ⟨w,f1,f2,rw5⟩:=rw4.put (g:=i) (AL hrs) x0 x1;have hwl:=(rw4.ok w (Bd f1)).1;refine ⟨_,Lv f2 (by rw[AF];omega),?_⟩;rw[<-List.map_set];have hrt:rs[t]∈rs:=Ab hrs;refine ⟨⟨_,rfl⟩,nw4.setB g (lr _ hrt) (DE _ _),by rw[CP];exact hM4,⟨_,rw5,by rw[CP];exact hr4⟩,?_⟩;rw[A7 (λz=>p2 (by rw[<-z];exact hrt))];exact e4
   .rintro Y M4 ⟨⟨y4,rfl⟩,nw4,hM4,h4,e4⟩;exact ⟨⟨_,_,_,rfl⟩,nw4,hM4,h4⟩
 .rintro Y M1 ⟨⟨y2,y3,y4,rfl⟩,nw1,hM1,rows1,rw1,hr1⟩;rw[zQ,BQ];refine zF (a:=b) (Au rfl) ?_;cases b with
  |false=>
   rw[AD Ay,Bx];exact ⟨rfl,nw1,hM1,rows1,rw1,hr1⟩
  |true=>
   rw[AB rfl];refine Cj (d:=.int ((l:Int)-1)) (zI (rw1.row0 (by omega) rfl) rfl rfl) ?_;show OkS (EB _ _ _ [some (.ref j),some (.bl true),y2,y3,y4,some (.int ((l:Int)-1))] M1) _;rw[MQ];obtain ⟨ev,v0,v1⟩:=rw1.ix (Y:=[some (.ref j),some (.bl true),y2,y3,y4,some (.int ((l:Int)-1))]) (f1:=zC 0) (f2:=fOp CU (fB zV (zE (zC 0) zJ)) (fC (.int 1))) (f3:=zC 5) (i:=(rows1.length:Int)-1) (g:=(l:Int)-1) rfl (zI (rw1.len0 rfl) rfl rfl) rfl (by omega) (by omega) (by omega) (by omega);generalize BH rows1 ((rows1.length:Int)-1) ((l:Int)-1)=v at ev v0 v1;refine zF ev ?_;rw[zS];have hrs:0<rs.length:=by rw[rw1.len];omega
   refine zF (a:=.dat (.ref rs[0])) (zI (x:=.dat (.ref j)) (y:=.dat (.int 0)) rfl rfl (BR (zh rw1.at_) (Km (k:=0) (by rw[Af,AL hrs];rfl)))) ?_;refine CM.mpr ⟨.int ((l:Int)-1),rfl,?_⟩;rw[zS];obtain ⟨w,f1,f2,rw5⟩:=rw1.put (g:=l-1) (AL hrs) v0 v1;have hwl:=(rw1.ok w (Bd f1)).1;rw[show (l:Int)-1=((l-1:Nat):Int) by omega];refine ⟨_,Lv f2 (by rw[AF];omega),?_⟩;rw[<-List.map_set];refine ⟨rfl,nw1.setB g (lr _ (Ab hrs)) (DE _ _),by rw[CP];exact hM1,_,rw5,by rw[CP];exact hr1⟩
def ZG {M:Mem} {j N l:Nat} {rs:Yj} {zA:Ya} (rw_:Rw M j rs zA N l) (hN:zA.length=N) (hl0:0<l) {room letter style:Int} (r0:0<=room) (r1:room<N) (a0:0<=letter) (a1:letter<l) :
  ∃ v,F9 [.ref j,.int room,.int letter,.int style] M=some (.int v,M)/\0<=v/\v<N:=by
 suffices h:Ok (F9 [.ref j,.int room,.int letter,.int style] M) λd M'=>∃ v,d=.int v/\M'=M/\0<=v/\v<N by
  obtain ⟨d,M',e,v,rfl,rfl,v0,v1⟩:=h;exact ⟨v,e,v0,v1⟩
 unfold F9;rw[BG];unfold Jt;show OkS (zM _ _ [some (.ref j),some (.int room),some (.int letter),some (.int style),none,none] M) _;refine Cj (rw_.len0 rfl) ?_;show OkS (zM _ _ [some (.ref j),some (.int room),some (.int letter),some (.int style),some (.int zA.length),none] M) _;obtain ⟨ec,c0,c1⟩:=rw_.ix (Y:=[some (.ref j),some (.int room),some (.int letter),some (.int style),some (.int zA.length),none]) (f1:=zC 0) (f2:=fC (.int 0)) (f3:=fC (.int 0)) (i:=0) (g:=0) rfl rfl rfl (by omega) (by omega) (by omega) (by omega);refine Cj ec ?_;generalize BH zA 0 0=cut at c0 c1;show OkS (zM _ _ [some (.ref j),some (.int room),some (.int letter),some (.int style),some (.int zA.length),some (.int cut)] M) _;generalize hσ:([some (.ref j),some (.int room),some (.int letter),some (.int style),some (.int zA.length),some (.int cut)]:Sd)=Y;have s0:zC 0 Y M=some (.dat (.ref j),M):=by rw[<-hσ];rfl
 have s1:zC 1 Y M=some (.dat (.int room),M):=by rw[<-hσ];rfl
 have s2:zC 2 Y M=some (.dat (.int letter),M):=by rw[<-hσ];rfl
 have s3:zC 3 Y M=some (.dat (.int style),M):=by rw[<-hσ];rfl
 have s4:zC 4 Y M=some (.dat (.int zA.length),M):=by rw[<-hσ];rfl
 have s5:zC 5 Y M=some (.dat (.int cut),M):=by rw[<-hσ];rfl
 have st:∀ i:Int,tst (fOp kEq (zC 3) (fC (.int i))) Y M=some (decide (style=i),M):=λi=>Au (zI s3 rfl (zH (B3.mpr ⟨rfl,rfl⟩)));have andE:∀ {a b:FT} {x y:Bool},a Y M=some (x,M)->b Y M=some (y,M)->BJ a b Y M=some (x&&y,M):=λ{a b x y} ha hb=>by
  unfold BJ;rw[ha];cases x <;> first|exact hb|rfl
 have lt5:tst (fOp kLt (zC 1) (zC 5)) Y M=some (decide (room<cut),M):=Au (zI s1 s5 (zH (G4.mpr ⟨rfl,rfl⟩)));have el:tst (fOp kEq (zC 2) (fC (.int 0))) Y M=some (decide (letter=0),M):=Au (zI s2 rfl (zH (B3.mpr ⟨rfl,rfl⟩)));obtain ⟨eg,g0,g1⟩:=rw_.ix (Y:=Y) s0 s1 s2 r0 (by omega) a0 a1;rw[zL,BQ];refine zF (andE (st 4) lt5) ?_;by_cases w4:style=4
 .by_cases wc:room<cut
  .rw[AB (by simp[w4,wc])];refine zc (zI eg s5 (EK (by omega))) ?_;rw[Fc];have:=Int.emod_nonneg (BH zA room letter) (show cut≠0 by omega);have:=Fn (BH zA room letter) (show 0<cut by omega);exact ⟨_,rfl,rfl,by omega,by omega⟩
  .rw[AD (by simp[wc]),Bx,zQ,zL,BQ];refine zF (st 4) ?_;rw[AB (by simp[w4])];refine zc (zI s5 (zI eg (zI s4 s5 rfl) (EK (by omega))) rfl) ?_;rw[Fc];have:=Int.emod_nonneg (BH zA room letter) (show (zA.length:Int)-cut≠0 by omega);have:=Fn (BH zA room letter) (show 0<(zA.length:Int)-cut by omega);exact ⟨_,rfl,rfl,by omega,by omega⟩
 .rw[AD (by simp[w4]),Bx,zQ,zL,BQ];refine zF (st 4) ?_;rw[AD (by simp[w4]),Bx,zQ,zL,BQ];refine zF (andE (st 5) el) ?_;by_cases w5:style=5
  .by_cases wl:letter=0
   .rw[AB (by simp[w5,wl])];refine zc (zI (zI s1 rfl rfl) s4 (EK (by omega))) ?_;rw[Fc];have:=Int.emod_nonneg (room+1) (show (zA.length:Int)≠0 by omega);have:=Fn (room+1) (show 0<(zA.length:Int) by omega);exact ⟨_,rfl,rfl,by omega,by omega⟩
   .rw[AD (by simp[wl]),Bx,zQ,zL,BQ];refine zF (st 5) ?_;rw[AB (by simp[w5])];obtain ⟨bb,eb⟩:∃ bb,Bu (fOp kEq (zC 2) (fC (.int 1))) (fOp kEq (zC 1) (fOp CU (zC 4) (fC (.int 1)))) Y M=some (.dat (.bl bb),M):=by
     have e1:fOp kEq (zC 2) (fC (.int 1)) Y M=some (.dat (.bl (decide (letter=1))),M):=zI s2 rfl (zH (B3.mpr ⟨rfl,rfl⟩));have e2:fOp kEq (zC 1) (fOp CU (zC 4) (fC (.int 1))) Y M=some (.dat (.bl (decide (room=(zA.length:Int)-1))),M):=zI s1 (zI s4 rfl rfl) (zH (B3.mpr ⟨rfl,rfl⟩));exact ⟨_,Dh e1 λ_=>e2⟩
    have e3:AQ (zD (toD (zC 1)) (zD (toD (fC (.int 0))) zG)) Y M=some (.fl [.int room,.int 0],M):=by
     unfold AQ;rw[zg s1 (zU (d:=.int 0) rfl)];dsimp only;rw[AB (zb (by simp))]
    have e4:fB Cd (zE (Bu (fOp kEq (zC 2) (fC (.int 1))) (fOp kEq (zC 1) (fOp CU (zC 4) (fC (.int 1))))) zJ) Y M=some (.dat (.int (if bb then 1 else 0)),M):=by rw[fB1 eb];rfl
    cases bb with
    |true=>exact zc (zI (r:=some (.dat (.int 0),M)) e3 e4 rfl) (by rw[Fc];exact ⟨_,rfl,rfl,by omega,by omega⟩)
    |false=>exact zc (zI (r:=some (.dat (.int room),M)) e3 e4 rfl) (by rw[Fc];exact ⟨_,rfl,rfl,by omega,by omega⟩)
  .rw[AD (by simp[w5]),Bx,zQ,zL,BQ];refine zF (st 5) ?_;rw[AD (by simp[w5]),Bx,zQ,zL,BQ];refine zF (st 6) ?_;by_cases w6:style=6
   .rw[AB (by simp[w6])];obtain ⟨eg,g0,g1⟩:=rw_.ix (Y:=Y) (f2:=fC (.int 0)) (i:=0) s0 rfl s2 (by omega) (by omega) a0 a1;exact zc eg (by rw[Fc];exact ⟨_,rfl,rfl,g0,g1⟩)
   .rw[AD (by simp[w6]),Bx,zQ];obtain ⟨eg,g0,g1⟩:=rw_.ix (Y:=Y) (f3:=fC (.int 0)) (g:=0) s0 s1 rfl r0 (by omega) (by omega) (by omega);exact zc eg ⟨_,rfl,rfl,g0,g1⟩
def YF {M:Mem} {n k q:Nat} (h:Gen M n k q) {own:Yj} {i:Nat} {f te:FE} {Y:Sd} {cnt:Nat} {lo hi:Int} (c1:cnt<=90000) (hf:f Y M=some (.dat (.int cnt),M))
  (ht:∀ (r:Nat) (M':Mem),r<cnt->Nw M M' n k (q+r)->M'.length=M.length->Ok (te ((Bi own Y).set i (some (.int r))) M') λx M''=>∃ v:Int,x=.dat (.int v)/\lo<=v/\v<hi/\Nw M' M'' n k (q+r+1)/\M''.length=M'.length) :
  Ok (zn own (zt (zD (toD f) zG)) (gN i) zf te Y M) λx M'=>(∃ c:List Int,x=.fl (c.map D.int)/\c.length=cnt /\ ∀ y∈c,lo<=y/\y<hi)/\Nw M M' n k (q+cnt)/\M'.length=M.length:=by
 refine HK.mpr ⟨_,_,_,CV hf (by omega) (by omega),by rw[HN];exact zb (by omega),?_⟩;rw[CK];refine Ok.mono (KU (n:=cnt) (I:=λj acc M2=>(∃ c:List Int,acc=c.map D.int/\c.length=j /\ ∀ y∈c,lo<=y/\y<hi)/\Nw M M2 n k (q+j)/\M2.length=M.length) ?_ ⟨⟨[],rfl,rfl,λ_ h=>by cases h⟩,Nw.refl h,rfl⟩) ?_
 .rintro j acc M2 hj ⟨⟨c,rfl,hcl,hc⟩,nx,hl⟩;refine ⟨_,rfl,?_⟩;refine Ok.mono (ht j M2 hj nx hl) ?_;rintro x M3 ⟨v,rfl,v0,v1,nx3,hl3⟩;rw[zS];refine ⟨⟨c++[v],by simp,by simp[hcl],λz hz=>?_⟩,nx.trans nx3,hl3.trans hl⟩;rcases AS.mp hz with q|q
  .exact hc z q
  .have:z=v:=by simpa using q
   subst this;exact ⟨v0,v1⟩
 .rintro ys M2 ⟨⟨c,rfl,hcl,hc⟩,nx,hl⟩;exact ⟨⟨c,rfl,hcl,hc⟩,nx,hl⟩
def Rw.add (h:Rw M j rs zA n l) (hw:w.length=l /\ ∀ x∈w,0<=x/\x<(n:Int)) :
  Rw ((M++[MO.lst (w.map D.int)]).set j (.lst ((rs++[M.length]).map D.ref))) j (rs++[M.length]) (zA++[w]) n l:=by
 have hj:=(AI.mp h.at_).1;have hr:=h.refs;refine ⟨by rw[B9 (by rw[AN];omega)],by simp[h.len],λi r e=>?_,?_,λz=>?_,λv hv=>?_⟩
 .have hne:j≠r:=λz=>by
   subst z;rcases AS.mp (Bd e)with z|z
   .exact h.hj z
   .have:j=M.length:=by simpa using z
    omega
  rw[A7 hne];by_cases hi:i<rs.length
  .rw[Ai hi]at e;obtain ⟨v,e1,e2⟩:=h.row i r e;exact ⟨v,by rw[Ai (by rw[<-h.len];exact hi)];exact e1,by rw[Ai (hr r (Bd e))];exact e2⟩
  .have hi2:i=rs.length:=by
    have:=(AI.mp e).1;rw[AN]at this;simp at this;omega
   subst hi2;simp at e;subst e;exact ⟨w,by rw[h.len];simp,by simp⟩
 .rw[E9];refine ⟨h.nd,by simp,λa ha b hb z=>?_⟩;have:b=M.length:=by simpa using hb
  have:=hr a ha;omega
 .rcases AS.mp z with z|z
  .exact h.hj z
  .have:j=M.length:=by simpa using z
   omega
 .rcases AS.mp hv with z|z
  .exact h.ok v z
  .have:v=w:=by simpa using z
   subst this;exact hw
def Rw.out_eq (h:Rw M j rs zA n l) (hz:zA.length<=100000) (hσ:(Bi [9] Y).length=10) (h6:zC 6 Y M=some (.dat (.ref j),M)) :
  fB Av (zE (zn [9] (AU (zC 6)) (gN 9) zf (fB Av (zE (zC 9) zJ))) zJ) Y M=some (.dat (mD zA),M):=by
 have hrl:∀ (i:Nat) (hi:i<rs.length),∃ w,zA[i]?=some w/\M[rs[i]]?=some (.lst (w.map D.int)):=λi hi=>h.row i rs[i] (AL hi);refine Dw (x:=.fl (zA.map λw=>D.tup (w.map D.int))) ?_ Dx;have:=Em (own:=[9]) (fi:=AU (zC 6)) (g:=gN 9) (te:=fB Av (zE (zC 9) zJ)) (Y:=Y) (M:=M) (gd:=HR (.dat (.ref j)) (rs.map D.ref)) rs D.ref (λr=> .tup ((match M[r]? with|some (.lst xs)=>xs|_=>[]))) (DF h6 (zh h.at_)) (by unfold B6 HR;exact .inl h.at_) (by rw[h.len];exact hz) λr hr=>?_
 .rw[this];refine Bv (λz=>some (EV.fl z,M)) ?_;apply List.ext_getElem?;intro i;rw[Af,Af];by_cases hi:i<rs.length
  .obtain ⟨w,e1,e2⟩:=hrl i hi;rw[AL hi,e1];show some (D.tup _)=some (D.tup _);rw[e2]
  .rw[Ec (by omega),Ec (by rw[<-h.len];omega)];rfl
 .obtain ⟨i,hi⟩:=List.getElem?_of_mem hr;obtain ⟨w,e1,e2⟩:=h.row i r hi;refine ⟨(Bi [9] Y).set 9 (some (.ref r)),rfl,Dw (x:=.dat (.ref r)) ?_ ?_⟩
  .unfold zC;rw[B9 (by omega)]
  .rw[zh e2,e2]
def fJ {M:Mem} {n k q:Nat} {most upto:Int} (h:Gen M n k q) (hq:q<900000000) (m0:0<most) (m1:most<=30) (u0:0<upto) (u1:upto<=30) :
  Ok (Hj [.ref n,.int most,.int upto] M) λd M'=>(∃ zA l,d=mD zA/\IsM zA l/\(zA.length:Int)<=most/\(l:Int)<=upto)/\Nw M M' n k (q+1000)/\M'.length=M.length:=by
 obtain ⟨hn,hk⟩:=h.lt;unfold Hj;suffices hh:Ok (Ag 10 Ja [.ref n,.int most,.int upto] M) λd M'=>(∃ zA l,d=mD zA/\IsM zA l/\(zA.length:Int)<=most/\(l:Int)<=upto)/\Nw M M' n k (q+1000) by
  refine LI (Ok.mono hh ?_);rintro d M1 ⟨⟨zA,l,rfl,r⟩,nw⟩;exact ⟨⟨Iw _,nw.len,nw.wf0 h⟩,⟨zA,l,rfl,r⟩,nw.trim h,by rw[BF];have:=nw.len;omega⟩
 rw[BG];unfold Ja;show OkS (zM _ _ [some (.ref n),some (.int most),some (.int upto),none,none,none,none,none,none,none] M) _;rw[zL,zi];refine Gp.mpr (GN.mpr (D6 h (by omega) rfl rfl m0 (by omega) λi1 M1 a0 a1 nw1 hl1=>De.mpr ?_));rw[zS,zQ];obtain ⟨N,eN⟩:=Int.eq_ofNat_of_zero_le (show 0<=1+i1 by omega);rw[eN];have hN0:0<N:=by omega
 have hN1:(N:Int)<=most:=by omega
 show OkS (zM _ _ [some (.ref n),some (.int most),some (.int upto),some (.int (N:Nat)),none,none,none,none,none,none] M1) _;rw[zL,zi];refine Gp.mpr (GN.mpr (D6 nw1.gen (by omega) rfl rfl u0 (by omega) λi2 M2 b0 b1 nw2 hl2=>De.mpr ?_));rw[zS,zQ];obtain ⟨l,el⟩:=Int.eq_ofNat_of_zero_le (show 0<=1+i2 by omega);rw[el];have hl0:0<l:=by omega
 have hl9:(l:Int)<=upto:=by omega
 show OkS (zM _ _ [some (.ref n),some (.int most),some (.int upto),some (.int (N:Nat)),some (.int (l:Nat)),none,none,none,none,none] M2) _;rw[zL,zi];refine D6 nw2.gen (by omega) rfl rfl (by decide) (by decide) λs M3 s0 s1 nw3 hl3=>?_;rw[zS,zQ];show OkS (zM _ _ [some (.ref n),some (.int most),some (.int upto),some (.int (N:Nat)),some (.int (l:Nat)),some (.int s),none,none,none,none] M3) _;rw[zL,zi];refine GP.mpr (Ca.mpr ⟨zb (by simp),zr ?_⟩);rw[zQ];have nwA:=(nw1.trans nw2).trans nw3;have nw4:=nwA.trans (nw3.gen.lst [] rfl);have lj:M.length<=M3.length:=nwA.len;have rw4:Rw (M3++[MO.lst ([]:List D)]) M3.length [] [] N l:=⟨zq _ _,rfl,λi r e=>by simp at e,List.nodup_nil,by simp,λ_ h=>by cases h⟩;generalize M3++[MO.lst ([]:List D)]=M4 at nw4 rw4;generalize M3.length=j at lj rw4;show OkS (zM _ _ [some (.ref n),some (.int most),some (.int upto),some (.int (N:Nat)),some (.int (l:Nat)),some (.int s),some (.ref j),none,none,none] M4) _;rw[zL,Bp];refine ⟨_,_,_,CV (j:=(N:Nat)) rfl (by omega) (by omega),?_⟩;rw[CK];refine D2 (n:=N) (I:=λi Y M'=>(∃ y7,Y=[some (.ref n),some (.int most),some (.int upto),some (.int (N:Nat)),some (.int (l:Nat)),some (.int s),some (.ref j),y7,none,none])/\Nw M M' n k (q+3+30*i) /\ ∃ rs zA,Rw M' j rs zA N l/\zA.length=i /\ ∀ r∈rs,M.length<=r) ?_ ?_ _ _ ⟨⟨_,rfl⟩,nw4.mono (by omega),[],[],rw4,rfl,λ_ h=>by cases h⟩
 .rintro i Y M5 hi ⟨⟨y7,rfl⟩,nw5,rs,zA,rw5,hr5,lr⟩;refine ⟨_,rfl,?_⟩;show OkS (Al _ [some (.ref n),some (.int most),some (.int upto),some (.int (N:Nat)),some (.int (l:Nat)),some (.int s),some (.ref j),some (.int (i:Nat)),none,none] M5) _;rw[C0];refine DB.mpr (CM.mpr ⟨_,rfl,⟨_,CN rw5.at_⟩,Cp.mpr (Bk.mpr ?_)⟩);refine Ok.mono (YF nw5.gen (cnt:=l) (lo:=0) (hi:=N) (by omega) rfl λr M' hr nwr hlr=>D6 nwr.gen (by omega) rfl rfl (by omega) (by omega) λv M2 v0 v1 nx hl=>⟨v,rfl,v0,v1,nx,hl⟩) ?_;rintro x M6 ⟨⟨c,rfl,hcl,hc⟩,nw6,hl6⟩;refine zr ?_;have jn:j≠n:=by omega
  have jk:j≠k:=by omega
  have rw6:Rw M6 j rs zA N l:=by
   have kp:∀ {i:Nat} {u:MO},M.length<=i->M5[i]?=some u->M6[i]?=some u:=λ{i u} hi e=>nw6.get e (by omega) (by omega);exact ⟨kp lj rw5.at_,rw5.len,λi r e=>let ⟨w,e1,e2⟩:=rw5.row i r e;⟨w,e1,kp (lr r (Bd e)) e2⟩,rw5.nd,rw5.hj,rw5.ok⟩
  have rw7:=rw6.add (w:=c) ⟨hcl,hc⟩;have e7:(M6++[MO.lst (c.map D.int)])[j]?=some (.lst (rs.map D.ref)):=by rw[Ai (AI.mp rw6.at_).1];exact rw6.at_
  refine zF (a:=[]) (M:=M6++[MO.lst (c.map D.int)]) rfl ?_;rw[Eo e7 (by rw[AF,rw6.len,hr5];exact Ax (m:=100) (by omega) (zb (by omega)))];have nw8:=(nw5.trans nw6).trans (nw6.gen.lst (c.map D.int) (DE _ _));have lM:M.length<=M6.length:=(nw5.trans nw6).len;rw[show rs.map D.ref++[D.ref M6.length]=(rs++[M6.length]).map D.ref by rw[B7];rfl];refine ⟨⟨_,rfl⟩,(nw8.setB h lj ?_).mono (by omega),_,_,rw7,by simp[hr5],λr hr=>?_⟩
  .show D.unds _ _=true;refine FY λx hx=>?_;obtain ⟨r,hr,rfl⟩:=AV.mp hx;unfold D.und;rw[DS,AN,FH];rcases AS.mp hr with z|z
   .have:=rw6.refs r z;omega
   .have:r=M6.length:=by simpa using z
    omega
  .rcases AS.mp hr with z|z
   .exact lr r z
   .have:r=M6.length:=by simpa using z
    omega
 .rintro Y M5 ⟨⟨y7,rfl⟩,nw5,rs,zA,rw5,hr5,lr⟩;rw[zQ,zL,BQ];have fin:∀ (M7:Mem) (j:Nat) (rs:Yj) (zA:Ya) (y7:Option D),Rw M7 j rs zA N l->zA.length=N->Nw M M7 n k (q+1000)->OkS (zv (fB Av (zE (zn [9] (AU (zC 6)) (gN 9) zf (fB Av (zE (zC 9) zJ))) zJ)) [some (.ref n),some (.int most),some (.int upto),some (.int (N:Nat)),some (.int (l:Nat)),some (.int s),some (.ref j),y7,none,none] M7) (λo Y M'=>match o with|.ret d=>(∃ zA l,d=mD zA/\IsM zA l/\(zA.length:Int)<=most/\(l:Int)<=upto)/\Nw M M' n k (q+1000)|_=>False):=λM7 j rs zA y7 rw7 hr7 nw7=>
   zc (rw7.out_eq (by omega) rfl rfl) ⟨⟨zA,l,rfl,⟨by omega,hl0,λw hw=>⟨(rw7.ok w hw).1,λx hx=>by have:=(rw7.ok w hw).2 x hx;omega⟩⟩,by omega,hl9⟩,nw7⟩
  have last:∀ (M7:Mem) (j:Nat) (rs:Yj) (zA:Ya) (y7:Option D) (P:Out->Sd->Mem->Prop),(∀ d Y M',((∃ zA l,d=mD zA/\IsM zA l/\(zA.length:Int)<=most/\(l:Int)<=upto)/\Nw M M' n k (q+1000))->P (.ret d) Y M')->Rw M7 j rs zA N l->zA.length=N->Nw M M7 n k (q+1000)->OkS (zv (fB Av (zE (zn [9] (AU (zC 6)) (gN 9) zf (fB Av (zE (zC 9) zJ))) zJ)) [some (.ref n),some (.int most),some (.int upto),some (.int (N:Nat)),some (.int (l:Nat)),some (.int s),some (.ref j),y7,none,none] M7) P:=λM7 j rs zA y7 P hP rw7 hr7 nw7=>by
   refine OkS.mono (fin M7 j rs zA y7 rw7 hr7 nw7) ?_;rintro o Y M' z;cases o with
   |ret d=>exact hP d Y M' z
   |nx=>exact z.elim
   |cnt=>exact z.elim
   |brk=>exact z.elim
  have mid:∀ (M6:Mem) (zA:Ya) (P:Out->Sd->Mem->Prop),(∀ d Y M',((∃ zA l,d=mD zA/\IsM zA l/\(zA.length:Int)<=most/\(l:Int)<=upto)/\Nw M M' n k (q+1000))->P (.ret d) Y M')->Rw M6 j rs zA N l->zA.length=N->Nw M M6 n k (q+1000)->OkS (zM (sIf (tst (fOp kGt (zC 5) (fC (.int 3)))) (AK 6 (zn [7] (zt (zD (toD (zC 3)) zG)) (gN 7) zf (zn [8] (zt (zD (toD (zC 4)) zG)) (gN 8) zf (zO F9 (zD (toD (zC 6)) (zD (toD (zC 7)) (zD (toD (zC 8)) (zD (toD (zC 5)) zG)))))))) Ac)
    (zv (fB Av (zE (zn [9] (AU (zC 6)) (gN 9) zf (fB Av (zE (zC 9) zJ))) zJ))) [some (.ref n),some (.int most),some (.int upto),some (.int (N:Nat)),some (.int (l:Nat)),some (.int s),some (.ref j),y7,none,none] M6) P:=λM6 zA P hP rw6 hr6 nw6=>by
   rw[zL,BQ];refine zF (Au (zI (x:=.dat (.int s)) (y:=.dat (.int 3)) rfl rfl (zH (Hr.mpr ⟨rfl,rfl⟩)))) ?_;by_cases ws:(3:Int)<s
   .rw[AB (by simpa using ws),zi];refine HK.mpr ⟨_,_,_,CV (j:=(N:Nat)) rfl (by omega) (by omega),by rw[HN];exact zb (by omega),?_⟩;rw[CK];refine Ok.mono (KU (n:=N) (I:=λt acc M2=>∃ rs2 rows2,acc=List.map D.ref rs2/\rs2.length=t/\rows2.length=t/\(∀ (i r:Nat),rs2[i]?=some r -> ∃ w:List Int,rows2[i]?=some w/\M2[r]?=some (.lst (w.map D.int)))/\rs2.Nodup/\(∀ r∈rs2,r<M2.length)/\(∀ w∈rows2,w.length=l /\ ∀ x∈w,0<=x/\x<(N:Int))/\Nw M M2 n k (q+1000)/\Rw M2 j rs zA N l) ?_ ⟨[],[],rfl,rfl,rfl,λi r e=>by simp at e,List.nodup_nil,λ_ h=>(by cases h),λ_ h=>(by cases h),nw6,rw6⟩) ?_
    .rintro t acc M2 ht ⟨rs2,rows2,rfl,h1,h2,h3,h4,h5,h6,nwt,rwt⟩;refine ⟨_,rfl,?_⟩;show Ok (zn _ _ _ _ _ [some (.ref n),some (.int most),some (.int upto),some (.int (N:Nat)),some (.int (l:Nat)),some (.int s),some (.ref j),some (.int (t:Nat)),none,none] M2) _;refine HK.mpr ⟨_,_,_,CV (j:=(l:Nat)) rfl (by omega) (by omega),by rw[HN];exact zb (by omega),?_⟩;rw[CK];refine Ok.mono (KU (n:=l) (I:=λa acc M3=>M3=M2 /\ ∃ c:List Int,acc=c.map D.int/\c.length=a /\ ∀ x∈c,0<=x/\x<(N:Int)) ?_ ⟨rfl,[],rfl,rfl,λ_ h=>(by cases h)⟩) ?_
     .rintro a acc M3 ha ⟨rfl,c,rfl,hc1,hc2⟩;refine ⟨_,rfl,?_⟩;show Ok (zO _ _ [some (.ref n),some (.int most),some (.int upto),some (.int (N:Nat)),some (.int (l:Nat)),some (.int s),some (.ref j),some (.int (t:Nat)),some (.int (a:Nat)),none] M3) _;obtain ⟨v,ev,v0,v1⟩:=ZG rwt hr6 hl0 (room:=(t:Nat)) (letter:=(a:Nat)) (style:=s) (by omega) (by omega) (by omega) (by omega);refine zF (zp (zg rfl (zg rfl (zg rfl (zU rfl)))) ev) ?_;rw[zS];refine ⟨rfl,c++[v],by simp,by simp[hc1],λx hx=>?_⟩;rcases AS.mp hx with z|z
      .exact hc2 x z
      .have:x=v:=by simpa using z
       subst this;exact ⟨v0,v1⟩
     .rintro ys M3 ⟨rfl,c,rfl,hc1,hc2⟩;refine zr ?_;refine ⟨rs2++[M3.length],rows2++[c],by simp,by simp[h1],by simp[h2],λi r e=>?_,?_,λr hr=>?_,λw hw=>?_,nwt.trans (nwt.gen.lst _ (DE _ _)),rwt.push _⟩
      .by_cases hi:i<rs2.length
       .rw[Ai hi]at e;obtain ⟨v,e1,e2⟩:=h3 i r e;exact ⟨v,by rw[Ai (by omega)];exact e1,by rw[Ai (h5 r (Bd e))];exact e2⟩
       .have hi2:i=rs2.length:=by
         have:=(AI.mp e).1;rw[AN]at this;simp at this;omega
        subst hi2;simp at e;subst e;exact ⟨c,by rw[h1,<-h2];simp,by simp⟩
      .rw[E9];refine ⟨h4,by simp,λa ha b hb z=>?_⟩;have:b=M3.length:=by simpa using hb
       have:=h5 a ha;omega
      .rw[AN,FH];rcases AS.mp hr with z|z
       .have:=h5 r z;omega
       .have:r=M3.length:=by simpa using z
        omega
      .rcases AS.mp hw with z|z
       .exact h6 w z
       .have:w=c:=by simpa using z
        subst this;exact ⟨hc1,hc2⟩
    .rintro ys M2 ⟨rs2,rows2,rfl,h1,h2,h3,h4,h5,h6,nwt,rwt⟩;refine zr ?_;rw[zQ];refine last _ M2.length rs2 rows2 y7 P hP ⟨zq _ _,by omega,λi r e=>?_,h4,λz=>absurd (h5 _ z) (Bq _),h6⟩ h2 (nwt.trans (nwt.gen.lst _ ?_))
     .obtain ⟨w,e1,e2⟩:=h3 i r e;exact ⟨w,e1,by rw[Ai (h5 r (Bd e))];exact e2⟩
     .refine FY λx hx=>?_;obtain ⟨r,hr,rfl⟩:=AV.mp hx;unfold D.und;rw[DS];exact h5 r hr
   .rw[AD (by simpa using ws),Bx,zQ];exact last M6 j rs zA y7 P hP rw6 hr6 nw6
  refine zF (Au (zI (x:=.dat (.int s)) (y:=.dat (.int 3)) rfl rfl (zH (B3.mpr ⟨rfl,rfl⟩)))) ?_;have hP:∀ (d:D) (Y:Sd) (M':Mem),((∃ zA l,d=mD zA/\IsM zA l/\(zA.length:Int)<=most/\(l:Int)<=upto)/\Nw M M' n k (q+1000))->(∃ zA l,d=mD zA/\IsM zA l/\(zA.length:Int)<=most/\(l:Int)<=upto)/\Nw M M' n k (q+1000):=λ_ _ _ h=>h;by_cases w3:s=3
  .rw[AB (by simpa using w3),C0];have eqv:Ok (fOp kEq (zO zN (zD (toD (zC 0)) (zD (toD (fC (.int 2))) zG))) (fC (.int 1)) [some (.ref n),some (.int most),some (.int upto),some (.int (N:Nat)),some (.int (l:Nat)),some (.int s),some (.ref j),y7,none,none] M5) λx M6=>(∃ b,x=.dat (.bl b))/\Nw M5 M6 n k (q+3+30*N+1)/\M6.length=M5.length :=
    Gp.mpr (D6 nw5.gen (by omega) rfl rfl (by decide) (by decide) λv M6 v0 v1 nx hl=>GN.mpr (B3.mpr ⟨⟨_,rfl⟩,nx,hl⟩))
   obtain ⟨x,M6,ex,⟨b,rfl⟩,nx6,hl6⟩:=eqv;have jn:j≠n:=by omega
   have rw6:Rw M6 j rs zA N l:=by
    have kp:∀ {i:Nat} {u:MO},M.length<=i->M5[i]?=some u->M6[i]?=some u:=λ{i u} hi e=>nx6.get e (by omega) (by omega);exact ⟨kp lj rw5.at_,rw5.len,λi r e=>let ⟨w,e1,e2⟩:=rw5.row i r e;⟨w,e1,kp (lr r (Bd e)) e2⟩,rw5.nd,rw5.hj,rw5.ok⟩
   have nw6:=nw5.trans nx6;refine Ek.mpr (Cp.mpr (Bk.mpr (CM.mpr ⟨_,rfl,?_⟩)));rw[zS,Cp,Bk];refine zF ex ?_;rw[zS,Ca];refine Ok.mono (WA h nw6 rw6 hr5 hN0 (by omega) hl0 (by omega) lj lr) ?_;rintro d M7 ⟨rfl,nw7,_,rows7,rw7,hr7⟩;rw[zQ];exact mid M7 rows7 _ hP rw7 hr7 (nw7.mono (by omega))
  .rw[AD (by simpa using w3),Bx,zQ];exact mid M5 zA _ hP rw5 hr5 (nw5.mono (by omega))
noncomputable def JP:FS:=(zM (sIf (tst (fOp kEq (zO zN (zD (toD (zC 0)) (zD (toD (fC (.int 3))) zG))) (fC (.int 0)))) (zv (JU (zC 1))) Ac)
  (zM (AK 2 (zn [3] (zt (zD (toD (zC 1)) zG)) (gN 3) (tst (fOp kEq (zO zN (zD (toD (zC 0)) (zD (toD (fC (.int 2))) zG))) (fC (.int 1)))) (zC 3)))
  (zM (sIf (tst (fOp kEq (fB zV (zE (zC 2) zJ)) (fC (.int 0)))) (AK 2 (AQ (zD (toD (zO zN (zD (toD (zC 0)) (zD (toD (zC 1)) zG)))) zG))) Ac)
  (zv (fB Av (zE (zC 2) zJ))))))
noncomputable def EU:FF:=Dr (Ag 4 JP)
def ZD (R:Nat):upD R=((List.range R).map λ(k:Nat)=>(k:Int)).map D.int:=by
 unfold upD;rw[BD];rfl
def QR {M:Mem} {n k q:Nat} {R:Nat} (h:Gen M n k q) (hq:q<900000000) (r0:0<R) (r1:R<=1000) :
  Ok (EU [.ref n,.int R] M) λd M'=>(∃ S,d=tI S/\S.Pairwise (· < ·)/\0<S.length /\ ∀ x∈S,0<=x/\x<(R:Int))/\Nw M M' n k (q+1002)/\M'.length=M.length:=by
 obtain ⟨hn,hk⟩:=h.lt;unfold EU;suffices hh:Ok (Ag 4 JP [.ref n,.int R] M) λd M'=>(∃ S,d=tI S/\S.Pairwise (· < ·)/\0<S.length /\ ∀ x∈S,0<=x/\x<(R:Int))/\Nw M M' n k (q+1002) by
  refine LI (Ok.mono hh ?_);rintro d M1 ⟨⟨S,rfl,r⟩,nw⟩;exact ⟨⟨HG S,nw.len,nw.wf0 h⟩,⟨S,rfl,r⟩,nw.trim h,by rw[BF];have:=nw.len;omega⟩
 rw[BG];unfold JP;show OkS (zM _ _ [some (.ref n),some (.int R),none,none] M) _;rw[zL,BQ];refine QU.mpr (Gp.mpr (D6 h (by omega) rfl rfl (by decide) (by decide) λi M1 i0 i1 nw1 hl1=>GN.mpr (B3.mpr (F5.mpr ?_))));by_cases hi:i=0
 .rw[AB (by simpa using hi)];refine zc (d:=tI ((List.range R).map λ(k:Nat)=>(k:Int))) ?_ ?_
  .unfold JU zC;dsimp only[List.getElem?_cons_succ,List.getElem?_cons_zero];rw[AB ⟨by omega,by omega⟩,CK,ZD];rfl
  .rw[Fc];refine ⟨⟨_,rfl,?_,by simp;omega,λx hx=>?_⟩,nw1.mono (by omega)⟩
   .rw[List.pairwise_map];exact List.pairwise_lt_range.imp λ{a b} h=>by omega
   .obtain ⟨y,hy,rfl⟩:=AV.mp hx;have:=List.mem_range.mp hy;omega
 .rw[AD (by simpa using hi),Bx,zQ,zL,zi];refine HK.mpr ⟨_,_,_,CV (j:=(R:Nat)) rfl (by omega) (by omega),by rw[HN];exact zb (by omega),?_⟩;rw[CK];refine Ok.mono (G6 (I:=λr acc M2=>∃ t,t<=R/\r=DV t (R-t)/\(∃ c:List Int,acc=c.map D.int/\c.Pairwise (· < ·) /\ ∀ x∈c,0<=x/\x<(t:Int))/\Nw M M2 n k (q+1+t)/\M2.length=M.length) (Q:=λacc M2=>(∃ c:List Int,acc=c.map D.int/\c.Pairwise (· < ·) /\ ∀ x∈c,0<=x/\x<(R:Int))/\Nw M M2 n k (q+1+R)/\M2.length=M.length) ?_ ?_ _ [] _ ⟨0,Ba _,by simp,⟨[],rfl,List.Pairwise.nil,λ_ h=>by cases h⟩,nw1,hl1⟩) ?_
  .rintro x r acc M2 ⟨t,ht,e,⟨c,rfl,hp,hx⟩,nw2,hl2⟩;have hlt:t<R:=by
    rcases Nat.lt_or_ge t R with z|z
    .exact z
    .rw[show R-t=0 by omega]at e;cases e
   rw[show R-t=(R-(t+1))+1 by omega]at e;obtain ⟨rfl,rfl⟩:=CF e;refine ⟨zo,_,rfl,?_⟩;refine QU.mpr (Gp.mpr (D6 nw2.gen (by omega) rfl rfl (by decide) (by decide) λi M3 i0 i1 nw3 hl3=>GN.mpr (B3.mpr (F5.mpr ?_))));have nwt:=nw2.trans nw3;by_cases h1:i=1
   .rw[AB (by simpa using h1)];refine CM.mpr ⟨.int (t:Nat),rfl,?_⟩;rw[zS];refine ⟨t+1,hlt,rfl,⟨c++[(t:Int)],by simp,?_,λx hx'=>?_⟩,nwt.mono (by omega),hl3.trans hl2⟩
    .rw[List.pairwise_append];refine ⟨hp,by simp,λa ha b hb=>?_⟩;have h1:=hx a ha;have h2:b=(t:Int):=by simpa using hb
     omega
    .rcases AS.mp hx' with z|z
     .have:=hx x z;omega
     .have:x=(t:Int):=by simpa using z
      omega
   .rw[AD (by simpa using h1)];exact ⟨t+1,hlt,rfl,⟨c,rfl,hp,λx hx'=>by have:=hx x hx';omega⟩,nwt.mono (by omega),hl3.trans hl2⟩
  .rintro acc M2 ⟨t,ht,e,⟨c,rfl,hp,hx⟩,nw2,hl2⟩;have:t=R:=by
    rcases Nat.lt_or_ge t R with z|z
    .rw[show R-t=(R-(t+1))+1 by omega]at e;cases e
    .omega
   subst this;exact ⟨zo,⟨c,rfl,hp,hx⟩,nw2,hl2⟩
  .rintro ys M2 ⟨⟨c,hc,hp,hx⟩,nw2,hl2⟩;rw[List.nil_append]at hc;subst hc;refine zr ?_;rw[zQ];have nw3:=nw2.trans (nw2.gen.lst (c.map D.int) (DE _ _));have e3:(M2++[MO.lst (c.map D.int)])[M2.length]?=some (.lst (c.map D.int)):=zq _ _;have hj:M.length<=M2.length:=nw2.len;generalize M2++[MO.lst (c.map D.int)]=M3 at nw3 e3;generalize M2.length=j at e3 hj;show OkS (zM _ _ [some (.ref n),some (.int R),some (.ref j),none] M3) _;rw[zL,BQ];refine zF (Au (zI (Ma (c:=c) (j:=j) rfl e3) rfl (zH (B3.mpr ⟨rfl,rfl⟩)))) ?_;by_cases hz:c=[]
   .subst hz;rw[AB (by simp),zi];refine GP.mpr (Cp.mpr (Bk.mpr (D6 nw3.gen (by omega) rfl rfl (by omega) (by omega) λi M4 i0 i1 nw4 hl4=>?_)));rw[zS];refine Ca.mpr ⟨zb (by simp),zr ?_⟩;rw[zQ];have e4:(M4++[MO.lst [D.int i]])[M4.length]?=some (.lst ([i].map D.int)):=zq _ _;refine zc (Dw (x:=.dat (.ref M4.length)) rfl (zh e4)) ⟨⟨[i],rfl,by simp,by simp,λx hx=>?_⟩,((nw3.trans nw4).trans (nw4.gen.lst _ rfl)).mono (by omega)⟩;have:x=i:=by simpa using hx
    omega
   .have hl:0<c.length:=List.length_pos_iff.mpr hz;rw[AD (by simp;exact hz),Bx,zQ];exact zc (Dw (x:=.dat (.ref j)) rfl (zh e3)) ⟨⟨c,rfl,hp,hl,hx⟩,nw3.mono (by omega)⟩
open Lac (dT Br ze BI DX C8 Ft dgT Ck DP EN)
noncomputable def MR:FS:=(zM (sIf (BB (BM (tst (BK "tuple" (zC 0)))) (tst (fOp kEq (fB zV (zE (zC 0) zJ)) (fC (.int 0))))) (zv (fC (.bl false))) Ac)
  (zM (sIf (BM (tst (fB C4 (zE (zn [2] (AU (zC 0)) (gN 2) zf (Bu (BK "int" (zC 2)) (Bu (DY (BK "bool" (zC 2))) (E4 kLe kLt (fC (.int 0)) (zC 2) (zC 1))))) zJ)))) (zv (fC (.bl false))) Ac)
  (zv (fB C4 (zE (zn [3] (zt (zD (toD (fOp CU (fB zV (zE (zC 0) zJ)) (fC (.int 1)))) zG)) (gN 3) zf (fOp kLt (fOp kIx (zC 0) (zC 3)) (fOp kIx (zC 0) (fOp zY (zC 3) (fC (.int 1)))))) zJ)))))
noncomputable def HB:FF:=Ag 4 MR
noncomputable def MC:FS:=(zM (sIf (BB (BM (tst (BK "tuple" (zC 1)))) (BM (tst (fB C4 (zE (zn [2] (AU (zC 1)) (gN 2) zf (BK "tuple" (zC 2))) zJ))))) (zv (fC (.bl false))) Ac)
  (zM (Ad (AU (zC 1)) (gN 2) (sIf (BM (tst (fB C4 (zE (zn [3] (AU (zC 2)) (gN 3) zf (zO HB (zD (toD (zC 3)) (zD (toD (fB zV (zE (zC 0) zJ))) zG)))) zJ)))) (zv (fC (.bl false))) Ac))
  (zv (fC (.bl true)))))
noncomputable def IE:FF:=Ag 4 MC
noncomputable def KN:FS:=(zM (sIf (BM (tst (zO IE (zD (toD (zC 0)) (zD (toD (zC 2)) zG))))) (zv (fC (.bl false))) Ac)
  (zM (sIf (tst (fOp kEq (fB zV (zE (zC 2) zJ)) (fC (.int 0)))) (zv (DY (zC 3))) Ac)
  (zM (sIf (tst (fOp (Ed true) (zC 1) (fOp kIx (zC 2) (fC (.int 0))))) (zv (fC (.bl false))) Ac)
  (zM (AK 4 JO)
  (zM (Ad (zt (zD (toD (fB zV (zE (zC 2) zJ))) zG)) (gN 5) (Ad (AU (fOp kIx (zC 2) (zC 5))) (gN 6) (Co (fB Gh (zE (zC 5) (zE (Ew (zC 4) (zC 6) (zC 5)) zJ))) (zC 4) (zC 6))))
  (zM (Ad (zt (zD (toD (fOp zY (fOp CU (fB zV (zE (zC 2) zJ)) (fC (.int 1))) (fB Cd (zE (zC 3) zJ)))) zG)) (gN 5) (Ad (AU (fOp kIx (zC 2) (zC 5))) (gN 6) (Ad (zt (zD (toD (fB zV (zE (fOp kIx (zC 0) (fC (.int 0))) zJ))) zG)) (gN 7) (sIf (tst (fOp kGt (Ew (zC 4) (zO ER (zD (toD (zC 0)) (zD (toD (zC 6)) (zD (toD (zC 7)) zG)))) (fOp zY (zC 5) (fC (.int 2)))) (fOp zY (zC 5) (fC (.int 1))))) (zv (fC (.bl false))) Ac))))
  (zv (fC (.bl true)))))))))
noncomputable def Gu:FF:=Dr (Ag 8 KN)
noncomputable def LQ:FS:=(zM (AK 4 (zO Hm (zD (toD (zC 0)) (zD (toD (zC 1)) (zD (toD (zC 2)) (zD (toD (zC 3)) zG))))))
  (zv (Bu (BK "bool" (zC 4)) (fOp kEq (zC 4) (zO Gu (zD (toD (zC 0)) (zD (toD (zC 1)) (zD (toD (zC 2)) (zD (toD (zC 3)) zG)))))))))
noncomputable def GC:FF:=Ag 5 LQ
theorem OQ:∀ (S:Ye),((List.range (S.length-1)).map λk=>decide (S.getD k 0<S.getD (k+1) 0)).all id=decide (S.Pairwise (· < ·))
 |[]=>by simp
 |[a]=>by simp
 |a::b::r=>by
  have ih:=OQ (b::r);rw[show (b::r).length-1=r.length by simp]at ih;rw[show (a::b::r).length-1=r.length+1 by simp,List.range_succ_eq_map,AY,D8,BD];have:(List.map ((λk=>decide ((a::b::r).getD k 0<(a::b::r).getD (k+1) 0))∘Nat.succ) (List.range r.length))=(List.range r.length).map λk=>decide ((b::r).getD k 0<(b::r).getD (k+1) 0):=by
   apply List.map_congr_left;intro k _;rfl
  rw[this,ih,En,Am,decide_eq_true_iff,decide_eq_true_iff];constructor
  .rintro ⟨h1,h2⟩;have h1:a<b:=CG h1;rw[CD];refine ⟨λx hx=>?_,h2⟩;rcases AO.mp hx with z|z
   .rw[z];exact h1
   .have:=(CD.mp h2).1 x z;omega
  .intro h;rw[CD]at h;exact ⟨AR (h.1 b Ah),h.2⟩
def cZ (h:Vd M d):Bu (BK "int" (zC 2)) (Bu (DY (BK "bool" (zC 2))) (E4 kLe kLt (fC (.int 0)) (zC 2) (zC 1))) [y0,some (.int n),some d,y3] M=some (.dat (.bl (BU n d)),M):=by
 obtain ⟨t,e,_,q⟩:=h.ty;have e1:=Cc (T := "int") (f:=zC 2) (Y:=[y0,some (.int n),some d,y3]) rfl e;have e2:=Ov (Cc (T := "bool") (f:=zC 2) (Y:=[y0,some (.int n),some d,y3]) rfl e);have hb:BU n d=(isT t "int" && (!isT t "bool" && BU n d)):=by
  rw[<-Bool.and_assoc,q];cases d <;> rfl
 rw[hb];refine Dh e1 λa=>Dh e2 λb=>?_;have hw:JN d=true:=by rw[<-q,a,b];rfl
 cases d with
 |int i=>
  refine zH (N2.mpr (GN.mpr (CM.mpr ⟨_,rfl,Ku.mpr (F5.mpr ?_)⟩)));by_cases h0:0<=i
  .rw[AB (by simpa using h0)];refine CM.mpr ⟨_,rfl,G4.mpr ⟨?_,rfl⟩⟩;simp[BU,h0]
  .rw[AD (by simpa using h0)];refine ⟨?_,rfl⟩;simp[BU,h0]
 |_=>cases hw
theorem HY:∀ {ds:List D},(ds.map (BU n)).all id=true -> ∃ S:List Int,ds=S.map D.int /\ ∀ x∈S,0<=x/\x<n
 |[],_=>⟨[],rfl,λ_ h=>by cases h⟩
 |d::ds,h=>by
  rw[AY,D8,Am]at h;obtain ⟨S,rfl,hS⟩:=HY h.2;have h1:BU n d=true:=h.1;cases d with
  |int i=>
   unfold BU at h1;rw[Am]at h1;refine ⟨i::S,rfl,λx hx=>?_⟩;rcases AO.mp hx with z|z
   .rw[z];exact ⟨CG h1.1,CG h1.2⟩
   .exact hS x z
  |_=>cases h1
def SY {S:Ye} (h:∀ x∈S,0<=x/\x<n):((S.map D.int).map (BU n)).all id=true:=by
 rw[Ae];intro b hb;rw[BD]at hb;obtain ⟨x,hx,rfl⟩:=AV.mp hb;have:=h x hx;show (decide (0<=x)&&decide (x<n))=true;rw[AR this.1,AR this.2];rfl
def ntE (e:f Y M=some (.dat (.bl k),M)):BM (tst f) Y M=some (!k,M):=zH (Mb.mpr (zF (Au e) ⟨rfl,rfl⟩))
def Lu (h:∀ S,d=tI S -> ¬ IsS zA S):setB zA d=false:=by
 unfold setB;exact FX λ⟨S,e,s⟩=>h S e s
def SW {zA:Ya} (hd:Vd M d):HB [d,.int zA.length] M=some (.bl (setB zA d),M):=by
 refine zH ?_;unfold HB;rw[BG];unfold MR;show OkS (zM _ _ [some d,some (.int zA.length),none,none] M) _;obtain ⟨t,e,q,_⟩:=hd.ty;cases d with
 |tup ds=>
  have hh:Vd M (.tup ds):=hd;unfold Vd at hh;have e0:BM (tst (BK "tuple" (zC 0))) [some (.tup ds),some (.int zA.length),none,none] M=some (false,M):=ntE (k:=true) (by rw[Cc rfl e,q];rfl);have el:=Bo (f:=zC 0) (Y:=[some (.tup ds),some (.int zA.length),none,none]) (M:=M) (x:=.dat (.tup ds)) rfl za;have ez:tst (fOp kEq (fB zV (zE (zC 0) zJ)) (fC (.int 0))) [some (.tup ds),some (.int zA.length),none,none] M=some (decide ((ds.length:Int)=0),M):=Au (zI el rfl (zH (B3.mpr ⟨rfl,rfl⟩)));have eo:BB (BM (tst (BK "tuple" (zC 0)))) (tst (fOp kEq (fB zV (zE (zC 0) zJ)) (fC (.int 0)))) [some (.tup ds),some (.int zA.length),none,none] M=some (decide ((ds.length:Int)=0),M):=by
   unfold BB;rw[e0];exact ez
  by_cases hn:ds.length=0
  .refine DA (eo.trans (by rw[AR (by omega)])) (zc (d:=.bl false) rfl ⟨?_,rfl⟩);rw[Lu λS e s=>?_];have:=s.n0;have:=Bv List.length (D.tup.inj e);rw[AF]at this;omega
  .refine EY (eo.trans (by rw[AM (by omega)])) ?_;have ea:=Dk (f:=zn [2] (AU (zC 0)) (gN 2) zf (Bu (BK "int" (zC 2)) (Bu (DY (BK "bool" (zC 2))) (E4 kLe kLt (fC (.int 0)) (zC 2) (zC 1))))) (Y:=[some (.tup ds),some (.int zA.length),none,none]) (M:=M) (bs:=ds.map (BU zA.length)) (by
    rw[BD];exact GR (λx=> .bl (BU zA.length x)) rfl hh.1 λx hx=>⟨_,rfl,cZ (hh.2.mem x hx)⟩)
   cases hb:(ds.map (BU zA.length)).all id with
   |false=>
    rw[hb]at ea;refine DA (ntE ea) (zc (d:=.bl false) rfl ⟨?_,rfl⟩);rw[Lu λS e s=>?_];cases e;rw[SY s.mem]at hb;cases hb
   |true=>
    rw[hb]at ea;refine EY (ntE ea) ?_;obtain ⟨S,rfl,hS⟩:=HY hb;rw[AF]at el hn;have ec:zn [3] (zt (zD (toD (fOp CU (fB zV (zE (zC 0) zJ)) (fC (.int 1)))) zG)) (gN 3) zf (fOp kLt (fOp kIx (zC 0) (zC 3)) (fOp kIx (zC 0) (fOp zY (zC 3) (fC (.int 1))))) [some (.tup (S.map D.int)),some (.int zA.length),none,none] M=some (.fl (((List.range (S.length-1)).map λk=>decide (S.getD k 0<S.getD (k+1) 0)).map D.bl),M):=by
     rw[BD];have hz:=hh.1;rw[AF]at hz;refine Em (gd:=none) (List.range (S.length-1)) (λk=>D.int (k:Nat)) _ ?_ trivial (by rw[List.length_range];omega) λk hk=>⟨_,rfl,?_⟩
     .rw[CV (j:=(S.length:Int)-1) (zI el rfl (zH (Nq.mpr ⟨rfl,rfl⟩))) (by omega) (by omega),show ((S.length:Int)-1).toNat=S.length-1 by omega,<-JL]
     .have hk:=List.mem_range.mp hk;have at_:∀ j,j<S.length->atI (S.map D.int) (j:Nat)=some (.int (S.getD j 0)):=λj hj=>C6 (by rw[Af,AL hj];simp[List.getD,AL hj]);exact zI (zI (x:=.dat (.tup (S.map D.int))) (y:=.dat (.int (k:Nat))) rfl rfl (BR za (at_ k (by omega)))) (zI (x:=.dat (.tup (S.map D.int))) (y:=.dat (.int ((k+1:Nat):Int))) rfl (zI rfl rfl (zH (De.mpr ⟨rfl,rfl⟩))) (BR za (at_ (k+1) (by omega)))) (zH (G4.mpr ⟨rfl,rfl⟩))
    refine zc (Dk ec) ⟨?_,rfl⟩;rw[OQ];unfold setB;by_cases hp:S.Pairwise (· < ·)
    .rw[AR hp,FQ ⟨S,rfl,hp,by omega,hS⟩]
    .rw[AM hp,FX];rintro ⟨T,e,s⟩;rw[LA e]at hp;exact hp s.pw
 |_=>
  refine DA ?_ (zc (d:=.bl false) rfl ⟨?_,rfl⟩)
  .unfold BB;rw[ntE (k:=false) (by rw[Cc rfl e,q];rfl)];rfl
  .rw[Lu λS e s=>by cases e]
noncomputable def Iv (zA:Ya) (d:D):Bool:=dc (HH zA d)
def JG (h:¬ HH zA d):Iv zA d=false:=FX h
def Zp (hd:Vd M d):IE [mD zA,d] M=some (.bl (Iv zA d),M):=by
 refine zH ?_;unfold IE;rw[BG];unfold MC;show OkS (zM _ _ [some (mD zA),some d,none,none] M) _;obtain ⟨t,e,q,_⟩:=hd.ty;cases d with
 |tup ds=>
  have hh:Vd M (.tup ds):=hd;unfold Vd at hh;have e0:BM (tst (BK "tuple" (zC 1))) [some (mD zA),some (.tup ds),none,none] M=some (false,M):=ntE (k:=true) (by rw[Cc rfl e,q];rfl);have ea:=Dk (f:=zn [2] (AU (zC 1)) (gN 2) zf (BK "tuple" (zC 2))) (Y:=[some (mD zA),some (.tup ds),none,none]) (M:=M) (bs:=ds.map GI) (by
   rw[BD];refine GR (λx=> .bl (GI x)) rfl hh.1 λx hx=>⟨_,rfl,?_⟩;obtain ⟨t,e,q,_⟩:=(hh.2.mem x hx).ty;rw[<-q];exact Cc rfl e)
  cases hb:(ds.map GI).all id with
  |false=>
   rw[hb]at ea;refine DA (by unfold BB;rw[e0];exact ntE ea) (zc (d:=.bl false) rfl ⟨?_,rfl⟩);rw[JG];rintro ⟨LL,e,_⟩;cases e;have:((LL.map lvT).map GI).all id=true:=by
    rw[Ae];intro b hb;rw[BD]at hb;obtain ⟨L,_,rfl⟩:=AV.mp hb;rfl
   rw[this]at hb;cases hb
  |true=>
   rw[hb]at ea;refine EY (by unfold BB;rw[e0];exact ntE ea) ?_;rw[zL,Bp];refine ⟨_,_,_,MJ (xs:=ds) rfl,?_⟩;refine Dc (I:=λr Y M'=>M'=M/\(∃ y2,Y=[some (mD zA),some (.tup ds),y2,none]) /\ ∃ done:List (List (List Int)),ds=done.map lvT++r /\ ∀ L∈done,∀ S∈L,IsS zA S) ?_ ?_ _ _ _ ⟨rfl,⟨_,rfl⟩,[],rfl,λ_ h=>by cases h⟩
   .rintro x r Y M' ⟨rfl,⟨y2,rfl⟩,done,hds,hdone⟩;refine ⟨zo,_,rfl,?_⟩;show OkS (sIf _ _ _ [some (mD zA),some (.tup ds),some x,none] M') _;have hx:x∈ds:=by rw[hds];simp
    have hxt:GI x=true:=by
     have:=Ae.mp hb (GI x) (List.mem_map_of_mem hx);exact this
    cases x with
    |tup es=>
     have hv:Vd M' (.tup es):=hh.2.mem _ hx;unfold Vd at hv;have ec:=Dk (f:=zn [3] (AU (zC 2)) (gN 3) zf (zO HB (zD (toD (zC 3)) (zD (toD (fB zV (zE (zC 0) zJ))) zG)))) (Y:=[some (mD zA),some (.tup ds),some (.tup es),none]) (M:=M') (bs:=es.map (setB zA)) (by
      rw[BD];exact GR (λx=> .bl (setB zA x)) rfl hv.1 λx hx=>⟨_,rfl,zp (zg rfl (zU (GQ rfl))) (SW (hv.2.mem x hx))⟩)
     cases hb2:(es.map (setB zA)).all id with
     |false=>
      rw[hb2]at ec;rw[BQ];refine zF (ntE ec) ?_;rw[AB (show (!false)=true from rfl)];refine zc (d:=.bl false) rfl ?_;refine ⟨?_,rfl⟩;rw[JG];rintro ⟨LL,e,s⟩;have hm:D.tup es∈LL.map lvT:=by rw[<-D.tup.inj e];exact hx
      obtain ⟨L,hL,e2⟩:=AV.mp hm;rw[<-D.tup.inj e2,Pr (s L hL)]at hb2;cases hb2
     |true=>
      rw[hb2]at ec;obtain ⟨L,rfl,hL⟩:=Lp hb2;refine K1 (ntE ec) ⟨rfl,⟨_,rfl⟩,done++[L],by rw[hds];simp,λK hK=>?_⟩;rcases AS.mp hK with z|z
      .exact hdone K z
      .rw[BC.mp z];exact hL
    |_=>cases hxt
   .rintro Y M' ⟨rfl,⟨y2,rfl⟩,done,hds,hdone⟩;refine ⟨zo,?_⟩;rw[zQ];refine zc (d:=.bl true) rfl ⟨?_,rfl⟩;rw[By]at hds;unfold Iv;rw[FQ ⟨done,by rw[hds],hdone⟩]
 |_=>
  refine DA ?_ (zc (d:=.bl false) rfl ⟨?_,rfl⟩)
  .unfold BB;rw[ntE (k:=false) (by rw[Cc rfl e,q];rfl)];rfl
  .rw[JG λ⟨LL,e,_⟩=>by cases e]
open Lac (dT Br ze BI DX C8 Ft dgT Ck DP EN)
def bJ (nd:(P.map (·.1)).Nodup) (h:ze P S=some v):BI P S v=P:=by
 unfold BI;rw[h];dsimp only;conv=>rhs;rw[<-List.map_id P]
 apply List.map_congr_left;intro q hq;by_cases e:q.1=S
 .rw[AB e];have:=Nc nd hq;rw[e,h]at this;rw[CH this];rfl
 .rw[AD e];rfl
def dW (h:plc LL S=some j):j<LL.length:=(List.findIdx?_eq_some_iff_findIdx_eq.mp h).1
def Ms (h1:fo Y M=some (.dat (.ref n),M)) (h:M[n]?=some (dT P)) (h2:fi Y M=some (.dat (tI S),M)) (h3:fx Y M=some (.dat v,M)):Ew fo fi fx Y M=some (.dat ((ze P S).getD v),M):=by
 have hg:=dgT (g:=S) h;unfold Ew toD;rw[h1];dsimp only;rw[h];dsimp only;rw[h2];dsimp only;rw[h3];dsimp only;rw[hg]
def NY (hf:f Y M=some (.dat (.int i),M)) (hg:g Y M=some (.dat (.int j),M)):fB Gh (zE f (zE g zJ)) Y M=some (.dat (.int (if j<i then j else i)),M):=by
 unfold fB zE zJ;rw[hf];dsimp only;rw[hg];rfl
section
variable {zA:Ya} {l:Nat} {R:Ye}
theorem Ny (LL:List (List (List Int))):∀ {as:List (List (List Int))} {n:Nat},DO zA l LL n as=true -> ∀ (k:Nat) L,as[k]?=some L -> ∀ S∈L,DC zA l LL S (((n+k:Nat):Int)+1)=true
 |[],n,_,k,L,e,_,_=>by simp at e
 |L0::r,n,h,0,L,e,S,hS=>by
  unfold DO at h;rw[Am]at h;cases e;exact Ae.mp h.1 S hS
 |L0::r,n,h,k+1,L,e,S,hS=>by
  unfold DO at h;rw[Am]at h;rw[show n+(k+1)=(n+1)+k by omega];exact Ny LL h.2 k L e S hS
theorem NH (LL:List (List (List Int))):∀ {as:List (List (List Int))} {n:Nat},(∀ (k:Nat) L,as[k]?=some L -> ∀ S∈L,DC zA l LL S (((n+k:Nat):Int)+1)=true)->DO zA l LL n as=true
 |[],n,_=>rfl
 |L0::r,n,h=>by
  unfold DO;rw[Am];refine ⟨Ae.mpr λS hS=>h 0 L0 rfl S hS,NH LL λk L e S hS=>?_⟩;rw[show (n+1)+k=n+(k+1) by omega];exact h (k+1) L e S hS
noncomputable def lgB (zA:Ya) (LL:List (List (List Int))) (S:Ye) (last:Int) (g:Int):Bool:=match plc LL (setR zA S g) with|some k=>decide ((k:Int)<=last)|none=>false
def X6 (h9:zA.length<=9) (hL:KZ zA LL):Vd M (shT LL):=by
 obtain ⟨hs,hz1,hz2⟩:=hL;unfold shT Vd;refine ⟨by rw[AF];omega,Vds.of λd hd=>?_⟩;obtain ⟨L,hL,rfl⟩:=AV.mp hd;unfold lvT Vd;refine ⟨by rw[AF];have:=hz2 L hL;omega,Vds.of λd hd=>?_⟩;obtain ⟨S,hS,rfl⟩:=AV.mp hd;unfold tI Vd;refine ⟨by rw[AF];have:=(hs L hL S hS).len;omega,Vds.of λd hd=>?_⟩;obtain ⟨i,_,rfl⟩:=AV.mp hd;unfold Vd;trivial
def WM (h9:zA.length<=9) (hs:∀ L∈LL,∀ S∈L,IsS zA S) (hz:LL.length<=2000)
  (hQ:∀ y5 y6 P,Pl zA P LL->Q .nx [some (mD zA),some (tI R),some (shT LL),some (.bl closed),some (.ref M.length),y5,y6,none] (M++[dT P])) :
  OkS (Ad (zt (zD (toD (fB zV (zE (zC 2) zJ))) zG)) (gN 5) (Ad (AU (fOp kIx (zC 2) (zC 5))) (gN 6) (Co (fB Gh (zE (zC 5) (zE (Ew (zC 4) (zC 6) (zC 5)) zJ))) (zC 4) (zC 6))) [some (mD zA),some (tI R),some (shT LL),some (.bl closed),some (.ref M.length),none,none,none] (M++[.dicT []])) Q:=by
 have el:=Bo (f:=zC 2) (Y:=[some (mD zA),some (tI R),some (shT LL),some (.bl closed),some (.ref M.length),none,none,none]) (M:=M++[.dicT []]) (x:=.dat (shT LL)) rfl za;rw[AF]at el;rw[Bp];refine ⟨_,_,_,CV el (by omega) (by omega),?_⟩;rw[CK];refine D2 (n:=LL.length) (I:=λi Y M'=>(∃ y5 y6,Y=[some (mD zA),some (tI R),some (shT LL),some (.bl closed),some (.ref M.length),y5,y6,none]) /\ ∃ P,M'=M++[dT P]/\Pl zA P (LL.take i)) ?_ ?_ _ _ ⟨⟨_,_,rfl⟩,[],rfl,⟨λS=>rfl,by simp,λ_ h=>by cases h⟩⟩
 .rintro i Y M' hi ⟨⟨y5,y6,rfl⟩,P,rfl,pl⟩;refine ⟨_,rfl,?_⟩;show OkS (Ad _ _ _ [some (mD zA),some (tI R),some (shT LL),some (.bl closed),some (.ref M.length),some (.int (i:Nat)),y6,none] (M++[dT P])) _;rw[Bp];have hti:(LL.take i).length=i:=by rw[BF];omega
  have eL:fOp kIx (zC 2) (zC 5) [some (mD zA),some (tI R),some (shT LL),some (.bl closed),some (.ref M.length),some (.int (i:Nat)),y6,none] (M++[dT P])=some (.dat (lvT LL[i]),M++[dT P]):=zI (x:=.dat (shT LL)) (y:=.dat (.int (i:Nat))) rfl rfl (BR (xs:=LL.map lvT) za (C6 (by rw[Af,AL hi];rfl)));have hLi:LL[i]∈LL:=Ab hi;have htk:LL.take (i+1)=LL.take i++[LL[i]]:=by rw[List.take_add_one,AL hi];rfl
  rw[htk];generalize LL[i]=L at eL hLi;refine ⟨_,_,_,DF eL za,?_⟩;refine Dc (I:=λr Y M'=>(∃ y6,Y=[some (mD zA),some (tI R),some (shT LL),some (.bl closed),some (.ref M.length),some (.int (i:Nat)),y6,none]) /\ ∃ (part rest:Ya) (P:List (List Int × D)),r=rest.map tI/\part++rest=L/\M'=M++[dT P]/\Pl zA P (LL.take i++[part])) ?_ ?_ _ _ _ ⟨⟨_,rfl⟩,[],L,P,rfl,rfl,rfl,pl.open_⟩
  .rintro x r Y M' ⟨⟨y6,rfl⟩,part,rs,P,er,hp,rfl,pl⟩;cases rs with
   |nil=>cases er
   |cons S rs=>
    obtain ⟨rfl,rfl⟩:=CF er;have s:=hs L hLi S (by rw[<-hp];simp);refine ⟨zo,_,rfl,?_⟩;show OkS (Co _ _ _ [some (mD zA),some (tI R),some (shT LL),some (.bl closed),some (.ref M.length),some (.int (i:Nat)),some (tI S),none] (M++[dT P])) _;have eP:(M++[dT P])[M.length]?=some (dT P):=by simp
    have hl:=GV pl.nd pl.st h9;rw[AF]at hl;obtain ⟨p1,p2⟩:=pl.add s;have hlk:=pl.lk S;have eg:=Ms (fo:=zC 4) (fi:=zC 6) (fx:=zC 5) (Y:=[some (mD zA),some (tI R),some (shT LL),some (.bl closed),some (.ref M.length),some (.int (i:Nat)),some (tI S),none]) (v:=.int (i:Nat)) rfl eP (S:=S) rfl rfl;cases hp0:plc (LL.take i++[part]) S with
    |none=>
     rw[hp0]at hlk;have hn:ze P S=none:=hlk;rw[hn]at eg;refine Fv (NY (i:=(i:Nat)) (j:=(i:Nat)) rfl eg) rfl rfl (C8 eP (by omega)) ?_;have hput:BI P S (.int (if ((i:Nat):Int)<(i:Nat) then ((i:Nat):Int) else (i:Nat)))=P++[(S,.int ((LL.take i).length:Nat))]:=by unfold BI;rw[hn,hti,AD (by omega)]
     refine ⟨⟨_,rfl⟩,part++[S],rs,_,rfl,by rw[<-hp];simp,?_,p2 (by rw[hn];rfl)⟩;rw[hput,List.set_append_right _ _ (AG _)];simp
    |some j=>
     rw[hp0]at hlk;have hj:=dW hp0;rw[AN,hti]at hj;have hj:j<i+1:=hj;have hn:ze P S=some (.int (j:Nat)):=hlk;rw[hn]at eg;refine Fv (NY (i:=(i:Nat)) (j:=(j:Nat)) rfl eg) rfl rfl (C8 eP (by omega)) ?_;have hij:(if ((j:Nat):Int)<(i:Nat) then ((j:Nat):Int) else (i:Nat))=(j:Nat):=by
      by_cases z:((j:Nat):Int)<(i:Nat)
      .rw[AB z]
      .rw[AD z];omega
     rw[hij,bJ pl.nd hn];refine ⟨⟨_,rfl⟩,part++[S],rs,P,rfl,by rw[<-hp];simp,?_,p1 (by rw[hn];rfl)⟩;rw[List.set_append_right _ _ (AG _)];simp
  .rintro Y M' ⟨⟨y6,rfl⟩,part,rs,P,er,hp,rfl,pl⟩;have:rs=[]:=by cases rs with|nil=>rfl|cons _ _=>cases er
   subst this;rw[By]at hp;subst hp;exact ⟨zo,⟨_,_,rfl⟩,P,rfl,pl⟩
 .rintro Y M' ⟨⟨y5,y6,rfl⟩,P,rfl,pl⟩;rw[List.take_length]at pl;exact hQ _ _ P pl
def Vs (m:IsM zA l) (h9:zA.length<=9) (hl9:l<=1000) (hs:∀ L∈LL,∀ S∈L,IsS zA S) (hz:LL.length<=2000) (h1:0<LL.length) (eP:M[j]?=some (dT P)) (pl:Pl zA P LL) :
  OkS (zM (Ad (zt (zD (toD (fOp zY (fOp CU (fB zV (zE (zC 2) zJ)) (fC (.int 1))) (fB Cd (zE (zC 3) zJ)))) zG)) (gN 5) (Ad (AU (fOp kIx (zC 2) (zC 5))) (gN 6) (Ad (zt (zD (toD (fB zV (zE (fOp kIx (zC 0) (fC (.int 0))) zJ))) zG)) (gN 7) (sIf (tst (fOp kGt (Ew (zC 4) (zO ER (zD (toD (zC 0)) (zD (toD (zC 6)) (zD (toD (zC 7)) zG)))) (fOp zY (zC 5) (fC (.int 2)))) (fOp zY (zC 5) (fC (.int 1))))) (zv (fC (.bl false))) Ac)))) (zv (fC (.bl true))) [some (mD zA),some (tI R),some (shT LL),some (.bl closed),some (.ref j),y5,y6,none] M)
   λo Y M'=>o=.ret (.bl (DO zA l LL 0 (if closed then LL else LL.take (LL.length-1))))/\M'=M:=by
 have el:=Bo (f:=zC 2) (Y:=[some (mD zA),some (tI R),some (shT LL),some (.bl closed),some (.ref j),y5,y6,none]) (M:=M) (x:=.dat (shT LL)) rfl za;rw[AF]at el;have er:fOp zY (fOp CU (fB zV (zE (zC 2) zJ)) (fC (.int 1))) (fB Cd (zE (zC 3) zJ)) [some (mD zA),some (tI R),some (shT LL),some (.bl closed),some (.ref j),y5,y6,none] M=some (.dat (.int ((LL.length:Int)-1+(if closed then 1 else 0))),M) :=
  zI (zI el rfl (zH (Nq.mpr ⟨rfl,rfl⟩))) (by rw[fB1 (x:=.dat (.bl closed)) rfl];exact zH (OT.mpr ⟨rfl,rfl⟩)) (zH (De.mpr ⟨rfl,rfl⟩))
 generalize hA:(if closed then LL else LL.take (LL.length-1))=as;have hN:((LL.length:Int)-1+(if closed then 1 else 0)).toNat=as.length:=by
  rw[<-hA];cases closed with
  |true=>rw[AB rfl,AB rfl];omega
  |false=>rw[AD (by decide),AD (by decide),BF];omega
 have hat:∀ k,k<as.length->as[k]?=LL[k]?:=λk hk=>by
  rw[<-hA]at hk ⊢;cases closed with
  |true=>rw[AB rfl]
  |false=>
   rw[AD (by decide)]at hk ⊢;rw[BF]at hk;exact List.getElem?_take_of_lt (by omega)
 have hal:as.length<=LL.length:=by
  rw[<-hA];cases closed with
  |true=>rw[AB rfl];omega
  |false=>rw[AD (by decide),BF];omega
 rw[zL,Bp];refine ⟨_,_,_,CV er (by cases closed <;> simp <;> omega) (by cases closed <;> simp <;> omega),?_⟩;rw[hN];refine D2 (n:=as.length) (I:=λk Y M'=>M'=M/\(∃ y5 y6 y7,Y=[some (mD zA),some (tI R),some (shT LL),some (.bl closed),some (.ref j),y5,y6,y7]) /\ ∀ k':Nat,k'<k -> ∀ L,as[k']?=some L -> ∀ S∈L,DC zA l LL S ((k':Nat)+1)=true) ?_ ?_ _ _ ⟨rfl,⟨_,_,_,rfl⟩,λk h=>by omega⟩
 .rintro k Y M' hk ⟨rfl,⟨y5,y6,y7,rfl⟩,hall⟩;refine ⟨_,rfl,?_⟩;show OkS (Ad _ _ _ [some (mD zA),some (tI R),some (shT LL),some (.bl closed),some (.ref j),some (.int (k:Nat)),y6,y7] M') _;rw[Bp];have hkL:k<LL.length:=by omega
  have eL:fOp kIx (zC 2) (zC 5) [some (mD zA),some (tI R),some (shT LL),some (.bl closed),some (.ref j),some (.int (k:Nat)),y6,y7] M'=some (.dat (lvT LL[k]),M'):=zI (x:=.dat (shT LL)) (y:=.dat (.int (k:Nat))) rfl rfl (BR (xs:=LL.map lvT) za (C6 (by rw[Af,AL hkL];rfl)));have hLi:LL[k]∈LL:=Ab hkL;have hak:as[k]?=some LL[k]:=by rw[hat k hk,AL hkL]
  generalize LL[k]=L at eL hLi hak;refine ⟨_,_,_,DF eL za,?_⟩;refine Dc (I:=λr Y M1=>M1=M'/\(∃ y6 y7,Y=[some (mD zA),some (tI R),some (shT LL),some (.bl closed),some (.ref j),some (.int (k:Nat)),y6,y7]) /\ ∃ (part rest:Ya),r=rest.map tI/\part++rest=L /\ ∀ S∈part,DC zA l LL S ((k:Nat)+1)=true) ?_ ?_ _ _ _ ⟨rfl,⟨_,_,rfl⟩,[],L,rfl,rfl,λ_ h=>by cases h⟩
  .rintro x r Y M1 ⟨rfl,⟨y6,y7,rfl⟩,part,rs,er,hp,hpt⟩;cases rs with
   |nil=>cases er
   |cons S rs=>
    obtain ⟨rfl,rfl⟩:=CF er;have hSL:S∈L:=by rw[<-hp];simp
    have s:=hs L hLi S hSL;refine ⟨zo,_,rfl,?_⟩;show OkS (Ad _ _ _ [some (mD zA),some (tI R),some (shT LL),some (.bl closed),some (.ref j),some (.int (k:Nat)),some (tI S),y7] M1) _;rw[Bp];refine ⟨_,_,_,CV (Qm m rfl) (by omega) (by omega),?_⟩;rw[CK];refine D2 (n:=l) (I:=λg Y M2=>M2=M1/\(∃ y7,Y=[some (mD zA),some (tI R),some (shT LL),some (.bl closed),some (.ref j),some (.int (k:Nat)),some (tI S),y7]) /\ ∀ g':Nat,g'<g->lgB zA LL S ((k:Nat)+1) (g':Nat)=true) ?_ ?_ _ _ ⟨rfl,⟨_,rfl⟩,λ_ h=>by omega⟩
    .rintro g Y M2 hg ⟨rfl,⟨y7,rfl⟩,hgs⟩;refine ⟨_,rfl,?_⟩;show OkS (sIf _ _ _ [some (mD zA),some (tI R),some (shT LL),some (.bl closed),some (.ref j),some (.int (k:Nat)),some (tI S),some (.int (g:Nat))] M2) _;have est:=zp (Y:=[some (mD zA),some (tI R),some (shT LL),some (.bl closed),some (.ref j),some (.int (k:Nat)),some (tI S),some (.int (g:Nat))]) (a:=zD (toD (zC 0)) (zD (toD (zC 6)) (zD (toD (zC 7)) zG))) (zg rfl (zg rfl (zU rfl))) (Ni (M:=M2) m h9 s (g:=(g:Nat)) (by omega) (by omega));have eg:=Ms (fo:=zC 4) (fx:=fOp zY (zC 5) (fC (.int 2))) (v:=.int ((k:Nat)+2)) rfl eP est (zI rfl rfl (zH (De.mpr ⟨rfl,rfl⟩)));rw[pl.lk]at eg;have et:tst (fOp kGt (Ew (zC 4) (zO ER (zD (toD (zC 0)) (zD (toD (zC 6)) (zD (toD (zC 7)) zG)))) (fOp zY (zC 5) (fC (.int 2)))) (fOp zY (zC 5) (fC (.int 1)))) [some (mD zA),some (tI R),some (shT LL),some (.bl closed),some (.ref j),some (.int (k:Nat)),some (tI S),some (.int (g:Nat))] M2=some (!lgB zA LL S ((k:Nat)+1) (g:Nat),M2):=by
      unfold lgB;cases hpc:plc LL (setR zA S (g:Nat)) with
      |none=>
       rw[hpc]at eg;refine Au (zI eg (zI rfl rfl (zH (De.mpr ⟨rfl,rfl⟩))) (zH (Hr.mpr ⟨?_,rfl⟩)));rw[AR (by omega)];rfl
      |some q=>
       rw[hpc]at eg;refine Au (zI (x:=.dat (.int (q:Nat))) eg (zI rfl rfl (zH (De.mpr ⟨rfl,rfl⟩))) (zH (Hr.mpr ⟨?_,rfl⟩)));dsimp only;by_cases z:((q:Nat):Int)<=(k:Nat)+1
       .rw[AR z,AM (by omega)];rfl
       .rw[AM z,AR (by omega)];rfl
     cases hb:lgB zA LL S ((k:Nat)+1) (g:Nat) with
     |true=>
      rw[hb]at et;refine K1 et ⟨rfl,⟨_,rfl⟩,λg' hg'=>?_⟩;by_cases z:g'=g
      .rw[z];exact hb
      .exact hgs g' (by omega)
     |false=>
      rw[hb]at et;rw[BQ];refine zF et ?_;rw[AB (show (!false)=true from rfl)];refine zc (d:=.bl false) rfl ?_;show _/\_;refine ⟨?_,rfl⟩;cases ha:DO zA l LL 0 as with
      |false=>rfl
      |true=>
       have h2:=Ny LL ha k L hak S hSL;rw[Nat.zero_add]at h2;unfold DC at h2;have h3:=Ae.mp h2 ((g:Nat):Int) (by unfold BN;exact AV.mpr ⟨g,List.mem_range.mpr hg,rfl⟩);have h4:lgB zA LL S ((k:Nat)+1) (g:Nat)=true:=h3;rw[hb]at h4;cases h4
    .rintro Y M2 ⟨rfl,⟨y7,rfl⟩,hgs⟩;refine ⟨rfl,⟨_,_,rfl⟩,part++[S],rs,rfl,by rw[<-hp];simp,λT hT=>?_⟩;rcases AS.mp hT with z|z
     .exact hpt T z
     .rw[BC.mp z];unfold DC;rw[Ae];intro x hx;unfold BN at hx;obtain ⟨g,hg,rfl⟩:=AV.mp hx;exact hgs g (List.mem_range.mp hg)
  .rintro Y M1 ⟨rfl,⟨y6,y7,rfl⟩,part,rs,er,hp,hpt⟩;have:rs=[]:=by cases rs with|nil=>rfl|cons _ _=>cases er
   subst this;rw[By]at hp;subst hp;refine ⟨zo,rfl,⟨_,_,_,rfl⟩,λk' hk' L' hL' S hS=>?_⟩;by_cases z:k'=k
   .subst z;rw[hak]at hL';cases hL';exact hpt S hS
   .exact hall k' (by omega) L' hL' S hS
 .rintro Y M' ⟨rfl,⟨y5,y6,y7,rfl⟩,hall⟩;rw[zQ];refine zc (d:=.bl true) rfl ⟨?_,rfl⟩;rw[NH LL λk L e S hS=>by rw[Nat.zero_add];exact hall k (AI.mp e).1 L e S hS]
def S9 (m:IsM zA l) (h9:zA.length<=9) (hl9:l<=1000) (wf:∀ (j:Nat) u,M[j]?=some u->MO.und M.length u=true) (hd:Vd M d)
  (hz:∀ LL,d=shT LL->LL.length<=2000 /\ ∀ L∈LL,L.length<=8000):Gu [mD zA,tI R,d,.bl closed] M=some (.bl (Eg zA l R d closed),M):=by
 unfold Gu;refine EN wf rfl ?_;rw[BG];unfold KN;show OkS (zM _ _ [some (mD zA),some (tI R),some d,some (.bl closed),none,none,none,none] M) _;have e0:=ntE (zp (Y:=[some (mD zA),some (tI R),some d,some (.bl closed),none,none,none,none]) (a:=zD (toD (zC 0)) (zD (toD (zC 2)) zG)) (zg rfl (zU rfl)) (Zp (zA:=zA) hd));by_cases h:HH zA d
 .obtain ⟨LL,rfl,hs⟩:=h;obtain ⟨hz1,hz2⟩:=hz LL rfl;rw[show Iv zA (shT LL)=true from FQ ⟨LL,rfl,hs⟩]at e0;rw[NS hs];refine EY e0 ?_;have el:=Bo (f:=zC 2) (Y:=[some (mD zA),some (tI R),some (shT LL),some (.bl closed),none,none,none,none]) (M:=M) (x:=.dat (shT LL)) rfl za;rw[AF]at el;have ez:tst (fOp kEq (fB zV (zE (zC 2) zJ)) (fC (.int 0))) [some (mD zA),some (tI R),some (shT LL),some (.bl closed),none,none,none,none] M=some (decide ((LL.length:Int)=0),M):=Au (zI el rfl (zH (B3.mpr ⟨rfl,rfl⟩)));cases LL with
  |nil=>
   refine DA ez ?_;exact zc (d:=.bl (!closed)) (by unfold DY;rw[show zC 3 [some (mD zA),some (tI R),some (shT []),some (.bl closed),none,none,none,none] M=some (.dat (.bl closed),M)from rfl]) ⟨rfl,[],by simp⟩
  |cons L0 rest=>
   refine EY (ez.trans (by rw[AM (by simp;omega)])) ?_;have ein:tst (fOp (Ed true) (zC 1) (fOp kIx (zC 2) (fC (.int 0)))) [some (mD zA),some (tI R),some (shT (L0::rest)),some (.bl closed),none,none,none,none] M=some (!(decide (R∈L0)),M) :=
    Au (k:=!(decide (R∈L0))) (zI (x:=.dat (tI R)) (y:=.dat (lvT L0)) rfl (zI (x:=.dat (shT (L0::rest))) (y:=.dat (.int 0)) rfl rfl (BR (xs:=(L0::rest).map lvT) (d:=lvT L0) za (C6 (j:=0) rfl))) (Qk (neg:=true) (p:=R) (ps:=L0) za))
   cases hR:decide (R∈L0) with
   |false=>
    rw[hR]at ein;refine DA ein ?_;exact zc (d:=.bl false) rfl ⟨by unfold shB;dsimp only;rw[hR];rfl,[],by simp⟩
   |true=>
   rw[hR]at ein;refine EY ein ?_;rw[zL,zi];refine zF (a:=.dat (.ref M.length)) (M:=M++[.dicT []]) rfl ?_;rw[zS,zQ];dsimp only[List.set];rw[zL];refine WM h9 hs hz1 λy5 y6 P pl=>?_;rw[zQ];refine OkS.mono (Vs m h9 hl9 hs hz1 (by simp) (zq _ _) pl) ?_;rintro o Y M' ⟨rfl,rfl⟩;refine ⟨?_,⟨[dT P],rfl⟩⟩;unfold shB;dsimp only;rw[hR];rfl
 .rw[Po h];rw[JG h]at e0;exact DA e0 (zc (d:=.bl false) rfl ⟨rfl,[],by simp⟩)
def SK (m:IsM zA l) (h9:zA.length<=9) (hl9:l<=1000) (wf:∀ (j:Nat) u,M[j]?=some u->MO.und M.length u=true) (hd:Vd M d)
  (hz:∀ LL,d=shT LL->LL.length<=2000 /\ ∀ L∈LL,L.length<=8000):GC [mD zA,tI R,d,.bl closed] M=some (.bl true,M):=by
 refine zH ?_;unfold GC;rw[BG];unfold LQ;show OkS (zM _ _ [some (mD zA),some (tI R),some d,some (.bl closed),none] M) _;refine Cj (zp (zg rfl (zg rfl (zg rfl (zU rfl)))) (aY m h9 hl9 wf hd hz)) ?_;have e2:=Dh (a:=true) (b:=true) (f:=BK "bool" (zC 4)) (g:=fOp kEq (zC 4) (zO Gu (zD (toD (zC 0)) (zD (toD (zC 1)) (zD (toD (zC 2)) (zD (toD (zC 3)) zG)))))) (Y:=[some (mD zA),some (tI R),some d,some (.bl closed),some (.bl (Eg zA l R d closed))]) (M:=M) (isV rfl rfl (by decide)) λ_=>zI (x:=.dat (.bl (Eg zA l R d closed))) rfl (zp (zg rfl (zg rfl (zg rfl (zU rfl)))) (S9 m h9 hl9 wf hd hz)) (by cases Eg zA l R d closed <;> rfl);exact zc e2 ⟨rfl,rfl⟩
end
open Lac (EN)
noncomputable def LO:FS:=(zM (AK 1 (AQ zG))
  (zM (AK 2 (A8 zG))
  (zM (Ad (AU (zC 0)) (gN 3) (zM (AK 2 (fOp zY (zC 3) (zC 2)))
  (Al (fM zw (zC 1) (zD (toD (zC 2)) zG)))))
  (zv (fB Av (zE (zC 1) zJ))))))
noncomputable def Hl:FF:=Dr (Ag 4 LO)
noncomputable def Lo:FS:=(zM (AK 2 (fB zV (zE (zC 1) zJ)))
  (zM (AK 3 (AQ (zD (toD (A8 zG)) (zD (toD (A8 (zD (toD (zC 2)) zG))) (zD (toD (A8 (zD (toD (DL (fC (.int 1)))) zG))) (zD (toD (A8 (zD (toD (fOp CU (zC 2) (fC (.int 1)))) (zD (toD (fC (.int 0))) zG)))) (zD (toD (A8 (zD (toD (fC (.int 0))) (zD (toD (fC (.int 0))) zG)))) (zD (toD (AQ (zD (toD (fC (.int 0))) zG))) (zD (toD (A8 (zD (toD (fC (.bl true))) zG))) (zD (toD (A8 (zD (toD (fC (.int 0))) (zD (toD (fC .non)) zG)))) (zD (toD (fC .non)) (zD (toD (fC (.int 0))) (zD (toD (fC (.str "a"))) (zD (toD (A8 (zD (toD (A8 (zD (toD (fC (.int 0))) zG))) zG))) (zD (toD (A8 (zD (toD (fC (.str "0"))) zG))) (zD (toD G5) zG))))))))))))))))
  (zv (fOp kIx (zC 3) (zO zN (zD (toD (zC 0)) (zD (toD (fB zV (zE (zC 3) zJ))) zG)))))))
noncomputable def Ge:FF:=Ag 4 Lo
noncomputable def Ks:FS:=(zM (AK 3 (AQ (zD (toD (fC .non)) (zD (toD (fC (.int 0))) (zD (toD (fC (.bl true))) (zD (toD (fC (.str ""))) (zD (toD (fB C5 (zE (zC 2) zJ))) (zD (toD (fOp zY (zC 2) (A8 (zD (toD (AQ zG)) zG)))) (zD (toD (fOp zY (zC 2) (A8 (zD (toD (fC .non)) zG)))) (zD (toD (fOp zY (zC 2) (A8 (zD (toD (fC (.int 0))) zG)))) (zD (toD (A8 (zD (toD (zC 2)) zG))) (zD (toD G5) zG))))))))))))
  (zM (AK 3 (fOp CQ (zC 3) (AQ (zD (toD (fB Av (zE (zn [4] (AU (zC 2)) (gN 4) zf (fB C5 (zE (zC 4) zJ))) zJ))) (zD (toD (fOp zY (zC 2) (A8 (zD (toD (A8 (zD (toD (A8 (zD (toD (fC (.int 0))) zG))) (zD (toD (fC (.int 0))) zG)))) zG)))) (zD (toD (AQ (zD (toD (AQ (zD (toD (A8 (zD (toD (fC (.int 0))) zG))) zG))) zG))) (zD (toD (A8 (zD (toD (A8 (zD (toD (fC (.int 0))) zG))) zG))) (zD (toD (fOp kIx (fOp zY (zC 2) (A8 (zD (toD (A8 zG)) zG))) (fC (.int 0)))) zG))))))))
  (zv (fOp kIx (zC 3) (zO zN (zD (toD (zC 0)) (zD (toD (fB zV (zE (zC 3) zJ))) zG)))))))
noncomputable def Hv:FF:=Ag 5 Ks
def Tk (M M':Mem):Prop:=∀ n t,DG M (.dat (.ref n))=some t->DG M' (.dat (.ref n))=some t
def Tk.trans (h:Tk A B) (k:Tk B C):Tk A C:=λn t e=>k n t (h n t e)
def Tk.at_ (h:∀ (n:Nat) u,M[n]?=some u->M'[n]?=some u\/(∃ a b,u=.lst a/\M'[n]?=some (.lst b)) \/ ∃ a b,u=.dict a/\M'[n]?=some (.dict b)):Tk M M':=λn t e=>by
 unfold DG at e ⊢;dsimp only at e ⊢;cases q:M[n]? with
 |none=>rw[q]at e;cases e
 |some u=>
  rw[q]at e;rcases h n u q with z|⟨a,b,rfl,z⟩|⟨a,b,rfl,z⟩
  .rw[z];exact e
  .rw[z];exact e
  .rw[z];exact e
def Tk.app (M us:Mem):Tk M (M++us):=Tk.at_ λn u e=> .inl (by rw[Ai (AI.mp e).1];exact e)
def Tk.setL (h:M[j]?=some (.lst xs)):Tk M (M.set j (.lst ys)):=Tk.at_ λn u e=>by
 by_cases z:j=n
 .subst z;rw[h]at e;cases e;exact .inr (.inl ⟨_,ys,rfl,B9 (AI.mp h).1⟩)
 .exact .inl (by rw[A7 z];exact e)
def Nw.tk (h:Nw M M' n k q) (g:Gen M n k q0):Tk M M':=Tk.at_ λj u e=>by
 obtain ⟨c,a,x,e1,e2,_⟩:=g.ex;obtain ⟨c',a',x',f1,f2,_⟩:=h.gen.ex;by_cases z1:j=n
 .subst z1;rw[e1]at e;cases e;exact .inr (.inr ⟨_,_,rfl,f1⟩)
 .by_cases z2:j=k
  .subst z2;rw[e2]at e;cases e;exact .inr (.inl ⟨_,_,rfl,f2⟩)
  .exact .inl ((h.fr j (AI.mp e).1 z1 z2).trans e)
mutual
theorem EC (k:Tk M M'):∀ {d:D},Vd M d->Vd M' d
 |.ref n,h=>by
  unfold Vd at h ⊢;obtain ⟨t,e,q⟩:=h;exact ⟨t,k n t e,q⟩
 |.tup ds,h=>by
  unfold Vd at h ⊢;exact ⟨h.1,PF k h.2⟩
 |.non,_=>by unfold Vd;trivial
 |.bl _,_=>by unfold Vd;trivial
 |.int _,_=>by unfold Vd;trivial
 |.str _,_=>by unfold Vd;trivial
theorem PF (k:Tk M M'):∀ {ds:List D},Vds M ds->Vds M' ds
 |[],_=>by unfold Vds;trivial
 |d::ds,h=>by
  unfold Vds at h ⊢;exact ⟨EC k h.1,PF k h.2⟩
end
mutual
theorem bZ:∀ {d:D},Vd M d->D.und M.length d=true
 |.ref n,v=>by
  unfold Vd at v;obtain ⟨t,e,_⟩:=v;unfold DG at e;dsimp only at e;cases q:M[n]? with
  |none=>rw[q]at e;cases e
  |some u=>unfold D.und;exact AR (AI.mp q).1
 |.tup ds,v=>by unfold Vd at v;unfold D.und;exact Jp v.2
 |.non,_=>rfl
 |.bl _,_=>rfl
 |.int _,_=>rfl
 |.str _,_=>rfl
theorem Jp:∀ {ds:List D},Vds M ds->D.unds M.length ds=true
 |[],_=>rfl
 |d::ds,v=>by unfold Vds at v;unfold D.unds;rw[bZ v.1,Jp v.2];rfl
end
def Cn (i:Int):Vd M (.int i):=by unfold Vd;trivial
def Ox (i:Bool):Vd M (.bl i):=by unfold Vd;trivial
def LM (i:Str):Vd M (.str i):=by unfold Vd;trivial
def I0:Vd M .non:=by unfold Vd;trivial
def Fz (h:M[j]?=some (.lst xs)):Vd M (.ref j):=by
 unfold Vd;refine ⟨"list", ?_,.inl rfl⟩;unfold DG;dsimp only;rw[h]
def Ql (h:M[j]?=some (.dict xs)):Vd M (.ref j):=by
 unfold Vd;refine ⟨"dict", ?_,.inr rfl⟩;unfold DG;dsimp only;rw[h]
def ET (hz:ds.length<=100000) (h:∀ d∈ds,Vd M d):Vd M (.tup ds):=by
 unfold Vd;exact ⟨hz,Vds.of h⟩
def Ky:Vd M (.tup []):=ET (by simp) λ_ h=>by cases h
def EI (h:Vd M a):Vd M (.tup [a]):=ET (by simp) λx hx=>by rw[BC.mp hx];exact h
def IV (h:Vd M a) (h2:Vd M b):Vd M (.tup [a,b]):=ET (by simp) λx hx=>by
 rcases AO.mp hx with z|z
 .rw[z];exact h
 .rw[BC.mp z];exact h2
def B4 {p:D->Prop}:∀ d∈([]:List D),p d:=λd h=>by cases h
def zT {p:D->Prop} {ds:List D} {d:D} (h:p d) (hs:∀ d∈ds,p d):∀ x∈d::ds,p x:=λx hx=>by
 rcases AO.mp hx with z|z
 .rw[z];exact h
 .exact hs x z
def FR {p:D->Prop} {ds es:List D} (h:∀ d∈ds,p d) (hs:∀ d∈es,p d):∀ x∈ds++es,p x:=λx hx=>(AS.mp hx).elim (h x) (hs x)
def Sz:D->Prop
 |.tup ds=>ds.length<=2000 /\ ∀ x∈ds,Hi x<=8000
 |_=>True
def Sz.lv (h:Sz d):∀ LL,d=shT LL->LL.length<=2000 /\ ∀ L∈LL,L.length<=8000:=by
 rintro LL rfl;obtain ⟨h1,h2⟩:=h;rw[AF]at h1;refine ⟨h1,λL hL=>?_⟩;have h3:(L.map tI).length<=8000:=h2 (lvT L) (List.mem_map_of_mem hL);rw[AF]at h3;exact h3
def Th (M:Mem) (d:D):Prop:=Vd M d/\Sz d
def Th.keep (k:Tk M M') (h:Th M d):Th M' d:=⟨EC k h.1,h.2⟩
def Cy (h:∀ d∈L,Vd M d):D.unds M.length L=true:=Jp (Vds.of h)
def Ds {k:K2} {f g:FE} {Y:Sd} {M M1 M2:Mem} {x y:EV} {r:Option (EV × Mem)} (hf:f Y M=some (x,M1)) (hg:g Y M1=some (y,M2)) (hk:k x y M2=r):fOp k f g Y M=r:=by
 unfold fOp;rw[hf];dsimp only;rw[hg];exact hk
def aD {f:FE} {g:FA} {Y:Sd} {M M1 M2:Mem} {d:D} {ds:List D} (h:f Y M=some (.dat d,M1)) (hg:g Y M1=some (ds,M2)):zD (toD f) g Y M=some (d::ds,M2):=by
 unfold zD toD;rw[h];dsimp only;rw[hg]
def BV {g:FA} {Y:Sd} {M M1:Mem} {ds:List D} (h:g Y M=some (ds,M1)) (hz:ds.length<=100000):A8 g Y M=some (.dat (.tup ds),M1):=by
 unfold A8;rw[h];dsimp only;rw[AB (zb hz)]
def Jo (hf:f Y M=some (x,M)) (h:Az M x=some xs):fB C5 (zE f zJ) Y M=some (.fl xs,M):=by
 rw[fB1 hf];unfold C5;dsimp only;rw[h]
def Mj (h:xs.length+ys.length<=90000):zY (.dat (.tup xs)) (.dat (.tup ys)) M=some (.dat (.tup (xs++ys)),M):=zH (XC.mpr ⟨zb (by omega),rfl,rfl⟩)
def mlR (h:M[n]?=some (.lst xs)):DZ M (.dat (.ref n))=some xs:=by
 unfold DZ;dsimp only;rw[h]
def Io (hx:DZ M x=some xs) (hy:DZ M y=some ys) (hz:xs.length+ys.length<=90000):CQ x y M=some (.fl (xs++ys),M):=by
 unfold CQ;rw[hx,hy];dsimp only;rw[AB (zb (by omega))]
def Mu (g:Gen A 1 2 q) (hq:q<1000000000) (e:A[j]?=some (.lst L)) (j1:j≠1) (j2:j≠2) (l0:0<L.length) (l1:L.length<=1000) (h0:∀ M,zC 0 Y M=some (.dat (.ref 1),M)) (hn:∀ M,zC n Y M=some (.dat (.ref j),M))
  (p:∀ d A',d∈L->Nw A A' 1 2 (q+1)->P (.dat d) A'):Ok (fOp kIx (zC n) (zO zN (zD (toD (zC 0)) (zD (toD (fB zV (zE (zC n) zJ))) zG))) Y A) P:=by
 refine Gp.mpr (zF (hn A) (D6 g hq (h0 A) (Bo (hn A) (zh e)) (by omega) (by omega) λt A' t0 t1 nw _=>?_));have hlt:t.toNat<L.length:=by omega
 exact NO (zh (nw.get e j1 j2)) (HA t0 (AL hlt)) (p _ _ (Ab hlt) nw)
section
variable {zA:Ya} {l:Nat} {R:Ye}
def Ui (h9:zA.length<=9) {M:Mem} {q:Nat} (g:Gen M 1 2 q) (hq:q<1000000000):Ok (Ge [.ref 1,mD zA] M) λd M'=>Vd M' d/\Nw M M' 1 2 (q+1):=by
 unfold Ge;rw[BG];unfold Lo;show OkS (zM _ _ [some (.ref 1),some (mD zA),none,none] M) _;refine Cj (GQ rfl) ?_;show OkS (zM _ _ [some (.ref 1),some (mD zA),some (.int zA.length),none] M) _;rw[zL,zi];refine zF (CZ (aD (d:=.tup []) (BV rfl (by simp)) (aD (BV (zU (d:=.int zA.length) rfl) (by simp)) (aD (BV (zU (d:=.int (-1)) rfl) (by simp)) (aD (BV (zg (d:=.int (zA.length-1)) rfl (zU (d:=.int 0) rfl)) (by simp)) (aD (BV (zg (d:=.int 0) rfl (zU (d:=.int 0) rfl)) (by simp)) (aCl (CZ (zU (d:=.int 0) rfl) (by simp)) (aD (BV (zU (d:=.bl true) rfl) (by simp)) (aD (BV (zg (d:=.int 0) rfl (zU (d:=.non) rfl)) (by simp)) (aD (d:=.non) rfl (aD (d:=.int 0) rfl (aD (d:=.str "a") rfl (aD (BV (zU (d:=.tup [.int 0]) (BV (zU (d:=.int 0) rfl) (by simp))) (by simp)) (aD (BV (zU (d:=.str "0") rfl) (by simp)) (aD (f:=G5) rfl rfl)))))))))))))) (by simp)) (zr ?_);rw[zQ];have n1:=g.lst [.int 0] rfl;have n2:Nw M (M++[MO.lst [D.int 0]]++[MO.dict []]) 1 2 q:=n1.trans (n1.gen.app λu hu=>by rw[BC]at hu;subst hu;rfl);have k0:(M++[MO.lst [D.int 0]]++[MO.dict []])[M.length]?=some (.lst [.int 0]):=by simp
 have k1:(M++[MO.lst [D.int 0]]++[MO.dict []])[(M++[MO.lst [D.int 0]]).length]?=some (.dict []):=zq _ _;generalize M++[MO.lst [D.int 0]]++[MO.dict []]=M2 at n2 k0 k1 ⊢;generalize (M++[MO.lst [D.int 0]]).length=j1 at k1 ⊢;have vs:∀ d∈[D.tup [],.tup [.int zA.length],.tup [.int (-1)],.tup [.int (zA.length-1),.int 0],.tup [.int 0,.int 0],.ref M.length,.tup [.bl true],.tup [.int 0,.non],.non,.int 0,.str "a", .tup [.tup [.int 0]],.tup [.str "0"],.ref j1],Vd M2 d :=
  zT Ky (zT (EI (Cn _)) (zT (EI (Cn _)) (zT (IV (Cn _) (Cn _)) (zT (IV (Cn _) (Cn _)) (zT (Fz k0) (zT (EI (Ox _)) (zT (IV (Cn _) I0) (zT I0 (zT (Cn _) (zT (LM _) (zT (EI (EI (Cn _))) (zT (EI (LM _)) (zT (Ql k1) B4)))))))))))))
 show OkS (zv _ [some (.ref 1),some (mD zA),some (.int zA.length),some (.ref M2.length)] (M2++[MO.lst [D.tup [],.tup [.int zA.length],.tup [.int (-1)],.tup [.int (zA.length-1),.int 0],.tup [.int 0,.int 0],.ref M.length,.tup [.bl true],.tup [.int 0,.non],.non,.int 0,.str "a", .tup [.tup [.int 0]],.tup [.str "0"],.ref j1]])) _;generalize hL:[D.tup [],.tup [.int zA.length],.tup [.int (-1)],.tup [.int (zA.length-1),.int 0],.tup [.int 0,.int 0],.ref M.length,.tup [.bl true],.tup [.int 0,.non],.non,.int 0,.str "a", .tup [.tup [.int 0]],.tup [.str "0"],.ref j1]=L at vs ⊢;have hll:L.length=14:=by rw[<-hL];rfl
 have n3:=n2.gen.lst L (Cy vs);obtain ⟨h1,h2⟩:=n2.gen.lt;rw[JR];refine Mu n3.gen hq (zq _ _) (by omega) (by omega) (by omega) (by omega) (λ_=>rfl) (λ_=>rfl) λd A' hd nw=>?_;rw[zS];exact ⟨EC ((n3.tk n2.gen).trans (nw.tk n3.gen)) (vs d hd),(n2.trans n3).trans nw⟩
noncomputable abbrev lvM (L:Ya):MO:=.lst (L.map tI)
noncomputable abbrev refs (n c:Nat):List D:=(List.range' n c).map D.ref
def ND (hz:LL.length<=2000) (h2:zC 2 Y M=some (.dat (shT LL),M)) (he:∀ L A,∃ σ1,g (lvT L) (Bi own Y)=some σ1/\te σ1 A=some (.fl (L.map tI),A)) :
  zn own (AU (zC 2)) g zf te Y M=some (.fl (refs M.length LL.length),M++LL.map lvM):=by
 refine zH (HK.mpr ⟨_,_,_,DF h2 za,zb (by rw[AF];omega),?_⟩);have key:=G6 (Y:=Bi own Y) (g:=g) (tc:=zf) (te:=te) (all:=LL.map lvT) (gd:=none) (I:=λr acc M'=>∃ done rest:List (List (List Int)),done++rest=LL/\r=rest.map lvT/\acc=refs M.length done.length/\M'=M++done.map lvM) (Q:=λys M1=>ys=refs M.length LL.length/\M1=M++LL.map lvM) ?_ ?_ (LL.map lvT) [] M ⟨[],LL,rfl,rfl,rfl,by simp⟩
 .refine Ok.mono key ?_;rintro ys M1 ⟨h1,h2⟩;rw[List.nil_append]at h1;exact ⟨by rw[h1],h2⟩
 .rintro x r acc M' ⟨done,rest,hd,er,rfl,rfl⟩;cases rest with
  |nil=>cases er
  |cons L rest=>
   obtain ⟨rfl,rfl⟩:=CF er;obtain ⟨σ1,e1,e2⟩:=he L (M++done.map lvM);refine ⟨zo,σ1,e1,zF (a:=true) (M:=M++done.map lvM) rfl ?_⟩;rw[AB rfl];refine zF e2 (zr ?_);refine ⟨done++[L],rest,by rw[<-hd];simp,rfl,?_,by simp⟩;unfold refs;rw[AN,AF,AN,FH,List.range'_concat,B7];simp
 .rintro acc M' ⟨done,rest,hd,er,rfl,rfl⟩;have:rest=[]:=by cases rest with|nil=>rfl|cons _ _=>cases er
  subst this;rw[By]at hd;subst hd;exact ⟨zo,rfl,rfl⟩
noncomputable def Bb:List (List Int)->List (List (List Int))->List (List (List Int))
 |_,[]=>[]
 |a,L::r=>(L++a)::Bb (L++a) r
theorem Li:∀ (LL:List (List (List Int))) (a:Ya),(Bb a LL).length=LL.length
 |[],_=>rfl
 |L::r,a=>by unfold Bb;rw[CS,Li r,CS]
theorem KD:∀ (LL:List (List (List Int))) (a:Ya),∀ H∈Bb a LL,H.length<=a.length+LL.flatten.length /\ ∀ S∈H,S∈a\/S∈LL.flatten
 |[],a,H,h=>by cases h
 |L::r,a,H,h=>by
  unfold Bb at h;rw[C3,AN];rcases AO.mp h with z|z
  .rw[z,AN];exact ⟨by omega,λS hS=>(AS.mp hS).elim (λy=> .inr (Cr _ y)) .inl⟩
  .obtain ⟨h1,h2⟩:=KD r (L++a) H z;rw[AN]at h1;refine ⟨by omega,λS hS=>?_⟩;rcases h2 S hS with y|y
   .rcases AS.mp y with x|x
    .exact .inr (Cr _ x)
    .exact .inl x
   .exact .inr (Ar _ y)
theorem Ml:∀ (done:List (List (List Int))) (a:Ya) (L:Ya),Bb a (done++[L])=Bb a done++[L++((Bb a done).getLast?.getD a)]
 |[],a,L=>rfl
 |K::r,a,L=>by
  rw[List.cons_append];unfold Bb;rw[Ml r (K++a) L,List.cons_append];congr 3;cases h:Bb (K++a) r with
  |nil=>rfl
  |cons x xs=>rw[List.getLast?_cons_cons,List.getLast?_eq_some_getLast (by simp:x::xs≠[])];rfl
def T5 (LL:List (List (List Int))):D.und n (shT LL)=true:=by
 unfold shT D.und;refine FY λx hx=>?_;obtain ⟨L,_,rfl⟩:=AV.mp hx;unfold lvT D.und;refine FY λx hx=>?_;obtain ⟨S,_,rfl⟩:=AV.mp hx;exact Hu S
def XX {LL:List (List (List Int))} (hz:LL.length<=2000) (ht:LL.flatten.length<=8000) {M:Mem} (wf:∀ (j:Nat) u,M[j]?=some u->MO.und M.length u=true):Hl [shT LL] M=some (shT (Bb [] LL),M):=by
 unfold Hl;refine EN wf (T5 _) ?_;rw[BG];unfold LO;show OkS (zM _ _ [some (shT LL),none,none,none] M) _;rw[zL,zi];refine GP.mpr (Ca.mpr ⟨zb (by simp),zr ?_⟩);rw[zQ];refine Cj (d:=.tup []) (BV rfl (by simp)) ?_;show OkS (zM _ _ [some (shT LL),some (.ref M.length),some (.tup []),none] (M++[.lst []])) _;rw[zL,Bp];refine ⟨_,_,_,DF (x:=.dat (shT LL)) rfl za,?_⟩;refine Dc (I:=λr Y M'=>∃ (done rest:List (List (List Int))),done++rest=LL/\r=rest.map lvT/\M'=M++[.lst ((Bb [] done).map lvT)] /\ ∃ y3,Y=[some (shT LL),some (.ref M.length),some (lvT ((Bb [] done).getLast?.getD [])),y3]) ?_ ?_ _ _ _ ⟨[],LL,rfl,rfl,rfl,_,rfl⟩
 .rintro x r Y M' ⟨done,rest,hd,er,rfl,y3,rfl⟩;cases rest with
  |nil=>cases er
  |cons L rest=>
   obtain ⟨rfl,rfl⟩:=CF er;have hb:((Bb [] done).getLast?.getD []).length<=done.flatten.length:=by
    cases hh:(Bb [] done).getLast? with
    |none=>simp
    |some H=>
     have:=(KD done [] H (List.mem_of_getLast? hh)).1;simpa using this
   have hs:=Ml done [] L;have htt:done.flatten.length+(L.length+rest.flatten.length)<=8000:=by rw[<-hd,List.flatten_append,C3,AN,AN]at ht;exact ht
   have hdl:done.length<=2000:=by rw[<-hd,AN]at hz;omega
   generalize (Bb [] done).getLast?.getD []=a at hb hs;refine ⟨zo,_,rfl,?_⟩;show OkS (zM _ _ [some (shT LL),some (.ref M.length),some (lvT a),some (lvT L)] (M++[.lst ((Bb [] done).map lvT)])) _;refine Cj (d:=lvT (L++a)) ?_ ?_
   .rw[zI (x:=.dat (lvT L)) (y:=.dat (lvT a)) rfl rfl (Mj (by rw[AF,AF];omega))];unfold lvT;rw[B7]
   .show OkS (Al _ [some (shT LL),some (.ref M.length),some (lvT (L++a)),some (lvT L)] (M++[.lst ((Bb [] done).map lvT)])) _;rw[C0];refine DB.mpr (CM.mpr ⟨_,rfl,⟨_,CN (zq _ _)⟩,Cp.mpr (Bk.mpr (CM.mpr ⟨_,rfl,?_⟩))⟩);rw[zS,Ca,Eo (zq _ _) (by rw[AF,Li];exact Ax (m:=2001) (by omega) (zb (by omega)))];refine ⟨done++[L],rest,by rw[<-hd];simp,rfl,?_,some (lvT L),?_⟩
    .rw[hs,B7,List.set_append_right _ _ (AG _)];simp
    .rw[hs];simp
 .rintro Y M' ⟨done,rest,hd,er,rfl,y3,rfl⟩;have:rest=[]:=by cases rest with|nil=>rfl|cons _ _=>cases er
  subst this;rw[By]at hd;subst hd;refine ⟨zo,?_⟩;rw[zQ];exact zc (Dw (f:=zC 1) rfl (zh (zq _ _))) ⟨rfl,_,rfl⟩
end
structure Lv0 (zA:Ya) (LL:List (List (List Int))):Prop where
 st:∀ L∈LL,∀ S∈L,IsS zA S
 len:LL.length<=1000
 each:∀ L∈LL,L.length<=600
section
variable {zA:Ya} {l:Nat} {R:Ye} {LL:List (List (List Int))}
def K7 (h:S.length<=100000):Vd M (tI S):=ET (by rw[AF];exact h) λd hd=>by
 obtain ⟨i,_,rfl⟩:=AV.mp hd;exact Cn i
def Iz (h9:zA.length<=9) {L:Ya} (h:∀ S∈L,IsS zA S):∀ d∈L.map tI,Vd M d:=λd hd=>by
 obtain ⟨S,hS,rfl⟩:=AV.mp hd;exact K7 (by have:=(h S hS).len;omega)
def Pj (h9:zA.length<=9) {L:Ya} (h:∀ S∈L,IsS zA S) (hz:L.length<=90000):Vd M (lvT L):=ET (by rw[AF];omega) (Iz h9 h)
def Lv0.vds (h:Lv0 zA LL) (h9:zA.length<=9):∀ d∈LL.map lvT,Vd M d:=λd hd=>by
 obtain ⟨L,hL,rfl⟩:=AV.mp hd;exact Pj h9 (h.st L hL) (by have:=h.each L hL;omega)
def Lv0.lens (h:Lv0 zA LL):∀ d∈LL.map lvT,Hi d<=8000:=λd hd=>by
 obtain ⟨L,hL,rfl⟩:=AV.mp hd;show (L.map tI).length<=8000;rw[AF];have:=h.each L hL;omega
def Lv0.th (h:Lv0 zA LL) (h9:zA.length<=9):Th M (shT LL):=⟨ET (by rw[AF];have:=h.len;omega) (h.vds h9),by rw[AF];have:=h.len;omega,h.lens⟩
def Lv0.more (h:Lv0 zA LL) (h9:zA.length<=9) (hx:Vd M x) (hl:Hi x<=8000):Th M (.tup (LL.map lvT++[x])) :=
 ⟨ET (by rw[AN,AF];have:=h.len;simp;omega) (FR (h.vds h9) (zT hx B4)),by rw[AN,AF];have:=h.len;simp;omega,FR h.lens (zT hl B4)⟩
def aB {f:FE} {xs:List D} {Y:Sd} {M M1:Mem} (hf:f Y M=some (.fl xs,M1)):fB Av (zE f zJ) Y M=some (.dat (.tup xs),M1):=by
 unfold fB zE zJ;rw[hf];rfl
def Zs (h9:zA.length<=9) (hL:Lv0 zA LL) {M:Mem} {q:Nat} (g:Gen M 1 2 q) (hq:q<1000000000):Ok (Hv [.ref 1,mD zA,shT LL] M) λd M'=>Th M' d/\Nw M M' 1 2 (q+1):=by
 have hz:=hL.len;have cat:∀ {x:D} {A:Mem},zY (.dat (shT LL)) (.dat (.tup [x])) A=some (.dat (.tup (LL.map lvT++[x])),A):=λ{x A}=>Mj (by rw[AF];simp;omega);unfold Hv;rw[BG];unfold Ks;show OkS (zM _ _ [some (.ref 1),some (mD zA),some (shT LL),none,none] M) _;rw[zL,zi];refine zF (CZ (aD (d:=.non) rfl (aD (d:=.int 0) rfl (aD (d:=.bl true) rfl (aD (d:=.str "") rfl (aCl (Jo (x:=.dat (shT LL)) rfl za) (aD (Ds (x:=.dat (shT LL)) rfl (BV (aCl (CZ rfl (by simp)) rfl) (by simp)) cat) (aD (Ds (x:=.dat (shT LL)) rfl (BV (zU (d:=.non) rfl) (by simp)) cat) (aD (Ds (x:=.dat (shT LL)) rfl (BV (zU (d:=.int 0) rfl) (by simp)) cat) (aD (BV (zU (d:=shT LL) rfl) (by simp)) (aD (f:=G5) rfl rfl)))))))))) (by simp)) (zr ?_);rw[zQ];have n1:=g.lst (LL.map lvT) (Cy (hL.vds h9));have n2:=n1.trans (n1.gen.lst [] rfl);have n3:Nw M (M++[MO.lst (LL.map lvT)]++[MO.lst []]++[MO.dict []]) 1 2 q:=n2.trans (n2.gen.app λu hu=>by rw[BC]at hu;subst hu;rfl);have k0:(M++[MO.lst (LL.map lvT)]++[MO.lst []]++[MO.dict []])[M.length]?=some (.lst (LL.map lvT)):=by simp
 have k1:(M++[MO.lst (LL.map lvT)]++[MO.lst []]++[MO.dict []])[(M++[MO.lst (LL.map lvT)]).length]?=some (.lst []):=by simp
 have k2:(M++[MO.lst (LL.map lvT)]++[MO.lst []]++[MO.dict []])[(M++[MO.lst (LL.map lvT)]++[MO.lst []]).length]?=some (.dict []):=zq _ _;show OkS (zM _ _ [some (.ref 1),some (mD zA),some (shT LL),some (.ref (M++[MO.lst (LL.map lvT)]++[MO.lst []]++[MO.dict []]).length),none] _) _;generalize M++[MO.lst (LL.map lvT)]++[MO.lst []]++[MO.dict []]=M3 at n3 k0 k1 k2 ⊢;generalize (M++[MO.lst (LL.map lvT)]++[MO.lst []]).length=j2 at k2 ⊢;generalize (M++[MO.lst (LL.map lvT)]).length=j1 at k1 ⊢;have vs:∀ d∈[D.non,.int 0,.bl true,.str "", .ref M.length,.tup (LL.map lvT++[.ref j1]),.tup (LL.map lvT++[.non]),.tup (LL.map lvT++[.int 0]),.tup [shT LL],.ref j2],Th M3 d :=
  zT ⟨I0,trivial⟩ (zT ⟨Cn _,trivial⟩ (zT ⟨Ox _,trivial⟩ (zT ⟨LM _,trivial⟩ (zT ⟨Fz k0,trivial⟩ (zT (hL.more h9 (Fz k1) (Ba _)) (zT (hL.more h9 I0 (Ba _)) (zT (hL.more h9 (Cn _) (Ba _)) (zT ⟨EI (hL.th h9).1,by simp,zT (show (LL.map lvT).length<=8000 by rw[AF];omega) B4⟩ (zT ⟨Ql k2,trivial⟩ B4)))))))))
 generalize hL1:[D.non,.int 0,.bl true,.str "", .ref M.length,.tup (LL.map lvT++[.ref j1]),.tup (LL.map lvT++[.non]),.tup (LL.map lvT++[.int 0]),.tup [shT LL],.ref j2]=L1 at vs ⊢;have hl1:L1.length=10:=by rw[<-hL1];rfl
 clear hL1 k0 k1 k2;have n4:=n3.trans (n3.gen.lst L1 (Cy λd hd=>(vs d hd).1));have e4:(M3++[MO.lst L1])[M3.length]?=some (.lst L1):=zq _ _;have vs4:∀ d∈L1,Th (M3++[MO.lst L1]) d:=λd hd=>(vs d hd).keep (Tk.app _ _);have hj3:M.length<=M3.length:=n3.len;obtain ⟨g1,g2⟩:=g.lt;generalize M3++[MO.lst L1]=M4 at n4 e4 vs4 ⊢;clear vs n3 n2 n1;generalize M3.length=j3 at e4 hj3 ⊢;obtain ⟨d0,hd0,hd0t⟩:∃ d0,(LL.map lvT++[D.tup []])[0]?=some d0 /\ ∀ A,Th A d0:=by
  cases LL with
  |nil=>exact ⟨_,rfl,λA=>⟨Ky,by simp,B4⟩⟩
  |cons L r=>
   have hs:=hL.st L Ah;have hz:=hL.each L Ah;refine ⟨lvT L,rfl,λA=>⟨Pj h9 hs (by omega),by rw[AF];omega,λx hx=>?_⟩⟩;obtain ⟨S,hS,rfl⟩:=AV.mp hx;show (S.map D.int).length<=8000;rw[AF];have:=(hs S hS).len;omega
 have ec:=ND (LL:=LL) (M:=M4) (Y:=[some (.ref 1),some (mD zA),some (shT LL),some (.ref j3),none]) (own:=[4]) (g:=gN 4) (te:=fB C5 (zE (zC 4) zJ)) (by omega) rfl λL A=>⟨_,rfl,Jo (x:=.dat (lvT L)) rfl za⟩;have n5:Nw M (M4++LL.map lvM) 1 2 q:=n4.trans (n4.gen.app λu hu=>by
  obtain ⟨L,hL2,rfl⟩:=AV.mp hu;exact E3 (Fd _ _) (Cy (Iz h9 (hL.st L hL2))))
 have e5:(M4++LL.map lvM)[j3]?=some (.lst L1):=by rw[Ai (AI.mp e4).1];exact e4
 have vs5:∀ d∈L1,Th (M4++LL.map lvM) d:=λd hd=>(vs4 d hd).keep (Tk.app _ _);have vr:Th (M4++LL.map lvM) (.tup (refs M4.length LL.length)):=by
  have hv:∀ d∈refs M4.length LL.length,Vd (M4++LL.map lvM) d/\Hi d<=8000:=λd hd=>by
   obtain ⟨i,hi,rfl⟩:=AV.mp hd;obtain ⟨h1,h2⟩:=List.mem_range'_1.mp hi;refine ⟨Fz (xs:=(LL[i-M4.length]'(by omega)).map tI) ?_,Ba _⟩;rw[EG h1,Af,AL (by omega)];rfl
  exact ⟨ET (by simp;omega) λd hd=>(hv d hd).1,by simp;omega,λd hd=>(hv d hd).2⟩
 rw[zL,zi];generalize M4++LL.map lvM=M5 at ec n5 e5 vs5 vr;clear e4 vs4 n4;have n6:=n5.trans (n5.gen.lst [.tup [.int 0]] rfl);have k6:(M5++[MO.lst [D.tup [.int 0]]])[M5.length]?=some (.lst [.tup [.int 0]]):=zq _ _;have e6:(M5++[MO.lst [D.tup [.int 0]]])[j3]?=some (.lst L1):=by rw[Ai (AI.mp e5).1];exact e5
 have hk5:M5.length<(M5++[MO.lst [D.tup [.int 0]]]).length:=by simp
 have tk6:Tk M5 (M5++[MO.lst [D.tup [.int 0]]]):=Tk.app _ _;have n7:=n6.trans (n6.gen.lst [.ref M5.length] (Cy (zT (Fz k6) B4)));have k7:(M5++[MO.lst [D.tup [.int 0]]]++[MO.lst [D.ref M5.length]])[(M5++[MO.lst [D.tup [.int 0]]]).length]?=some (.lst [.ref M5.length]):=zq _ _;have e7:(M5++[MO.lst [D.tup [.int 0]]]++[MO.lst [D.ref M5.length]])[j3]?=some (.lst L1):=by rw[Ai (AI.mp e6).1];exact e6
 have tk7:Tk M5 (M5++[MO.lst [D.tup [.int 0]]]++[MO.lst [D.ref M5.length]]):=tk6.trans (Tk.app _ _);refine zF (Ds (x:=.dat (.ref j3)) (M1:=M4) rfl (CZ (aD (aB ec) (aD (Ds (x:=.dat (shT LL)) rfl (BV (zU (d:=.tup [.tup [.int 0],.int 0]) (BV (zg (d:=.tup [.int 0]) (BV (zU (d:=.int 0) rfl) (by simp)) (zU (d:=.int 0) rfl)) (by simp))) (by simp)) cat) (aCl (CZ (aCl (CZ (zU (d:=.tup [.int 0]) (BV (zU (d:=.int 0) rfl) (by simp))) (by simp)) rfl) (by simp)) (aD (d:=.tup [.tup [.int 0]]) (BV (zU (d:=.tup [.int 0]) (BV (zU (d:=.int 0) rfl) (by simp))) (by simp)) (zU (Ds (Ds (x:=.dat (shT LL)) rfl (BV (zU (d:=.tup []) (BV rfl (by simp))) (by simp)) cat) rfl (BR (i:=((0:Nat):Int)) za (C6 hd0)))))))) (by simp)) (Io (mlR e7) rfl (by simp;omega))) (zr ?_);rw[zQ];generalize M5++[MO.lst [D.tup [.int 0]]]++[MO.lst [D.ref M5.length]]=M7 at n7 k7 e7 tk7 ⊢;generalize (M5++[MO.lst [D.tup [.int 0]]]).length=j7 at k7 ⊢;have vs8:∀ d∈L1++[.tup (refs M4.length LL.length),.tup (LL.map lvT++[.tup [.tup [.int 0],.int 0]]),.ref j7,.tup [.tup [.int 0]],d0],Th M7 d :=
  FR (λd hd=>(vs5 d hd).keep tk7) (zT (vr.keep tk7) (zT (hL.more h9 (IV (EI (Cn _)) (Cn _)) (show 2<=8000 by decide)) (zT ⟨Fz k7,trivial⟩ (zT ⟨EI (EI (Cn _)),by simp,zT (show 1<=8000 by decide) B4⟩ (zT (hd0t _) B4)))))
 show OkS (zv _ [some (.ref 1),some (mD zA),some (shT LL),some (.ref M7.length),none] (M7++[MO.lst (L1++[.tup (refs M4.length LL.length),.tup (LL.map lvT++[.tup [.tup [.int 0],.int 0]]),.ref j7,.tup [.tup [.int 0]],d0])])) _;have hl8:(L1++[.tup (refs M4.length LL.length),.tup (LL.map lvT++[.tup [.tup [.int 0],.int 0]]),.ref j7,.tup [.tup [.int 0]],d0]).length=15:=by simp;omega
 generalize (L1++[.tup (refs M4.length LL.length),.tup (LL.map lvT++[.tup [.tup [.int 0],.int 0]]),.ref j7,.tup [.tup [.int 0]],d0])=L8 at vs8 hl8 ⊢;have n8:=n7.gen.lst L8 (Cy λd hd=>(vs8 d hd).1);obtain ⟨h1,h2⟩:=n7.gen.lt;rw[JR];refine Mu n8.gen hq (zq _ _) (by omega) (by omega) (by omega) (by omega) (λ_=>rfl) (λ_=>rfl) λd A' hd nw=>?_;rw[zS];exact ⟨(vs8 d hd).keep ((n8.tk n7.gen).trans (nw.tk n8.gen)),(n7.trans n8).trans nw⟩
end
noncomputable def LB:FS:=(zM (AK 3 (zn [4] (AU (zC 2)) (gN 4) zf (fB C5 (zE (zC 4) zJ))))
  (zM (Ad (zt (zD (toD (zO zN (zD (toD (zC 0)) (zD (toD (fC (.int 4))) zG)))) zG)) (gN 5) (zM (AK 6 (zO zN (zD (toD (zC 0)) (zD (toD (fC (.int 10))) zG))))
  (zM (AK 7 (zO zN (zD (toD (zC 0)) (zD (toD (fOp zY (fB zV (zE (zC 3) zJ)) (fC (.int 1)))) zG))))
  (sIf (tst (fOp kEq (zC 6) (fC (.int 0)))) (Al (fM EO (zC 3) (zD (toD (zC 7)) (zD (toD (AQ zG)) zG)))) (sIf (tst (fOp kEq (zC 6) (fC (.int 1)))) (AK 3 (fSl (zC 3) Bj (BW (zC 7)))) (sIf (BB (tst (fOp kEq (zC 7) (fB zV (zE (zC 3) zJ)))) (tst (fOp kEq (zC 6) (fC (.int 2))))) (Al (fM zw (zC 3) (zD (toD (AQ (zD (toD (zO EU (zD (toD (zC 0)) (zD (toD (fB zV (zE (zC 1) zJ))) zG)))) zG))) zG))) (sIf (tst (fOp kEq (zC 6) (fC (.int 3)))) (Al (fM zw (fOp kIx (zC 3) (zC 7)) (zD (toD (zO EU (zD (toD (zC 0)) (zD (toD (fB zV (zE (zC 1) zJ))) zG)))) zG))) (sIf (BJ (tst (fOp kEq (zC 6) (fC (.int 4)))) (tst (fOp kNe (fOp kIx (zC 3) (zC 7)) (AQ zG)))) (Al (fM DN (fOp kIx (zC 3) (zC 7)) (zD (toD (zO zN (zD (toD (zC 0)) (zD (toD (fB zV (zE (fOp kIx (zC 3) (zC 7)) zJ))) zG)))) zG))) (sIf (tst (fOp kEq (zC 6) (fC (.int 5)))) (EB (fOp CQ (fSl (fOp kIx (zC 3) (zC 7)) (BW (fC (.int 1))) Bj) (fOp kIx (zC 3) (zC 7))) (zC 3) (zC 7)) (sIf (BJ (tst (fOp kEq (zC 6) (fC (.int 6)))) (BJ (tst (fOp kLt (fOp zY (zC 7) (fC (.int 1))) (fB zV (zE (zC 3) zJ)))) (tst (fOp kNe (fOp kIx (zC 3) (fOp zY (zC 7) (fC (.int 1)))) (AQ zG))))) (Al (fM zw (fOp kIx (zC 3) (zC 7)) (zD (toD (fM DN (fOp kIx (zC 3) (fOp zY (zC 7) (fC (.int 1)))) (zD (toD (zO zN (zD (toD (zC 0)) (zD (toD (fB zV (zE (fOp kIx (zC 3) (fOp zY (zC 7) (fC (.int 1)))) zJ))) zG)))) zG))) zG))) (sIf (BJ (tst (fOp kEq (zC 6) (fC (.int 7)))) (BJ (tst (fOp kLt (fOp zY (zC 7) (fC (.int 1))) (fB zV (zE (zC 3) zJ)))) (tst (fOp kNe (fOp kIx (zC 3) (zC 7)) (AQ zG))))) (Al (fM zw (fOp kIx (zC 3) (fOp zY (zC 7) (fC (.int 1)))) (zD (toD (fM DN (fOp kIx (zC 3) (zC 7)) (zD (toD (zO zN (zD (toD (zC 0)) (zD (toD (fB zV (zE (fOp kIx (zC 3) (zC 7)) zJ))) zG)))) zG))) zG))) (sIf (tst (fOp kEq (zC 6) (fC (.int 8)))) (Al (fM EO (fOp kIx (zC 3) (zC 7)) (zD (toD (zO zN (zD (toD (zC 0)) (zD (toD (fOp zY (fB zV (zE (fOp kIx (zC 3) (zC 7)) zJ)) (fC (.int 1)))) zG)))) (zD (toD (zO Ge (zD (toD (zC 0)) (zD (toD (zC 1)) zG)))) zG)))) (AK 3 (fOp CQ (fSl (zC 3) Bj (BW (zC 7))) (fSl (zC 3) (BW (fOp zY (zC 7) (fC (.int 1)))) Bj)))))))))))))))
  (zv (fB Av (zE (zn [4] (AU (zC 3)) (gN 4) zf (fB Av (zE (zC 4) zJ))) zJ)))))
noncomputable def Hy:FF:=Ag 8 LB
def Rw1 (N:Nat) (A:Mem) (j B r:Nat):Prop:=N<=r/\r≠j /\ ∃ xs,A[r]?=some (.lst xs)/\xs.length<=B /\ ∀ x∈xs,Vd A x
structure Rs (N:Nat) (A:Mem) (j:Nat) (rs:Yj) (B:Nat):Prop where
 nj:N<=j
 e:A[j]?=some (.lst (rs.map D.ref))
 at_:∀ r∈rs,Rw1 N A j B r
section
variable {N:Nat} {A A':Mem} {j B B' q q':Nat} {rs rs':Yj}
def Rw1.keep (h:Rw1 N A j B r) (hB:B<=B') (k:Tk A A') (f:∀ i u,N<=i->A[i]?=some u->A'[i]?=some u):Rw1 N A' j B' r :=
 let ⟨h1,h2,xs,e,hz,hv⟩:=h
 ⟨h1,h2,xs,f r _ h1 e,by omega,λx hx=>EC k (hv x hx)⟩
theorem Rs.nw (h:Rs N A j rs B) (nw:Nw A A' 1 2 q') (g:Gen A 1 2 q) (hN:3<=N):Rs N A' j rs B :=
 ⟨h.nj,nw.get h.e (by have:=h.nj;omega) (by have:=h.nj;omega),λr hr=>(h.at_ r hr).keep (AG _) (nw.tk g) λi u hi e=>nw.get e (by omega) (by omega)⟩
def Rs.row (h:Rs N A j rs B) (hr:r∈rs) (hz:ys.length<=B') (hB:B<=B') (hv:∀ x∈ys,Vd A x):Rs N (A.set r (.lst ys)) j rs B':=by
 obtain ⟨h1,h2,xs,e,_,_⟩:=h.at_ r hr;have tk:Tk A (A.set r (.lst ys)):=Tk.setL e;refine ⟨h.nj,by rw[A7 h2];exact h.e,λr' hr'=>?_⟩;obtain ⟨q1,q2,zs,e2,hz2,hv2⟩:=h.at_ r' hr';by_cases z:r=r'
 .subst z;exact ⟨q1,q2,ys,B9 (AI.mp e).1,hz,λx hx=>EC tk (hv x hx)⟩
 .exact ⟨q1,q2,zs,by rw[A7 z];exact e2,by omega,λx hx=>EC tk (hv2 x hx)⟩
def Rs.out (h:Rs N A j rs B) (h':∀ r∈rs',Rw1 N A j B r):Rs N (A.set j (.lst (rs'.map D.ref))) j rs' B:=by
 have tk:Tk A (A.set j (.lst (rs'.map D.ref))):=Tk.setL h.e;refine ⟨h.nj,B9 (AI.mp h.e).1,λr hr=>?_⟩;obtain ⟨q1,q2,zs,e2,hz2,hv2⟩:=h' r hr;exact ⟨q1,q2,zs,by rw[A7 (Ne.symm q2)];exact e2,hz2,λx hx=>EC tk (hv2 x hx)⟩
def Rs.new (hN:N<=A.length) (h':∀ r∈rs',Rw1 N A j B r):Rs N (A++[.lst (rs'.map D.ref)]) A.length rs' B:=by
 refine ⟨hN,zq _ _,λr hr=>?_⟩;obtain ⟨q1,q2,zs,e2,hz2,hv2⟩:=h' r hr;have hlt:=(AI.mp e2).1;exact ⟨q1,by omega,zs,by rw[Ai hlt];exact e2,hz2,λx hx=>EC (Tk.app _ _) (hv2 x hx)⟩
def JF (h:∀ r∈rs,Rw1 N A j B r):D.unds A.length (rs.map D.ref)=true:=Cy λd hd=>by
 obtain ⟨r,hr,rfl⟩:=AV.mp hd;obtain ⟨_,_,xs,e,_⟩:=h r hr;exact Fz e
end
section
variable {zA:Ya} {l:Nat} {R:Ye} {LL:List (List (List Int))}
def PO (zA:Ya) (LL:List (List (List Int))) (M:Mem) (q B c:Nat):Out->Sd->Mem->Prop:=λo Y A=>o=.nx /\ ∃ j rs y4 y5 y6 y7,Y=[some (.ref 1),some (mD zA),some (shT LL),some (.ref j),y4,y5,y6,y7]/\Nw M A 1 2 q/\Rs M.length A j rs B/\rs.length<=c
structure At (M A:Mem) (q j B c:Nat) (rs:Yj):Prop where
 g0:∃ q0,Gen M 1 2 q0
 nw:Nw M A 1 2 q
 rr:Rs M.length A j rs B
 rl:rs.length<=c
 q9:q<800000000
 b9:B<=8000
 b0:1<=B
 c9:c<=2000
variable {M A:Mem} {q j B c:Nat} {rs:Yj}
def At.m3 (h:At M A q j B c rs):3<=M.length:=by
 obtain ⟨q0,g⟩:=h.g0;have:=g.lt;omega
def At.step (h:At M A q j B c rs) (nw:Nw A A' 1 2 q') (hq:q'<800000000):At M A' q' j B c rs:=⟨h.g0,h.nw.trans nw,h.rr.nw nw h.nw.gen h.m3,h.rl,hq,h.b9,h.b0,h.c9⟩
def Mc (h9:zA.length<=9) (r0:0<zA.length) (g:Gen A 1 2 q) (hq:q<800000000) (h0:zC 0 Y A=some (.dat (.ref 1),A)) (h1:zC 1 Y A=some (.dat (mD zA),A)) (p:∀ S A',IsS zA S->Nw A A' 1 2 (q+1002)->P (.dat (tI S)) A') :
  Ok (zO EU (zD (toD (zC 0)) (zD (toD (fB zV (zE (zC 1) zJ))) zG)) Y A) P:=by
 refine Ek.mpr (zF (zg h0 (zU (GQ h1))) ?_);refine Ok.mono (QR g (by omega) r0 (by omega)) ?_;rintro d A' ⟨⟨S,rfl,sp,s0,sm⟩,nw,_⟩;exact p S A' ⟨sp,s0,sm⟩ nw
noncomputable abbrev sO (zA:Ya) (LL:List (List (List Int))) (j:Nat) (y4 y5:Option D) (w k:Int):Sd:=[some (.ref 1),some (mD zA),some (shT LL),some (.ref j),y4,y5,some (.int w),some (.int k)]
variable {y4 y5:Option D} {w k:Int}
def Fo (h:At M A q j B c rs) (hi:i<rs.length) (hf:fi (sO zA LL j y4 y5 w k) A=some (.dat (.int (i:Nat)),A)):fOp kIx (zC 3) fi (sO zA LL j y4 y5 w k) A=some (.dat (.ref rs[i]),A) :=
 zI (x:=.dat (.ref j)) rfl hf (BR (zh h.rr.e) (C6 (by rw[Af,AL hi];rfl)))
def At.row (h:At M A q j B c rs) (hr:r∈rs) (hz:ys.length<=B2) (hB:B<=B2) (hv:∀ x∈ys,Vd A x) (hq:q<=q2) (hc:c<=c2):PO zA LL M q2 B2 c2 .nx [some (.ref 1),some (mD zA),some (shT LL),some (.ref j),y4,y5,y6,y7] (A.set r (.lst ys)):=by
 obtain ⟨q0,g⟩:=h.g0;exact ⟨rfl,j,rs,_,_,_,_,rfl,(h.nw.setB (u:=.lst ys) g (h.rr.at_ r hr).1 (Cy hv)).mono hq,h.rr.row hr hz hB hv,by have:=h.rl;omega⟩
def At.out (h:At M A q j B c rs) {rs':Yj} (h':∀ r∈rs',Rw1 M.length A j B r) (hq:q<=q2) (hB:B<=B2) (hc:rs'.length<=c2):PO zA LL M q2 B2 c2 .nx [some (.ref 1),some (mD zA),some (shT LL),some (.ref j),y4,y5,y6,y7] (A.set j (.lst (rs'.map D.ref))):=by
 obtain ⟨q0,g⟩:=h.g0;have hr:=h.rr.out h';exact ⟨rfl,j,rs',_,_,_,_,rfl,(h.nw.setB (u:=.lst (rs'.map D.ref)) g h.rr.nj (JF h')).mono hq,⟨hr.nj,hr.e,λr hr'=>(hr.at_ r hr').keep hB (λ_ _ e=>e) λ_ _ _ e=>e⟩,hc⟩
def At.new (h:At M A q j B c rs) {rs':Yj} (h':∀ r∈rs',r∈rs) (hq:q<=q2) (hB:B<=B2) (hc:rs'.length<=c2):PO zA LL M q2 B2 c2 .nx [some (.ref 1),some (mD zA),some (shT LL),some (.ref A.length),y4,y5,y6,y7] (A++[.lst (rs'.map D.ref)]):=by
 have hw:∀ r∈rs',Rw1 M.length A j B r:=λr hr=>h.rr.at_ r (h' r hr);have hr:=Rs.new h.nw.len hw;exact ⟨rfl,A.length,rs',_,_,_,_,rfl,(h.nw.trans (h.nw.gen.lst _ (JF hw))).mono hq,⟨hr.nj,hr.e,λr hr'=>(hr.at_ r hr').keep hB (λ_ _ e=>e) λ_ _ _ e=>e⟩,hc⟩
def O7 {xs:List D} {lo hi:Ys}:(L3.Ak xs lo hi).length<=xs.length /\ ∀ d∈L3.Ak xs lo hi,d∈xs:=by
 unfold L3.Ak;exact ⟨by rw[BF,EW];omega,λd hd=>EL (Di hd)⟩
def LZ {lo hi:Ys}:∃ rs':List Nat,L3.Ak (rs.map D.ref) lo hi=rs'.map D.ref/\rs'.length<=rs.length /\ ∀ r∈rs',r∈rs:=by
 unfold L3.Ak;rw[AF,<-List.map_drop,<-List.map_take];exact ⟨_,rfl,by rw[BF,EW];omega,λr hr=>EL (Di hr)⟩
def IU {f:FE} {fl fh:FO} {Y:Sd} {n:Nat} {xs:List D} {lo hi:Ys} (hf:f Y A=some (.dat (.ref n),A)) (hx:A[n]?=some (.lst xs)) (hl:fl Y A=some (lo,A)) (hh:fh Y A=some (hi,A)):fSl f fl fh Y A=some (.fl (L3.Ak xs lo hi),A):=by
 unfold fSl;rw[hf];dsimp only;rw[hl];dsimp only;rw[hh];dsimp only;exact zH ((Oh (CN hx) rfl).mpr ⟨rfl,rfl⟩)
def P8 (h:At M A q j B c rs) (hi:i<rs.length) (hf:∀ A,fi (sO zA LL j y4 y5 w k) A=some (.dat (.int (i:Nat)),A)) (e:A[rs[i]]?=some (.lst xs)) (x0:0<xs.length)
  (p:∀ x ys A',x∈xs->(∀ y∈ys,y∈xs)->ys.length<=xs.length->At M A' (q+1) j B c rs->A'[rs[i]]?=some (.lst xs)->P (.dat x) (A'.set rs[i] (.lst ys))) (hq:q<700000000) :
  Ok (fM DN (fOp kIx (zC 3) fi) (zD (toD (zO zN (zD (toD (zC 0)) (zD (toD (fB zV (zE (fOp kIx (zC 3) fi) zJ))) zG)))) zG) (sO zA LL j y4 y5 w k) A) P:=by
 have er:=Fo (zA:=zA) (LL:=LL) (y4:=y4) (y5:=y5) (w:=w) (k:=k) h hi (hf A);obtain ⟨h1,h2,zs,e2,hz,hv⟩:=h.rr.at_ rs[i] (Ab hi);rw[e]at e2;cases e2;have m3:=h.m3;have hb9:=h.b9;refine DB.mpr (zF er ⟨⟨_,CN e⟩,Cp.mpr (Bk.mpr ?_)⟩);refine D6 h.nw.gen (by omega) rfl (Bo er (zh e)) (by omega) (by omega) λt A' t0 t1 nw _=>?_;rw[zS,Ca];have h':=h.step nw (by omega);have e':=nw.get e (by omega) (by omega);obtain ⟨n,rfl⟩:=Int.eq_ofNat_of_zero_le t0;have hn:n<xs.length:=by omega
 exact Sb e' (AL hn) (by omega) (p _ _ _ (Ab hn) (λy hy=>List.mem_of_mem_eraseIdx hy) (by rw[List.length_eraseIdx];split <;> omega) h' e')
def OV (h:At M A q j B c rs) (hq:q<700000000) (ha:a<rs.length) (hb:b<rs.length) (hfa:∀ A,fa (sO zA LL j y4 y5 w k) A=some (.dat (.int (a:Nat)),A)) (hfb:∀ A,fb (sO zA LL j y4 y5 w k) A=some (.dat (.int (b:Nat)),A)) (e:A[rs[b]]?=some (.lst xs)) (x0:0<xs.length) (hB:B+1<=B2) (hc:c<=c2) (hq2:q+1<=q2) :
  OkS (Al (fM zw (fOp kIx (zC 3) fa) (zD (toD (fM DN (fOp kIx (zC 3) fb) (zD (toD (zO zN (zD (toD (zC 0)) (zD (toD (fB zV (zE (fOp kIx (zC 3) fb) zJ))) zG)))) zG))) zG)) (sO zA LL j y4 y5 w k) A) (PO zA LL M q2 B2 c2):=by
 have er:=Fo (zA:=zA) (LL:=LL) (y4:=y4) (y5:=y5) (w:=w) (k:=k) h ha (hfa A);obtain ⟨h1,h2,zs,e2,hz,hv⟩:=h.rr.at_ rs[a] (Ab ha);have hb9:=h.b9;rw[C0];refine DB.mpr (zF er ⟨⟨_,CN e2⟩,Cp.mpr (Bk.mpr (P8 h hb hfb e x0 (λx ys A' hx hy hyl h' e'=>?_) hq))⟩);rw[zS,Ca];obtain ⟨q0,g⟩:=h'.g0;have hvx:∀ x∈xs,Vd A' x:=by
  obtain ⟨_,_,zs',e3,_,hv'⟩:=h'.rr.at_ rs[b] (Ab hb);rw[e']at e3;cases e3;exact hv'
 have hxb:xs.length<=B:=by
  obtain ⟨_,_,zs',e3,hz',_⟩:=h'.rr.at_ rs[b] (Ab hb);rw[e']at e3;cases e3;exact hz'
 have hvy:∀ y∈ys,Vd A' y:=λy hy'=>hvx y (hy y hy');have tk:Tk A' (A'.set rs[b] (.lst ys)):=Tk.setL e';have h2:At M (A'.set rs[b] (.lst ys)) (q+1) j B c rs:=⟨h'.g0,h'.nw.setB (u:=.lst ys) g (h'.rr.at_ _ (Ab hb)).1 (Cy hvy),h'.rr.row (Ab hb) (by omega) (AG _) hvy,h'.rl,h'.q9,h'.b9,h'.b0,h'.c9⟩;obtain ⟨_,_,ws,e4,hz4,hv4⟩:=h2.rr.at_ rs[a] (Ab ha);rw[Eo e4 (Ax (m:=8001) (by omega) (zb (by omega)))];exact h2.row (Ab ha) (by rw[AN,FH];omega) (by omega) (FR hv4 (zT (EC tk (hvx x hx)) B4)) hq2 hc
def eqT (h:zC i Y A=some (.dat (.int n),A)):tst (fOp kEq (zC i) (fC (.int m))) Y A=some (decide (n=m),A):=Au (zI h rfl (zH (B3.mpr ⟨rfl,rfl⟩)))
def GF {a b:FT} {Y:Sd} {k:Bool} (ha:a Y A=some (true,A)) (hb:b Y A=some (k,A)):BJ a b Y A=some (k,A):=by unfold BJ;rw[ha];exact hb
def HQ (ha:a Y A=some (false,A)):BJ a b Y A=some (false,A):=by unfold BJ;rw[ha]
def E7 {c:FT} {a b:FS} {Y:Sd} {P:Out->Sd->Mem->Prop} (h:c Y A=some (true,A)) (p:OkS (a Y A) P):OkS (sIf c a b Y A) P:=by
 rw[BQ];exact zF h (by rw[AB rfl];exact p)
def E2 {c:FT} {a b:FS} {Y:Sd} {P:Out->Sd->Mem->Prop} (h:c Y A=some (false,A)) (p:OkS (b Y A) P):OkS (sIf c a b Y A) P:=by
 rw[BQ];exact zF h (by rw[AD (by decide)];exact p)
def neN (h:At M A q j B c rs) (hi:i<rs.length) (hf:∀ A,fi (sO zA LL j y4 y5 w k) A=some (.dat (.int (i:Nat)),A)) (e:A[rs[i]]?=some (.lst xs)):tst (fOp kNe (fOp kIx (zC 3) fi) (AQ zG)) (sO zA LL j y4 y5 w k) A=some (!xs.isEmpty,A) :=
 Au (zI (x:=.dat (.ref rs[i])) (y:=.fl []) (Fo h hi (hf A)) (CZ rfl (by simp)) (zH ((U4 (CN e) (λd hd=>by cases hd;rfl)).mpr ⟨rfl,rfl⟩)))
end
section
variable {zA:Ya} {l:Nat} {R:Ye} {LL:List (List (List Int))} {M A:Mem} {q j B c:Nat} {rs:Yj} {y4 y5:Option D} {w:Int}
def RD (h:zC n Y A=some (.dat (.int (i:Nat)),A)):fOp zY (zC n) (fC (.int 1)) Y A=some (.dat (.int ((i+1:Nat):Int)),A):=zI h rfl (zH (De.mpr ⟨rfl,rfl⟩))
def Y5 (m:IsM zA l) (h9:zA.length<=9) (h:At M A q j B c rs) (hq:q<600000000) (hi:i<=rs.length) :
  OkS ((sIf (tst (fOp kEq (zC 6) (fC (.int 0)))) (Al (fM EO (zC 3) (zD (toD (zC 7)) (zD (toD (AQ zG)) zG)))) (sIf (tst (fOp kEq (zC 6) (fC (.int 1)))) (AK 3 (fSl (zC 3) Bj (BW (zC 7)))) (sIf (BB (tst (fOp kEq (zC 7) (fB zV (zE (zC 3) zJ)))) (tst (fOp kEq (zC 6) (fC (.int 2))))) (Al (fM zw (zC 3) (zD (toD (AQ (zD (toD (zO EU (zD (toD (zC 0)) (zD (toD (fB zV (zE (zC 1) zJ))) zG)))) zG))) zG))) (sIf (tst (fOp kEq (zC 6) (fC (.int 3)))) (Al (fM zw (fOp kIx (zC 3) (zC 7)) (zD (toD (zO EU (zD (toD (zC 0)) (zD (toD (fB zV (zE (zC 1) zJ))) zG)))) zG))) (sIf (BJ (tst (fOp kEq (zC 6) (fC (.int 4)))) (tst (fOp kNe (fOp kIx (zC 3) (zC 7)) (AQ zG)))) (Al (fM DN (fOp kIx (zC 3) (zC 7)) (zD (toD (zO zN (zD (toD (zC 0)) (zD (toD (fB zV (zE (fOp kIx (zC 3) (zC 7)) zJ))) zG)))) zG))) (sIf (tst (fOp kEq (zC 6) (fC (.int 5)))) (EB (fOp CQ (fSl (fOp kIx (zC 3) (zC 7)) (BW (fC (.int 1))) Bj) (fOp kIx (zC 3) (zC 7))) (zC 3) (zC 7)) (sIf (BJ (tst (fOp kEq (zC 6) (fC (.int 6)))) (BJ (tst (fOp kLt (fOp zY (zC 7) (fC (.int 1))) (fB zV (zE (zC 3) zJ)))) (tst (fOp kNe (fOp kIx (zC 3) (fOp zY (zC 7) (fC (.int 1)))) (AQ zG))))) (Al (fM zw (fOp kIx (zC 3) (zC 7)) (zD (toD (fM DN (fOp kIx (zC 3) (fOp zY (zC 7) (fC (.int 1)))) (zD (toD (zO zN (zD (toD (zC 0)) (zD (toD (fB zV (zE (fOp kIx (zC 3) (fOp zY (zC 7) (fC (.int 1)))) zJ))) zG)))) zG))) zG))) (sIf (BJ (tst (fOp kEq (zC 6) (fC (.int 7)))) (BJ (tst (fOp kLt (fOp zY (zC 7) (fC (.int 1))) (fB zV (zE (zC 3) zJ)))) (tst (fOp kNe (fOp kIx (zC 3) (zC 7)) (AQ zG))))) (Al (fM zw (fOp kIx (zC 3) (fOp zY (zC 7) (fC (.int 1)))) (zD (toD (fM DN (fOp kIx (zC 3) (zC 7)) (zD (toD (zO zN (zD (toD (zC 0)) (zD (toD (fB zV (zE (fOp kIx (zC 3) (zC 7)) zJ))) zG)))) zG))) zG))) (sIf (tst (fOp kEq (zC 6) (fC (.int 8)))) (Al (fM EO (fOp kIx (zC 3) (zC 7)) (zD (toD (zO zN (zD (toD (zC 0)) (zD (toD (fOp zY (fB zV (zE (fOp kIx (zC 3) (zC 7)) zJ)) (fC (.int 1)))) zG)))) (zD (toD (zO Ge (zD (toD (zC 0)) (zD (toD (zC 1)) zG)))) zG)))) (AK 3 (fOp CQ (fSl (zC 3) Bj (BW (zC 7))) (fSl (zC 3) (BW (fOp zY (zC 7) (fC (.int 1)))) Bj)))))))))))) (sO zA LL j y4 y5 w (i:Nat)) A) (PO zA LL M (q+1100) (2*B) (c+1)):=by
 have hrl:=h.rl;have hb0:=h.b0;have hb9:=h.b9;have hc9:=h.c9;have hjl:j<A.length:=(AI.mp h.rr.e).1;have m3:=h.m3;have f6:∀ (n:Int),tst (fOp kEq (zC 6) (fC (.int n))) (sO zA LL j y4 y5 w (i:Nat)) A=some (decide (w=n),A):=λn=>eqT rfl;have lenR:fB zV (zE (zC 3) zJ) (sO zA LL j y4 y5 w (i:Nat)) A=some (.dat (.int rs.length),A):=by
  have:=Bo (f:=zC 3) (Y:=sO zA LL j y4 y5 w (i:Nat)) (M:=A) (x:=.dat (.ref j)) rfl (zh h.rr.e);rw[AF]at this;exact this
 by_cases w0:w=0
 .refine E7 ((f6 0).trans (by rw[AR w0])) ?_;rw[C0];refine DB.mpr (zF (a:=.dat (.ref j)) (M:=A) rfl ⟨⟨_,CN h.rr.e⟩,zF (aD (d:=.int (i:Nat)) rfl (aCl (CZ rfl (by simp)) rfl)) ?_⟩);have h1:=h.step (h.nw.gen.lst [] rfl) h.q9;refine zF (LF h1.rr.e (by omega) (by rw[AF];omega) (by rw[AF];omega)) ?_;have e:(rs.map D.ref).take ((i:Nat):Int).toNat++[D.ref A.length]++(rs.map D.ref).drop ((i:Nat):Int).toNat=(rs.take i++[A.length]++rs.drop i).map D.ref:=by
   rw[CK,B7,B7,List.map_take,List.map_drop];rfl
  rw[e];refine h1.out (λr hr=>?_) (by omega) (by omega) (by simp;omega);rcases AS.mp hr with z|z
  .rcases AS.mp z with y|y
   .exact h1.rr.at_ r (Di y)
   .rw[BC.mp y];exact ⟨h.nw.len,by omega,[],zq _ _,by simp,B4⟩
  .exact h1.rr.at_ r (EL z)
 refine E2 ((f6 0).trans (by rw[AM w0])) ?_;by_cases w1:w=1
 .refine E7 ((f6 1).trans (by rw[AR w1])) ?_;rw[zi];refine zF (IU (f:=zC 3) rfl h.rr.e rfl (oS (f:=zC 7) (i:=(i:Nat)) rfl)) (zr ?_);obtain ⟨rs',e,hl,hm⟩:=LZ (rs:=rs) (lo:=none) (hi:=some (i:Nat));rw[e];exact h.new hm (by omega) (by omega) (by omega)
 refine E2 ((f6 1).trans (by rw[AM w1])) ?_;have t3:BB (tst (fOp kEq (zC 7) (fB zV (zE (zC 3) zJ)))) (tst (fOp kEq (zC 6) (fC (.int 2)))) (sO zA LL j y4 y5 w (i:Nat)) A=some (decide (i=rs.length\/w=2),A):=by
  have e1:tst (fOp kEq (zC 7) (fB zV (zE (zC 3) zJ))) (sO zA LL j y4 y5 w (i:Nat)) A=some (decide (((i:Nat):Int)=(rs.length:Nat)),A):=Au (zI (x:=.dat (.int (i:Nat))) rfl lenR (zH (B3.mpr ⟨rfl,rfl⟩)));unfold BB;rw[e1];by_cases z:i=rs.length
  .rw[AR (by omega),AR (.inl z)]
  .rw[AM (by omega)];dsimp only;rw[f6 2];by_cases z2:w=2
   .rw[AR z2,AR (.inr z2)]
   .rw[AM z2,AM (by rintro (y|y);exact z y;exact z2 y)]
 by_cases w2:i=rs.length\/w=2
 .refine E7 (t3.trans (by rw[AR w2])) ?_;rw[C0];refine DB.mpr (zF (a:=.dat (.ref j)) (M:=A) rfl ⟨⟨_,CN h.rr.e⟩,Cp.mpr (Bk.mpr (GP.mpr (Cp.mpr (Bk.mpr (Mc h9 m.r0 h.nw.gen (by omega) rfl rfl λS A' s nw=>?_)))))⟩);rw[zS,Ca];refine ⟨zb (by simp),zr ?_⟩;rw[Ca];have h1:=h.step nw (by omega);have vS:∀ {A:Mem},Vd A (tI S):=λ{A}=>K7 (by have:=s.len;omega);have h2:=h1.step (h1.nw.gen.lst [tI S] (Cy (zT vS B4))) h1.q9;have hj2:j<A'.length:=(AI.mp h1.rr.e).1;rw[Eo h2.rr.e (by rw[AF];exact Ax (m:=2001) (by omega) (zb (by omega)))];rw[show rs.map D.ref++[D.ref A'.length]=(rs++[A'.length]).map D.ref by rw[B7];rfl];refine h2.out (λr hr=>?_) (by omega) (by omega) (by simp;omega);rcases AS.mp hr with z|z
  .exact h2.rr.at_ r z
  .rw[BC.mp z];exact ⟨h1.nw.len,by omega,[tI S],zq _ _,by simp;omega,zT vS B4⟩
 refine E2 (t3.trans (by rw[AM w2])) ?_;have hi:i<rs.length:=by
  rcases Nat.lt_or_ge i rs.length with z|z
  .exact z
  .exact absurd (.inl (by omega)) w2
 have f7:∀ A,zC 7 (sO zA LL j y4 y5 w (i:Nat)) A=some (.dat (.int (i:Nat)),A):=λ_=>rfl;have f71:∀ A,fOp zY (zC 7) (fC (.int 1)) (sO zA LL j y4 y5 w (i:Nat)) A=some (.dat (.int ((i+1:Nat):Int)),A):=λA=>RD rfl;have er:=Fo (zA:=zA) (LL:=LL) (y4:=y4) (y5:=y5) (w:=w) (k:=(i:Nat)) h hi (f7 A);have hmem:rs[i]∈rs:=Ab hi;obtain ⟨r1,r2,xs,e,hz,hv⟩:=h.rr.at_ rs[i] hmem;by_cases w3:w=3
 .refine E7 ((f6 3).trans (by rw[AR w3])) ?_;rw[C0];refine DB.mpr (zF er ⟨⟨_,CN e⟩,Cp.mpr (Bk.mpr (Mc h9 m.r0 h.nw.gen (by omega) rfl rfl λS A' s nw=>?_))⟩);rw[zS,Ca];have h1:=h.step nw (by omega);obtain ⟨_,_,zs,e2,hz2,hv2⟩:=h1.rr.at_ rs[i] hmem;rw[Eo e2 (Ax (m:=8001) (by omega) (zb (by omega)))];exact h1.row hmem (by rw[AN,FH];omega) (by omega) (FR hv2 (zT (K7 (by have:=s.len;omega)) B4)) (by omega) (by omega)
 refine E2 ((f6 3).trans (by rw[AM w3])) ?_;have t4:BJ (tst (fOp kEq (zC 6) (fC (.int 4)))) (tst (fOp kNe (fOp kIx (zC 3) (zC 7)) (AQ zG))) (sO zA LL j y4 y5 w (i:Nat)) A=some (decide (w=4/\0<xs.length),A):=by
  by_cases z:w=4
  .rw[GF ((f6 4).trans (by rw[AR z])) (neN h hi f7 e)];cases xs with
   |nil=>rw[AM (λz=>by have:=z.2;simp at this)];rfl
   |cons x r=>rw[AR ⟨z,by simp⟩];rfl
  .rw[HQ ((f6 4).trans (by rw[AM z])),AM λy=>z y.1]
 by_cases w4:w=4/\0<xs.length
 .refine E7 (t4.trans (by rw[AR w4])) ?_;rw[C0];refine P8 h hi f7 e w4.2 (λx ys A' hx hy hyl h' e'=>?_) (by omega);have hv':∀ y∈ys,Vd A' y:=λy hy'=>by
   obtain ⟨_,_,zs,e3,_,hv3⟩:=h'.rr.at_ rs[i] hmem;rw[e']at e3;cases e3;exact hv3 y (hy y hy')
  exact h'.row hmem (by omega) (by omega) hv' (by omega) (by omega)
 refine E2 (t4.trans (by rw[AM w4])) ?_;by_cases w5:w=5
 .refine E7 ((f6 5).trans (by rw[AR w5])) ?_;rw[MQ];have hcl:=(O7 (xs:=xs) (lo:=some 1) (hi:=none)).1;have hcm:=(O7 (xs:=xs) (lo:=some 1) (hi:=none)).2;refine zF (zI (IU er e (oS (f:=fC (.int 1)) (i:=1) rfl) rfl) er (Io rfl (mlR e) (by omega))) (zr ?_);have vz:∀ x∈L3.Ak xs (some 1) none++xs,Vd A x:=FR (λx hx=>hv x (hcm x hx)) hv;have h1:=h.step (h.nw.gen.lst (L3.Ak xs (some 1) none++xs) (Cy vz)) h.q9;refine zF (a:=.dat (.ref j)) rfl (zF (f7 _) ?_);rw[zS];refine ⟨_,Lv h1.rr.e (by rw[AF];exact hi),?_⟩;rw[show (rs.map D.ref).set i (D.ref A.length)=(rs.set i A.length).map D.ref by rw[List.map_set]];have h1':At M (A++[MO.lst (L3.Ak xs (some 1) none++xs)]) q j B c rs:=h1;have hw:∀ r∈rs.set i A.length,Rw1 M.length (A++[MO.lst (L3.Ak xs (some 1) none++xs)]) j (2*B) r:=λr hr=>by
   rcases List.mem_or_eq_of_mem_set hr with z|z
   .exact (h1.rr.at_ r z).keep (by omega) (λ_ _ e=>e) λ_ _ _ e=>e
   .rw[z];exact ⟨h.nw.len,by omega,_,zq _ _,by rw[AN];omega,λx hx=>EC (Tk.app _ _) (vz x hx)⟩
  obtain ⟨q0,g⟩:=h.g0;have hr2:Rs M.length (A++[MO.lst (L3.Ak xs (some 1) none++xs)]) j rs (2*B):=⟨h1.rr.nj,h1.rr.e,λr hr=>(h1.rr.at_ r hr).keep (by omega) (λ_ _ e=>e) λ_ _ _ e=>e⟩;exact ⟨rfl,j,_,_,_,_,_,rfl,(h1.nw.setB (u:=.lst ((rs.set i A.length).map D.ref)) g h1.rr.nj (JF hw)).mono (by omega),hr2.out hw,by rw[CP];omega⟩
 refine E2 ((f6 5).trans (by rw[AM w5])) ?_;have lt1:tst (fOp kLt (fOp zY (zC 7) (fC (.int 1))) (fB zV (zE (zC 3) zJ))) (sO zA LL j y4 y5 w (i:Nat)) A=some (decide (((i+1:Nat):Int)<(rs.length:Nat)),A):=Au (zI (f71 A) lenR (zH (G4.mpr ⟨rfl,rfl⟩)));have t6:∃ b,BJ (tst (fOp kEq (zC 6) (fC (.int 6)))) (BJ (tst (fOp kLt (fOp zY (zC 7) (fC (.int 1))) (fB zV (zE (zC 3) zJ)))) (tst (fOp kNe (fOp kIx (zC 3) (fOp zY (zC 7) (fC (.int 1)))) (AQ zG)))) (sO zA LL j y4 y5 w (i:Nat)) A=some (b,A)/\(b=true -> ∃ (hi1:i+1<rs.length) (ys:List D),A[rs[i+1]]?=some (.lst ys)/\0<ys.length):=by
  by_cases z:w=6
  .by_cases z1:i+1<rs.length
   .obtain ⟨_,_,ys,e2,_,_⟩:=h.rr.at_ rs[i+1] (Ab z1);refine ⟨_,GF ((f6 6).trans (by rw[AR z])) (GF (lt1.trans (by rw[AR (by omega)])) (neN h z1 f71 e2)),λhb=>⟨z1,ys,e2,?_⟩⟩;cases ys with
    |nil=>cases hb
    |cons x r=>simp
   .exact ⟨false,GF ((f6 6).trans (by rw[AR z])) (HQ (lt1.trans (by rw[AM (by omega)]))),λhb=>by cases hb⟩
  .exact ⟨false,HQ ((f6 6).trans (by rw[AM z])),λhb=>by cases hb⟩
 obtain ⟨b6,t6,h6⟩:=t6;cases b6 with
 |true=>
  obtain ⟨hi1,ys,e2,y0⟩:=h6 rfl;exact E7 t6 (OV h (by omega) hi hi1 f7 f71 e2 y0 (by omega) (by omega) (by omega))
 |false=>
 refine E2 t6 ?_;have t7:∃ b,BJ (tst (fOp kEq (zC 6) (fC (.int 7)))) (BJ (tst (fOp kLt (fOp zY (zC 7) (fC (.int 1))) (fB zV (zE (zC 3) zJ)))) (tst (fOp kNe (fOp kIx (zC 3) (zC 7)) (AQ zG)))) (sO zA LL j y4 y5 w (i:Nat)) A=some (b,A)/\(b=true -> ∃ (hi1:i+1<rs.length),0<xs.length):=by
  by_cases z:w=7
  .by_cases z1:i+1<rs.length
   .refine ⟨_,GF ((f6 7).trans (by rw[AR z])) (GF (lt1.trans (by rw[AR (by omega)])) (neN h hi f7 e)),λhb=>⟨z1,?_⟩⟩;cases xs with
    |nil=>cases hb
    |cons x r=>simp
   .exact ⟨false,GF ((f6 7).trans (by rw[AR z])) (HQ (lt1.trans (by rw[AM (by omega)]))),λhb=>by cases hb⟩
  .exact ⟨false,HQ ((f6 7).trans (by rw[AM z])),λhb=>by cases hb⟩
 obtain ⟨b7,t7,h7⟩:=t7;cases b7 with
 |true=>
  obtain ⟨hi1,y0⟩:=h7 rfl;exact E7 t7 (OV h (by omega) hi1 hi f71 f7 e y0 (by omega) (by omega) (by omega))
 |false=>
 refine E2 t7 ?_;by_cases w8:w=8
 .refine E7 ((f6 8).trans (by rw[AR w8])) ?_;rw[C0];refine DB.mpr (zF er ⟨⟨_,CN e⟩,Cp.mpr (Bk.mpr ?_)⟩);refine D6 (m:=(xs.length:Int)+1) h.nw.gen (by omega) rfl (zI (Bo er (zh e)) rfl (zH (De.mpr ⟨rfl,rfl⟩))) (by omega) (by omega) λt A1 t0 t1 nw _=>?_;rw[zS,Cp,Bk,Ek];have h1:=h.step nw (by omega);refine zF (zg (d:=.ref 1) rfl (zU (d:=mD zA) rfl)) (Ok.mono (Ui h9 h1.nw.gen (by omega)) ?_);rintro d A2 ⟨vd,nw2⟩;rw[zS,Ca];have h2:=h1.step nw2 (by omega);have e2:A2[rs[i]]?=some (.lst xs):=nw2.get (nw.get e (by omega) (by omega)) (by omega) (by omega);have hv2:∀ x∈xs,Vd A2 x:=by
   obtain ⟨_,_,zs,e3,_,hv3⟩:=h2.rr.at_ rs[i] hmem;rw[e2]at e3;cases e3;exact hv3
  refine zF (LF e2 t0 (by omega) (by omega)) ?_;refine h2.row hmem (by simp;omega) (by omega) (λx hx=>?_) (by omega) (by omega);rcases AS.mp hx with z|z
  .rcases AS.mp z with y|y
   .exact hv2 x (Di y)
   .rw[BC.mp y];exact vd
  .exact hv2 x (EL z)
 refine E2 ((f6 8).trans (by rw[AM w8])) ?_;rw[zi];obtain ⟨ra,ea,la,ma⟩:=LZ (rs:=rs) (lo:=none) (hi:=some (i:Nat));obtain ⟨rb,eb,lb,mb⟩:=LZ (rs:=rs) (lo:=some ((i+1:Nat):Int)) (hi:=none);refine zF (zI (IU (f:=zC 3) rfl h.rr.e rfl (oS (f:=zC 7) (i:=(i:Nat)) rfl)) (IU (f:=zC 3) rfl h.rr.e (oS (f71 A)) rfl) (Io (xs:=L3.Ak (rs.map D.ref) none (some (i:Nat))) (ys:=L3.Ak (rs.map D.ref) (some ((i+1:Nat):Int)) none) rfl rfl (by rw[ea,eb,AF,AF];omega))) (zr ?_);have hs:(ra++rb).length<=rs.length:=by
  have e1:(L3.Ak (rs.map D.ref) none (some (i:Nat))).length+(L3.Ak (rs.map D.ref) (some ((i+1:Nat):Int)) none).length<=rs.length:=by
   unfold L3.Ak;rw[HT.Kl,HT.Kl,HT.IY,HT.IY,BF,BF,EW,EW,AF];omega
  rw[ea,eb,AF,AF]at e1;rw[AN];exact e1
 rw[ea,eb,<-B7];exact h.new (λr hr=>(AS.mp hr).elim (ma r) (mb r)) (by omega) (by omega) (by omega)
end
section
variable {zA:Ya} {l:Nat} {R:Ye} {LL:List (List (List Int))}
def Xe {Y:Sd} {M M1:Mem} {f:FE} {j:Int} (e:f Y M=some (.dat (.int j),M1)) (h1:0<=j) (h2:j<2 ^ 62):zt (zD (toD f) zG) Y M=some (DV 0 j.toNat,none,M1):=by
 have e':(zD (toD f) zG) Y M=some ([.int j],M1):=by unfold zD toD zG;rw[e]
 rw[Na e' h1 h2,JL]
noncomputable def HJ (A:Mem) (r:Nat):List D:=match A[r]? with
 |some (.lst xs)=>xs
 |_=>[]
def cM (m:IsM zA l) (h9:zA.length<=9) (hL:Lv0 zA LL) {M:Mem} {q:Nat} (g:Gen M 1 2 q) (hq:q<500000000):Ok (Hy [.ref 1,mD zA,shT LL] M) λd M'=>Th M' d/\Nw M M' 1 2 (q+5000):=by
 have hz:=hL.len;unfold Hy;rw[BG];unfold LB;show OkS (zM _ _ [some (.ref 1),some (mD zA),some (shT LL),none,none,none,none,none] M) _;rw[zL,zi];refine zF (ND (LL:=LL) (by omega) rfl λL A=>⟨_,rfl,Jo (x:=.dat (lvT L)) rfl za⟩) (zr ?_);rw[zQ];have n1:Nw M (M++LL.map lvM) 1 2 q:=g.app λu hu=>by
  obtain ⟨L,hL2,rfl⟩:=AV.mp hu;exact E3 (Fd _ _) (Cy (Iz h9 (hL.st L hL2)))
 have hw:∀ r∈List.range' M.length LL.length,Rw1 M.length (M++LL.map lvM) (M++LL.map lvM).length 1000 r:=λr hr=>by
  obtain ⟨h1,h2⟩:=List.mem_range'_1.mp hr;have hm:LL[r-M.length]'(by omega)∈LL:=Ab _;refine ⟨h1,by rw[AN,AF];omega,(LL[r-M.length]'(by omega)).map tI,?_,?_,Iz h9 (hL.st _ hm)⟩
  .rw[EG h1,Af,AL (by omega)];rfl
  .rw[AF];have:=hL.each _ hm;omega
 have a0:At M (M++LL.map lvM++[.lst (refs M.length LL.length)]) q (M++LL.map lvM).length 1000 1000 (List.range' M.length LL.length) :=
  ⟨⟨q,g⟩,n1.trans (n1.gen.lst _ (JF hw)),Rs.new n1.len hw,by simp;omega,by omega,by omega,by omega,by omega⟩
 show OkS (zM _ _ [some (.ref 1),some (mD zA),some (shT LL),some (.ref (M++LL.map lvM).length),none,none,none,none] _) _;generalize M++LL.map lvM++[.lst (refs M.length LL.length)]=A0 at a0 ⊢;generalize (M++LL.map lvM).length=j0 at a0 ⊢;generalize List.range' M.length LL.length=rs0 at a0;clear hw n1;obtain ⟨_,A1,e1,⟨t,rfl,t0,t1⟩,nw1,_⟩:=GZ a0.nw.gen (m:=4) (by omega) (by omega) (by omega);have a1:=a0.step nw1 (by omega);rw[zL,Bp];refine ⟨_,_,_,Xe (zp (zg (d:=.ref 1) rfl (zU (d:=.int 4) rfl)) e1) t0 (by omega),?_⟩;refine D2 (n:=t.toNat) (I:=λi Y A=>∃ j rs y4 y5 y6 y7,Y=[some (.ref 1),some (mD zA),some (shT LL),some (.ref j),y4,y5,y6,y7]/\At M A (q+1+1102*i) j (1000*2 ^ i) (1000+i) rs) ?_ ?_ _ _ ⟨j0,rs0,_,_,_,_,rfl,a1⟩
 .rintro i Y A hi ⟨j,rs,y4,y5,y6,y7,rfl,a⟩;have hi3:i<3:=by omega
  refine ⟨_,rfl,?_⟩;show OkS (zM _ _ [some (.ref 1),some (mD zA),some (shT LL),some (.ref j),y4,some (.int (i:Nat)),y6,y7] A) _;obtain ⟨_,A2,e2,⟨w,rfl,w0,w1⟩,nw2,_⟩:=GZ a.nw.gen (m:=10) (by omega) (by omega) (by omega);rw[zL,zi];refine zF (zp (zg (d:=.ref 1) rfl (zU (d:=.int 10) rfl)) e2) ?_;rw[zS,zQ];have a2:=a.step nw2 (by omega);show OkS (zM _ _ [some (.ref 1),some (mD zA),some (shT LL),some (.ref j),y4,some (.int (i:Nat)),some (.int w),y7] A2) _;have lenR:fB zV (zE (zC 3) zJ) [some (.ref 1),some (mD zA),some (shT LL),some (.ref j),y4,some (.int (i:Nat)),some (.int w),y7] A2=some (.dat (.int rs.length),A2):=by
   have:=Bo (f:=zC 3) (Y:=[some (.ref 1),some (mD zA),some (shT LL),some (.ref j),y4,some (.int (i:Nat)),some (.int w),y7]) (M:=A2) (x:=.dat (.ref j)) rfl (zh a2.rr.e);rw[AF]at this;exact this
  have hrl:=a2.rl;obtain ⟨_,A3,e3,⟨k,rfl,k0,k1⟩,nw3,_⟩:=GZ a2.nw.gen (m:=(rs.length:Int)+1) (by omega) (by omega) (by omega);rw[zL,zi];refine zF (zp (zg (d:=.ref 1) rfl (zU (zI lenR rfl (zH (De.mpr ⟨rfl,rfl⟩))))) e3) ?_;rw[zS,zQ];have a3:=a2.step nw3 (by omega);obtain ⟨n,rfl⟩:=Int.eq_ofNat_of_zero_le k0;refine OkS.mono (Y5 (LL:=LL) (y4:=y4) (y5:=some (.int (i:Nat))) (w:=w) m h9 a3 (by omega) (i:=n) (by omega)) ?_;rintro o Y A4 ⟨rfl,j',rs',z4,z5,z6,z7,rfl,nw4,rr4,rl4⟩;have hp:2 ^ (i+1)=2*2 ^ i:=by rw[Nat.pow_succ,Nat.mul_comm]
  have hp8:2 ^ (i+1)<=2 ^ 3:=Nat.pow_le_pow_right (by decide) (by omega);refine ⟨j',rs',_,_,_,_,rfl,a.g0,nw4.mono (by omega),?_,by omega,by omega,?_,?_,by omega⟩
  .rw[hp,<-Nat.mul_assoc,Nat.mul_comm 1000 2,Nat.mul_assoc];exact rr4
  .have:(2:Nat) ^ 3=8:=by decide
   omega
  .have:0<2 ^ (i+1):=Nat.pow_pos (by decide);omega
 .rintro Y A ⟨j,rs,y4,y5,y6,y7,rfl,a⟩;rw[zQ];have hrl:=a.rl;have hc9:=a.c9;have hb9:=a.b9;have ec:zn [4] (AU (zC 3)) (gN 4) zf (fB Av (zE (zC 4) zJ)) [some (.ref 1),some (mD zA),some (shT LL),some (.ref j),y4,y5,y6,y7] A=some (.fl (rs.map λr=> .tup (HJ A r)),A):=by
   refine Em rs D.ref _ (DF (x:=.dat (.ref j)) rfl (zh a.rr.e)) (.inl a.rr.e) (by omega) λr hr=>⟨_,rfl,?_⟩;obtain ⟨_,_,xs,e,_,_⟩:=a.rr.at_ r hr;have:HJ A r=xs:=by unfold HJ;rw[e]
   rw[this];exact Dw (x:=.dat (.ref r)) rfl (zh e)
  refine zc (Dw ec Dx) ⟨?_,a.nw.mono (by omega)⟩;have hv:∀ d∈(rs.map λr=>D.tup (HJ A r)),Vd A d/\Hi d<=8000:=λd hd=>by
   obtain ⟨r,hr,rfl⟩:=AV.mp hd;obtain ⟨_,_,xs,e,hz,hv⟩:=a.rr.at_ r hr;have:HJ A r=xs:=by unfold HJ;rw[e]
   rw[this];exact ⟨ET (by omega) hv,show xs.length<=8000 by omega⟩
  exact ⟨ET (by rw[AF];omega) λd hd=>(hv d hd).1,by rw[AF];omega,λd hd=>(hv d hd).2⟩
theorem Qj (m:IsM zA l) (h9:zA.length<=9):∀ (n:Nat) {seen:Ya} {level:Lvl} {acc:List (List (List Int))} {r:Option (List Int) × List (List (List Int))},Met zA seen level->acc.flatten.length+level.length<=seen.length->(∀ L∈acc,∀ t∈L,IsS zA t)->run zA l due n seen level acc=some r->(∀ L∈r.2,∀ t∈L,IsS zA t)/\r.2.flatten.length<=512
 |0,_,_,_,_,_,_,_,h=>by cases h
 |n+1,seen,level,acc,r,mt,hz,ha,h=>by
  have hl:=GV mt.nd mt.st h9;unfold run at h;split at h
  .cases h;exact ⟨ha,by show acc.flatten.length<=512;omega⟩
  .split at h
   .cases h;exact ⟨ha,by show acc.flatten.length<=512;omega⟩
   .have g:=mt.next m;refine Qj m h9 n g.met ?_ (λL hL=>?_) h
    .rw[g.eq,List.flatten_append,AN,AN,AF,List.flatten_singleton,AF];omega
    .rcases AS.mp hL with z|z
     .exact ha L z
     .rw[BC.mp z];intro t ht;obtain ⟨p,hp,rfl⟩:=AV.mp ht;exact mt.lv p hp
theorem Qd:∀ {LL:List (List (List Int))} {L:Ya},L∈LL->L.length<=LL.flatten.length
 |K::r,L,h=>by
  rw[C3,AN];rcases AO.mp h with z|z
  .rw[z];omega
  .have:=Qd z;omega
theorem Kn:∀ (LL:List (List (List Int))),(LL.map Cq).flatten.length=LL.flatten.length
 |[]=>rfl
 |L::r=>by rw[AY,C3,C3,AN,AN,Kn r,(JJ L).length_eq]
def ZF (m:IsM zA l) (h9:zA.length<=9) (sR:IsS zA R) (hr:run zA l due 1000 [R] [(R,[])] []=some r):shD r.2=shT (r.2.map Cq)/\Lv0 zA (r.2.map Cq)/\(r.2.map Cq).flatten.length<=512:=by
 have mt:Met zA [R] [(R,[])]:=⟨by simp,λS hS=>by rw[BC.mp hS];exact sR,λp hp=>by rw[BC.mp hp];exact sR⟩;obtain ⟨hs,ht⟩:=Qj m h9 1000 mt (by simp) (λ_ h=>by cases h) hr;have hlen:r.2.length<=1000:=BA (K6 1000 hr) (by simp);refine ⟨?_,⟨λL hL S hS=>?_,by rw[AF];exact hlen,λL hL=>?_⟩,by rw[Kn];exact ht⟩
 .show D.tup (r.2.map lvD)=D.tup ((r.2.map Cq).map lvT);rw[BD];rfl
 .obtain ⟨K,hK,rfl⟩:=AV.mp hL;exact hs K hK S ((JJ K).mem_iff.mp hS)
 .have:=Qd hL;rw[Kn]at this;omega
def Lv0.take (h:Lv0 zA WL) (n:Nat):Lv0 zA (WL.take n):=⟨λL hL=>h.st L (Di hL),by rw[BF];have:=h.len;omega,λL hL=>h.each L (Di hL)⟩
theorem PL:∀ (WL:List (List (List Int))) (n:Nat),(WL.take n).flatten.length<=WL.flatten.length
 |[],n=>by simp
 |L::r,0=>by simp
 |L::r,n+1=>by
  rw[List.take_succ_cons,C3,C3,AN,AN];have:=PL r n;omega
def Xk {k:KB} {f:FE} {x:EV} {Y:Sd} {M M1:Mem} (hf:f Y M=some (x,M1)):fB k (zE f zJ) Y M=k [x] M1:=by unfold fB zE zJ;rw[hf]
def slT {f:FE} {fh:FO} {Y:Sd} {M M1:Mem} {xs:List D} {t:Int} (hf:f Y M=some (.dat (.tup xs),M)) (hh:fh Y M=some (some t,M1)):fSl f Bj fh Y M=some (.dat (.tup (L3.Ak xs none (some t))),M1):=by
 unfold fSl;rw[hf];dsimp only;rw[show Bj Y M=some (none,M)from rfl];dsimp only;rw[hh];rfl
def oT {f:FE} {Y:Sd} {M M1:Mem} {i:Int} (h:f Y M=some (.dat (.int i),M1)):BW f Y M=some (some i,M1):=by unfold BW;rw[h]
end
noncomputable def Lr:FS:=(zM (AK 1 (zO IA (zD (toD (zC 0)) zG)))
  (zM (Ad (zt (zD (toD (fC (.int 2))) zG)) (gN 2) (zM (AK 3 (zO Hj (zD (toD (zC 1)) (zD (toD (fOp kIx (AQ (zD (toD (fC (.int 7))) (zD (toD (fC (.int 9))) zG))) (fB Cd (zE (fOp kEq (zO zN (zD (toD (zC 1)) (zD (toD (fC (.int 4))) zG))) (fC (.int 0))) zJ)))) (zD (toD (fC (.int 4))) zG)))))
  (zM (AK 4 (zO EU (zD (toD (zC 1)) (zD (toD (fB zV (zE (zC 3) zJ))) zG))))
  (zM (AK 5 (zO G1 (zD (toD (zC 3)) (zD (toD (zC 4)) zG))))
  (zM (AK 6 (fSl (zC 5) Bj (BW (zO zN (zD (toD (zC 1)) (zD (toD (fOp zY (fB zV (zE (zC 5) zJ)) (fC (.int 1)))) zG))))))
  (zM (AK 7 (AQ (zD (toD (zC 5)) (zD (toD (zC 6)) (zD (toD (zO Hl (zD (toD (zC 6)) zG))) (zD (toD (A8 zG)) (zD (toD (zO Hv (zD (toD (zC 1)) (zD (toD (zC 3)) (zD (toD (zC 5)) zG))))) zG)))))))
  (zM (Ad (zt (zD (toD (fC (.int 3))) zG)) (gN 8) (Al (fM zw (zC 7) (zD (toD (zO Hy (zD (toD (zC 1)) (zD (toD (zC 3)) (zD (toD (fOp kIx (AQ (zD (toD (zC 5)) (zD (toD (zC 6)) zG))) (zO zN (zD (toD (zC 1)) (zD (toD (fC (.int 2))) zG))))) zG))))) zG))))
  (Ad (AU (fOp CQ (zC 7) (AQ (zD (toD (zC 5)) zG)))) (gN 9) (sIf (BB (BM (tst (zO GC (zD (toD (zC 3)) (zD (toD (zC 4)) (zD (toD (zC 9)) (zD (toD (fC (.bl true))) zG))))))) (BM (tst (zO GC (zD (toD (zC 3)) (zD (toD (zC 4)) (zD (toD (zC 9)) (zD (toD (fC (.bl false))) zG)))))))) (zv (fC (.bl false))) Ac)))))))))
  (zv (fC (.bl true)))))
noncomputable def Fq:FF:=Ag 10 Lr
section
variable {zA:Ya} {l:Nat} {R:Ye}
def Su (m:IsM zA l) (h9:zA.length<=9) (sR:IsS zA R):∃ r,run zA l (λ_=>false) 1000 [R] [(R,[])] []=some r/\r.1=none:=by
 obtain ⟨r,hr⟩:=NN (due:=λ_=>false) m h9 1000 (seen:=[R]) (level:=[(R,[])]) (acc:=[]) ⟨by simp,λS hS=>by rw[BC.mp hS];exact sR,λp hp=>by rw[BC.mp hp];exact sR⟩ (by simp);exact ⟨r,hr,Nd (λ_=>rfl) 1000 hr⟩
def Rv (m:IsM zA l) (h9:zA.length<=9) (hl9:l<=1000) (sR:IsS zA R):∃ WL,G1 [mD zA,tI R] M=some (shT WL,M)/\Lv0 zA WL/\WL.flatten.length<=512:=by
 obtain ⟨r,hr,h1⟩:=Su m h9 sR;obtain ⟨e,h2,h3⟩:=ZF m h9 sR hr;exact ⟨_,by rw[U5 m h9 hl9 sR hr,e],h2,h3⟩
end
def Xa (ns:Ye) (h:ns.length<=63):∃ M',Fq [.ref 0] [.fro (ns.map D.int)]=some (.bl true,M'):=by
 suffices hh:Ok (Fq [.ref 0] [.fro (ns.map D.int)]) λd _=>d=.bl true by
  obtain ⟨d,M',e,rfl⟩:=hh;exact ⟨M',e⟩
 unfold Fq;rw[BG];unfold Lr;show OkS (zM _ _ [some (.ref 0),none,none,none,none,none,none,none,none,none] [.fro (ns.map D.int)]) _;rw[zL,zi];refine Ek.mpr (zF (zU (d:=.ref 0) rfl) ?_);refine Ok.mono (Zc h) ?_;rintro d M1 ⟨rfl,gen1,_⟩;rw[zS,zQ];show OkS (zM _ _ [some (.ref 0),some (.ref 1),none,none,none,none,none,none,none,none] M1) _;rw[zL,Bp];refine ⟨_,_,_,CV (j:=2) rfl (by decide) (by decide),?_⟩;refine D2 (n:=2) (I:=λi Y M=>(∃ y2 y3 y4 y5 y6 y7 y8 y9,Y=[some (.ref 0),some (.ref 1),y2,y3,y4,y5,y6,y7,y8,y9])/\Gen M 1 2 (20000*i)) ?_ ?_ _ _ ⟨⟨_,_,_,_,_,_,_,_,rfl⟩,gen1⟩
 .rintro i Y M hi ⟨⟨y2,y3,y4,y5,y6,y7,y8,y9,rfl⟩,gen⟩;refine ⟨_,rfl,?_⟩;show OkS (zM _ _ [some (.ref 0),some (.ref 1),some (.int (i:Nat)),y3,y4,y5,y6,y7,y8,y9] M) _;obtain ⟨_,A1,e1,⟨t,rfl,t0,t1⟩,nw1,_⟩:=GZ gen (m:=4) (by omega) (by omega) (by omega);have ei:fOp kIx (AQ (zD (toD (fC (.int 7))) (zD (toD (fC (.int 9))) zG))) (fB Cd (zE (fOp kEq (zO zN (zD (toD (zC 1)) (zD (toD (fC (.int 4))) zG))) (fC (.int 0))) zJ)) [some (.ref 0),some (.ref 1),some (.int (i:Nat)),y3,y4,y5,y6,y7,y8,y9] M=some (.dat (.int (if t=0 then 9 else 7)),A1):=by
   refine Ds (CZ (ds:=[.int 7,.int 9]) (zg (d:=.int 7) rfl (zU (d:=.int 9) rfl)) (by simp)) (y:=.dat (.int (if decide (t=0) then 1 else 0))) ((Xk (x:=.dat (.bl (decide (t=0)))) (Ds (zp (zg (d:=.ref 1) rfl (zU (d:=.int 4) rfl)) e1) rfl (zH (B3.mpr ⟨rfl,rfl⟩)))).trans (zH (OT.mpr ⟨rfl,rfl⟩))) ?_;by_cases z:t=0
   .rw[AR z,AB rfl,AB z];exact BR Dx (C6 (j:=1) rfl)
   .rw[AM z,AD (by decide),AD z];exact BR Dx (C6 (j:=0) rfl)
  rw[zL,zi];refine Ek.mpr (zF (aD (d:=.ref 1) rfl (aD ei (zU (d:=.int 4) rfl))) ?_);have hm:0<(if t=0 then (9:Int) else 7)/\(if t=0 then (9:Int) else 7)<=9:=by by_cases z:t=0 <;> simp[z]
  refine Ok.mono (fJ nw1.gen (by omega) hm.1 (by omega) (by decide) (by decide)) ?_;rintro d A2 ⟨⟨zA,l,rfl,m,hr,hl⟩,nw2,_⟩;rw[zS,zQ];have h9:zA.length<=9:=by omega
  have hl9:l<=1000:=by omega
  have r0:=m.r0;show OkS (zM _ _ [some (.ref 0),some (.ref 1),some (.int (i:Nat)),some (mD zA),y4,y5,y6,y7,y8,y9] A2) _;rw[zL,zi];refine Ek.mpr (zF (zg (d:=.ref 1) rfl (zU (GQ rfl))) ?_);refine Ok.mono (QR nw2.gen (by omega) (by omega) (by omega)) ?_;rintro d A3 ⟨⟨R,rfl,sp,s0,sm⟩,nw3,_⟩;have sR:IsS zA R:=⟨sp,s0,sm⟩;rw[zS,zQ];show OkS (zM _ _ [some (.ref 0),some (.ref 1),some (.int (i:Nat)),some (mD zA),some (tI R),y5,y6,y7,y8,y9] A3) _;obtain ⟨WL,eW,hW,tW⟩:=Rv m h9 hl9 sR (M:=A3);refine Cj (zp (zg (d:=mD zA) rfl (zU (d:=tI R) rfl)) eW) ?_;show OkS (zM _ _ [some (.ref 0),some (.ref 1),some (.int (i:Nat)),some (mD zA),some (tI R),some (shT WL),y6,y7,y8,y9] A3) _;have hWl:=hW.len;have lenW:=Bo (f:=zC 5) (Y:=[some (.ref 0),some (.ref 1),some (.int (i:Nat)),some (mD zA),some (tI R),some (shT WL),y6,y7,y8,y9]) (M:=A3) (x:=.dat (shT WL)) rfl za;rw[AF]at lenW;obtain ⟨_,A4,e4,⟨v,rfl,v0,v1⟩,nw4,_⟩:=GZ nw3.gen (m:=(WL.length:Int)+1) (by omega) (by omega) (by omega);obtain ⟨cn,rfl⟩:=Int.eq_ofNat_of_zero_le v0;rw[zL,zi];refine zF (slT (f:=zC 5) rfl (oT (zp (zg (d:=.ref 1) rfl (zU (zI lenW rfl (zH (De.mpr ⟨rfl,rfl⟩))))) e4))) ?_;rw[zS,zQ];have hcut:L3.Ak (WL.map lvT) none (some (cn:Nat))=(WL.take cn).map lvT:=by
   unfold L3.Ak;rw[HT.Kl,HT.IY,List.drop_zero,Nat.sub_zero,AF,List.map_take];congr 1;omega
  rw[hcut];have hC:=hW.take cn;have tC:=PL WL cn;have hCl:=hC.len;show OkS (zM _ _ [some (.ref 0),some (.ref 1),some (.int (i:Nat)),some (mD zA),some (tI R),some (shT WL),some (shT (WL.take cn)),y7,y8,y9] A4) _;generalize WL.take cn=CL at hC tC hCl;obtain ⟨d5,A5,e5,th5,nw5⟩:=Zs h9 hW nw4.gen (by omega);have gen5:=nw5.gen;rw[zL,zi];refine zF (CZ (aD (d:=shT WL) rfl (aD (d:=shT CL) rfl (aD (zp (zU (d:=shT CL) rfl) (XX (by omega) (by omega) nw4.gen.wf)) (aD (d:=.tup []) (BV rfl (by simp)) (aD (zp (zg (d:=.ref 1) rfl (zg (d:=mD zA) rfl (zU (d:=shT WL) rfl))) e5) rfl))))) (by simp)) (zr ?_);rw[zQ];have hHL:∀ A,Th A (shT (Bb [] CL)):=λA=>by
   have hh:=KD CL [];have hok:KZ zA (Bb [] CL):=⟨λL hL S hS=>by
    rcases (hh L hL).2 S hS with z|z
    .cases z
    .obtain ⟨K,hK,hSK⟩:=List.mem_flatten.mp z;exact hC.st K hK S hSK,by rw[Li];omega,λL hL=>by have:=(hh L hL).1;rw[D0,Nat.zero_add]at this;omega⟩
   refine ⟨X6 h9 hok,by rw[AF];exact hok.2.1,λx hx=>?_⟩;obtain ⟨L,hL,rfl⟩:=AV.mp hx;show (L.map tI).length<=8000;rw[AF];exact hok.2.2 L hL
  have th0:∀ d∈[shT WL,shT CL,shT (Bb [] CL),.tup [],d5],Th A5 d:=zT (hW.th h9) (zT (hC.th h9) (zT (hHL _) (zT ⟨Ky,by simp,B4⟩ (zT th5 B4))));generalize hds:[shT WL,shT CL,shT (Bb [] CL),.tup [],d5]=ds0 at th0;have hdl:ds0.length=5:=by rw[<-hds];rfl
  have n6:=gen5.lst ds0 (Cy λd hd=>(th0 d hd).1);have e6:(A5++[MO.lst ds0])[A5.length]?=some (.lst ds0):=zq _ _;have th6:∀ d∈ds0,Th (A5++[MO.lst ds0]) d:=λd hd=>(th0 d hd).keep (Tk.app _ _);obtain ⟨g1,g2⟩:=gen5.lt;show OkS (zM _ _ [some (.ref 0),some (.ref 1),some (.int (i:Nat)),some (mD zA),some (tI R),some (shT WL),some (shT CL),some (.ref A5.length),y8,y9] (A5++[MO.lst ds0])) _;generalize A5++[MO.lst ds0]=A6 at n6 e6 th6 ⊢;rw[zL,Bp];refine ⟨_,_,_,CV (j:=3) rfl (by decide) (by decide),?_⟩;refine D2 (n:=3) (I:=λk Y A=>(∃ y8,Y=[some (.ref 0),some (.ref 1),some (.int (i:Nat)),some (mD zA),some (tI R),some (shT WL),some (shT CL),some (.ref A5.length),y8,y9])/\Nw A5 A 1 2 (20000*i+2100+5001*k) /\ ∃ ds,A[A5.length]?=some (.lst ds)/\ds.length<=10+k /\ ∀ d∈ds,Th A d) ?_ ?_ _ _ ⟨⟨_,rfl⟩,n6.mono (by omega),ds0,e6,by omega,th6⟩
  .rintro k Y A hk ⟨⟨y8,rfl⟩,nw,ds,eA,hdl,th⟩;refine ⟨_,rfl,?_⟩;show OkS (Al _ [some (.ref 0),some (.ref 1),some (.int (i:Nat)),some (mD zA),some (tI R),some (shT WL),some (shT CL),some (.ref A5.length),some (.int (k:Nat)),y9] A) _;rw[C0];refine DB.mpr (CM.mpr ⟨_,rfl,⟨_,CN eA⟩,Cp.mpr (Bk.mpr (Ek.mpr ?_))⟩);obtain ⟨_,B1,f1,⟨u,rfl,u0,u1⟩,mw1,_⟩:=GZ nw.gen (m:=2) (by omega) (by omega) (by omega);obtain ⟨XL,hX,eX⟩:∃ XL,Lv0 zA XL/\fOp kIx (AQ (zD (toD (zC 5)) (zD (toD (zC 6)) zG))) (zO zN (zD (toD (zC 1)) (zD (toD (fC (.int 2))) zG))) [some (.ref 0),some (.ref 1),some (.int (i:Nat)),some (mD zA),some (tI R),some (shT WL),some (shT CL),some (.ref A5.length),some (.int (k:Nat)),y9] A=some (.dat (shT XL),B1):=by
    by_cases z:u=0
    .exact ⟨WL,hW,Ds (CZ (ds:=[shT WL,shT CL]) (zg (d:=shT WL) rfl (zU (d:=shT CL) rfl)) (by simp)) (zp (zg (d:=.ref 1) rfl (zU (d:=.int 2) rfl)) f1) (by rw[z];exact BR Dx (C6 (j:=0) rfl))⟩
    .exact ⟨CL,hC,Ds (CZ (ds:=[shT WL,shT CL]) (zg (d:=shT WL) rfl (zU (d:=shT CL) rfl)) (by simp)) (zp (zg (d:=.ref 1) rfl (zU (d:=.int 2) rfl)) f1) (by rw[show u=1 by omega];exact BR Dx (C6 (j:=1) rfl))⟩
   refine zF (aD (d:=.ref 1) rfl (aD (d:=mD zA) rfl (aD eX rfl))) ?_;refine Ok.mono (cM m h9 hX mw1.gen (by omega)) ?_;rintro d B2 ⟨thd,mw2⟩;rw[zS,Ca];have mw:=mw1.trans mw2;have eB:B2[A5.length]?=some (.lst ds):=mw.get eA (by omega) (by omega);have tkB:=mw.tk nw.gen;rw[Eo eB (Ax (m:=100) (by omega) (zb (by omega)))];have hall:∀ x∈ds++[d],Th B2 x:=FR (λx hx=>(th x hx).keep tkB) (zT thd B4);refine ⟨⟨_,rfl⟩,((nw.trans mw).setB (u:=.lst (ds++[d])) gen5 (AG _) (Cy λx hx=>(hall x hx).1)).mono (by omega),ds++[d],B9 (AI.mp eB).1,by simp;omega,λx hx=>(hall x hx).keep (Tk.setL eB)⟩
  .rintro Y A ⟨⟨y8,rfl⟩,nw,ds,eA,hdl,th⟩;rw[zQ,Bp];have ec:=zI (k:=CQ) (Y:=[some (.ref 0),some (.ref 1),some (.int (i:Nat)),some (mD zA),some (tI R),some (shT WL),some (shT CL),some (.ref A5.length),y8,y9]) (f:=zC 7) (g:=AQ (zD (toD (zC 5)) zG)) (x:=.dat (.ref A5.length)) (y:=.fl [shT WL]) rfl (CZ (zU (d:=shT WL) rfl) (by simp)) (Io (mlR eA) rfl (by simp;omega));refine ⟨_,_,_,DF ec Dx,?_⟩;refine Dc (I:=λr Y A'=>A'=A/\(∃ y9,Y=[some (.ref 0),some (.ref 1),some (.int (i:Nat)),some (mD zA),some (tI R),some (shT WL),some (shT CL),some (.ref A5.length),y8,y9]) /\ ∀ d∈r,Th A d) ?_ ?_ _ _ _ ⟨rfl,⟨_,rfl⟩,FR th (zT (hW.th h9) B4)⟩
   .rintro x r Y A' ⟨rfl,⟨y9,rfl⟩,hx⟩;have hxx:=hx x Ah;refine ⟨zo,_,rfl,?_⟩;show OkS (sIf _ _ _ [some (.ref 0),some (.ref 1),some (.int (i:Nat)),some (mD zA),some (tI R),some (shT WL),some (shT CL),some (.ref A5.length),y8,some x] A') _;have er:∀ b,BM (tst (zO GC (zD (toD (zC 3)) (zD (toD (zC 4)) (zD (toD (zC 9)) (zD (toD (fC (.bl b))) zG)))))) [some (.ref 0),some (.ref 1),some (.int (i:Nat)),some (mD zA),some (tI R),some (shT WL),some (shT CL),some (.ref A5.length),y8,some x] A'=some (false,A'):=λb=>ntE (k:=true) (zp (zg (d:=mD zA) rfl (zg (d:=tI R) rfl (zg (d:=x) rfl (zU (d:=.bl b) rfl)))) (SK m h9 hl9 nw.gen.wf hxx.1 hxx.2.lv));refine K1 (by unfold BB;rw[er true];exact er false) ⟨rfl,⟨_,rfl⟩,λd hd=>hx d (BS _ hd)⟩
   .rintro Y A' ⟨rfl,⟨y9,rfl⟩,_⟩;exact ⟨zo,⟨_,_,_,_,_,_,_,_,rfl⟩,nw.gen.mono (by omega)⟩
 .rintro Y M ⟨⟨y2,y3,y4,y5,y6,y7,y8,y9,rfl⟩,gen⟩;rw[zQ];exact zc rfl rfl
end Lae
set_option maxHeartbeats 4000000
namespace Lae
open L2 L3 Law
open Lac (Ck DP)
-- the text by places
noncomputable def top (i:Nat):Stmt:=PySem.Challenge.pw_bringhome_k15_shown_levels.main.body.getD i (.Pass ⟨0,0,0,0⟩)
noncomputable abbrev LN:Stmt:=top 1
noncomputable abbrev KO:Stmt:=top 2
noncomputable abbrev Lf:Stmt:=top 3
noncomputable abbrev KI:Stmt:=top 4
noncomputable abbrev MS:Stmt:=top 6
noncomputable abbrev Jj:Stmt:=top 8
noncomputable abbrev KW:Stmt:=top 9
noncomputable abbrev Lg:Stmt:=top 10
noncomputable abbrev J5:Stmt:=top 11
noncomputable abbrev Kh:Stmt:=top 13
noncomputable abbrev Kz:Stmt:=top 14
noncomputable abbrev Jq:Stmt:=top 15
noncomputable abbrev Ka:Stmt:=top 16
noncomputable abbrev Lk:Stmt:=top 17
noncomputable abbrev Jm:Stmt:=top 18
noncomputable abbrev MK:Stmt:=top 19
noncomputable abbrev K4:Stmt:=top 20
noncomputable abbrev KA:Stmt:=top 21
noncomputable abbrev J8:Stmt:=top 22
noncomputable abbrev KL:Stmt:=top 23
noncomputable abbrev MT:Stmt:=top 24
noncomputable abbrev Ko:Stmt:=top 25
noncomputable abbrev Kq:Stmt:=top 26
noncomputable abbrev Lc:Stmt:=top 27
noncomputable abbrev K5:Stmt:=top 28
noncomputable abbrev MM:Stmt:=top 29
structure Txt (K:Yb) (mg:Yh) where
  kA:Df K mg "is_whole" LN ["thing"]
  kB:Df K mg "is_below" KO ["thing", "many"]
  kC:Df K mg "is_tuple_below" Lf ["thing", "many"]
  kD:Df K mg "is_set" KI ["machine", "thing"]
  kE:Df K mg "stepped" MS ["machine", "rooms", "letter"]
  kF:Df K mg "is_level" Jj ["machine", "thing"]
  kG:Df K mg "first_places" KW ["shown"]
  kJ:Df K mg "stays" Lg ["machine", "some", "places", "last"]
  kK:Df K mg "shows_levels" J5 ["machine", "rooms", "shown", "closed"]
  kL:Df K mg "_law_begin" Kh ["_law_script"]
  kM:Df K mg "_law_next" Kz ["_law_state", "_law_many"]
  kN:Df K mg "_law_exchanged" Jq ["_law_rows", "_law_joins"]
  kO:Df K mg "_law_goal" Ka ["_law_rows", "_law_room", "_law_letter", "_law_style"]
  kP:Df K mg "_law_machine" Lk ["_law_state", "_law_most", "_law_upto"]
  kQ:Df K mg "_law_set" Jm ["_law_state", "_law_rooms"]
  kR:Df K mg "_law_step" MK ["_law_machine_here", "_law_rooms", "_law_letter"]
  kS:Df K mg "_law_levels" K4 ["_law_machine_here", "_law_rooms"]
  kU:Df K mg "_law_is_set" KA ["_law_thing", "_law_many_here"]
  kW:Df K mg "_law_are_levels" J8 ["_law_machine_here_here", "_law_thing"]
  kX:Df K mg "_law_shown" KL ["_law_machine_here_here", "_law_rooms_here", "_law_shown_here", "_law_closed"]
  kY:Df K mg "_law_odd" MT ["_law_state_here", "_law_machine_here_here"]
  kZ:Df K mg "_law_other" Ko ["_law_state_here", "_law_machine_here_here", "_law_shown_here"]
  kAA:Df K mg "_law_strange" Kq ["_law_state_here", "_law_machine_here_here", "_law_shown_here"]
  kAB:Df K mg "_law_heaped" Lc ["_law_shown_here"]
  kAC:Df K mg "_law_right" K5 ["_law_machine_here_here", "_law_rooms_here", "_law_shown_here", "_law_closed"]
  kAD:Df K mg "law" MM ["_law_script_here"]
  kAE:mg "isinstance" = none
  kAF:mg "int" = none
  kAG:mg "bool" = none
  kAH:mg "tuple" = none
  kAI:mg "all" = none
  kAJ:mg "len" = none
  kAK:mg "zip" = none
  kAL:mg "sorted" = none
  kAM:mg "enumerate" = none
  kAN:mg "range" = none
  kAO:mg "list" = none
  kAP:mg "min" = none
  kinds:Kinds K
section
variable {P:Ym} {w:Yo} {K:Yb} {mg:Yh} {base:Heap}
def HX {X:Cx} {scope sc:Y0} {own:Yj} {N ps:Yk} (_:FnScope N ps sc) (hk:scope.kind=.function) (hs:X.env.scope=sc) (hN:X.N=N) (h1:Il sc scope=true) (h2:JM N scope own=true):CompIn X scope own:=OH hk hs hN h1 h2
def U6 {X:Cx} {scope sc sd:Y0} {own:Yj} {N ps:Yk} (_:FnScope N ps sd) (hk:scope.kind=.function) (hs:X.env.scope=sc) (hN:X.N=N) (h1:Il sc scope=true) (h2:JM N scope own=true):CompIn X scope own:=OH hk hs hN h1 h2
set_option hygiene false in
local macro_rules | `(tactic| decreasing_trivial)=> `(tactic| repeat' first
  |refine YT (pv _)
  |refine Bt ?_
  |refine dI ?_ ?_ (zd rfl)
  |refine Rb
  |refine U7 ?_
  |refine Rz
  |refine RS ?_
  |refine aJ ?_ ?_
  |refine Q8 ?_ ?_ (zd rfl)
  |refine UY
  |refine R0
  |refine Vx ?_ ?_
  |refine bK (by first|exact gI T|exact U0 T|exact Y9 T|exact ZN T|exact RI T|exact YV T|exact Wm T|exact Xz T|exact Vk T|exact Vw T|exact aM T|exact TB T|exact Sn T|exact Wq T|exact Td T|exact UR T|exact eM T|exact aK T|exact gA T|exact Rk T|exact Ue T|exact Tw T|exact WH T|exact UJ T|exact WW T) (hr.mono (by omega)) rfl ?_ ?_ (by decide) (zd rfl) (Gi rfl)
  |refine W4 ?_
  |refine ZU sc.nd rfl
  |refine TU rfl T.kAJ ?_ (zd rfl) rfl
  |refine bS ?_ ?_ ?_
  |refine Xm ?_ ?_
  |refine YW
  |refine RV ?_
  |refine Vn hr.units0 ?_ ?_
  |refine ZJ ?_
  |refine UH ?_
  |refine gQ
  |refine V1
  |refine QX Uy PassesOwn.never rfl ?_ ?_ ?_
  |refine fA
  |refine So rfl T.kAN ?_ ?_ (Kv rfl)
  |refine Sg ?_
  |refine MP (Hg (by decide)) (HX sc rfl rfl rfl (by decide+kernel) (by decide+kernel)) rfl ?_ ⟨λ_ _ _ _ _=>?_,λ_ _ _ _ _=>?_,λ_ _ _ _ _=>?_⟩
  |refine X9 rfl T.kAH ?_ (zd rfl) rfl
  |refine UN (Gj hr) ?_ ?_
  |refine Wh ?_
  |refine fQ ?_ ?_
  |refine Rt ?_ ?_
  |refine VL rfl rfl T.kAI ?_ (zd rfl) rfl
  |refine UB ?_ ?_
  |refine Vt ?_
  |refine Ul
  |refine d4 ?_
  |refine RU ?_ ?_ ?_
  |refine XI ?_
  |refine UK ?_ ?_
  |refine aQ ?_ ?_
  |refine UO (Gj hr) ?_ ?_ ?_
  |refine gF hr.units0 ?_ ?_
  |refine K9 T.kinds (by decide) rfl T.kAE rfl T.kAH (by rfl) (by decide) (by decide) ?_ (zd rfl) (zd rfl) (Gi rfl)
  |refine aU ?_ ?_
  |refine R7 ?_
  |refine UX ?_
  |refine gH ?_
  |refine RL rfl T.kAO ?_ (zd rfl) rfl
  |refine SN rfl T.kAF ?_ (zd rfl) rfl
  |refine WT ?_ ?_
  |refine T4 ?_ ?_
  |refine XW ?_ ?_
  |refine Xr
  |refine K9 T.kinds (by decide) rfl T.kAE rfl T.kAG (by rfl) (by decide) (by decide) ?_ (zd rfl) (zd rfl) (Gi rfl)
  |refine Rm
  |refine Tq rfl ?_
  |refine bT ?_ ?_
  |refine Wd ?_ ?_ ?_
  |refine Wc sc.nd rfl (by first|exact Or.inl rfl|exact Or.inr rfl) (by first|exact .inl rfl|exact .inr rfl) rfl (Hg (by decide)) (HX sc rfl rfl rfl (by decide+kernel) (by decide+kernel)) rfl ?_ ⟨λ_ _ _ _ _=>?_,λ_ _ _ _ _=>?_,λ_ _ _ _ _=>?_⟩
  |refine RX hr.units0 ?_ ?_
  |refine YJ ?_ ?_
  |refine K9 T.kinds (by decide) rfl T.kAE rfl T.kAF (by rfl) (by decide) (by decide) ?_ (zd rfl) (zd rfl) (Gi rfl)
  |refine TX
  |refine Xf rfl T.kAM ?_ (zd rfl) rfl
  |refine Zo (Gj hr) ?_ ?_
  |refine Rn ?_ ?_
  |refine Wn (Fl λ_ _ _ _=>Ce) (Fl λ_ _ _ _=>Ce) OP LG ?_ ?_ ?_
  |refine SR ?_ ?_
  |refine V4
  |refine ZV (XJ 1 (by decide) hr) ?_ ?_
  |refine Rh (Gj hr) ?_ ?_ ?_ ⟨rfl,rfl,rfl,rfl⟩
  |refine NR ?_ ?_
  |refine Rc (Hg (by decide)) (HX sc rfl rfl rfl (by decide+kernel) (by decide+kernel)) rfl ?_ ⟨λ_ _ _ _ _=>?_,λ_ _ _ _ _=>?_,λ_ _ _ _ _=>?_⟩
  |refine U9 rfl rfl T.kAL ?_ (zd rfl) rfl
  |refine QX (YN (K:=K)) PassesOwn.never rfl ?_ ?_ ?_
  |refine R5 ?_ ?_
  |refine SA ?_ ?_ ?_ ?_ ?_ ?_
  |refine UZ ?_ ?_
  |refine To ?_ ?_
  |refine TN rfl T.kAL ?_ (zd rfl) rfl
  |refine VC (Gj hr) ?_ ?_
  |refine Wo ?_ ?_
  |refine MP (Hg (by decide)) (U6 sc rfl rfl rfl (by rfl) (by decide+kernel)) rfl ?_ ⟨λ_ _ _ _ _=>?_,λ_ _ _ _ _=>?_,λ_ _ _ _ _=>?_⟩
  |refine SE rfl rfl T.kAH rfl T.kAN ?_ (zd rfl) rfl (zd rfl) rfl
  |refine Zl ?_
  |refine Zb (Gj hr) ?_ ?_
  |refine Wk _ PassesOwn.never ?_ ?_
  |refine cL rfl T.kAL ?_ (zd rfl) rfl
  |refine Uh rfl rfl T.kAP ?_ (zd rfl) (Gi rfl)
  |refine Uz rfl T.kAK ?_ (bP rfl rfl) (Kv rfl)
  |refine MP (N5 (K:=K) (by decide) (by decide)) (HX sc rfl rfl rfl (by decide+kernel) (by decide+kernel)) rfl ?_ ⟨λ_ _ _ _ _=>?_,λ_ _ _ _ _=>?_,λ_ _ _ _ _=>?_⟩
  |refine ZZ ?_ ?_ ?_
  |refine RC (by decide) (N5 (K:=K) (by decide) (by decide)) (Hg (by decide)) (HX sc rfl rfl rfl (by decide+kernel) (by decide+kernel)) rfl ?_ ⟨λ_ _ _ _ _=>?_,λ_ _ _ _ _=>?_,λ_ _ _ _ _=>?_,λ_ _ _ _ _=>?_,λ_ _ _ _ _=>?_,λ_ _ _ _ _=>?_,λ_ _ _ _ _ _=>rfl⟩
  |refine YE sc.nd rfl ?_
  |refine Mz (T9 ?_ ?_)
  |refine Mz (NR ?_ ?_)
  |refine Tf ?_)
noncomputable abbrev YR:List Str:=["thing"]
def Tu:FnScope YR ["thing"] (zR LN):=by constructor<;>first|rfl|decide+kernel
def RI (T:Txt K mg):Od P w base 1 T.kA HS:=by
  unfold HS;have sc:=Tu;exact BE (n:=1) T.kA.F sc rfl (λcdv A outer s H E hr=>by
    unfold MB;decreasing_trivial)
noncomputable abbrev X2:List Str:=["machine", "rooms", "letter", "room"]
def bM:FnScope X2 ["machine", "rooms", "letter"] (zR MS):=by constructor<;>first|rfl|decide+kernel
def YV (T:Txt K mg):Od P w base 1 T.kE HF:=by
  unfold HF;have sc:=bM;exact KQ (BE (n:=3) T.kE.F sc rfl (λcdv A outer s H E hr=>by
    unfold LV;decreasing_trivial))
noncomputable abbrev Wx:List Str:=["shown", "places", "at", "level", "some"]
def eQ:FnScope Wx ["shown"] (zR KW):=by constructor<;>first|rfl|decide+kernel
def UR (T:Txt K mg):Od P w base 1 T.kG IB:=by
  unfold IB;have sc:=eQ;exact BE (n:=1) T.kG.F sc rfl (λcdv A outer s H E hr=>by
    unfold LW;decreasing_trivial)
noncomputable abbrev eR:List Str:=["_law_script"]
def SG:FnScope eR ["_law_script"] (zR Kh):=by constructor<;>first|rfl|decide+kernel
def Rk (T:Txt K mg):Od P w base 1 T.kL IA:=by
  unfold IA;have sc:=SG;exact BE (n:=1) T.kL.F sc rfl (λcdv A outer s H E hr=>by
    unfold KH;decreasing_trivial)
noncomputable abbrev d8:List Str:=["_law_state", "_law_many", "_law_cell", "_law_at", "_law_mixed", "_law_digit"]
def SV:FnScope d8 ["_law_state", "_law_many"] (zR Kz):=by constructor<;>first|rfl|decide+kernel
def gI (T:Txt K mg):Od P w base 1 T.kM zN:=by
  unfold zN;have sc:=SV;exact BE (n:=2) T.kM.F sc rfl (λcdv A outer s H E hr=>by
    unfold Ju;decreasing_trivial)
noncomputable abbrev Wj:List Str:=["_law_rows", "_law_joins", "_law_letter", "_law_order", "_law_room", "_law_last"]
def cT:FnScope Wj ["_law_rows", "_law_joins"] (zR Jq):=by constructor<;>first|rfl|decide+kernel
def Wm (T:Txt K mg):Od P w base 1 T.kN Hz:=by
  unfold Hz;have sc:=cT;exact BE (n:=2) T.kN.F sc rfl (λcdv A outer s H E hr=>by
    unfold Kg;decreasing_trivial)
noncomputable abbrev Wl:List Str:=["_law_rows", "_law_room", "_law_letter", "_law_style", "_law_rooms", "_law_cut"]
def Xi:FnScope Wl ["_law_rows", "_law_room", "_law_letter", "_law_style"] (zR Ka):=by constructor<;>first|rfl|decide+kernel
def Xz (T:Txt K mg):Od P w base 1 T.kO F9:=by
  unfold F9;have sc:=Xi;exact BE (n:=4) T.kO.F sc rfl (λcdv A outer s H E hr=>by
    unfold Jt;decreasing_trivial)
noncomputable abbrev YQ:List Str:=["_law_machine_here", "_law_rooms", "_law_letter", "_law_found", "_law_room"]
def Tx:FnScope YQ ["_law_machine_here", "_law_rooms", "_law_letter"] (zR MK):=by constructor<;>first|rfl|decide+kernel
def Y9 (T:Txt K mg):Od P w base 1 T.kR ER:=by
  unfold ER;have sc:=Tx;exact KQ (BE (n:=3) T.kR.F sc rfl (λcdv A outer s H E hr=>by
    unfold J0;decreasing_trivial))
noncomputable abbrev Wt:List Str:=["_law_thing", "_law_many_here", "_law_one_here", "_law_k"]
def VY:FnScope Wt ["_law_thing", "_law_many_here"] (zR KA):=by constructor<;>first|rfl|decide+kernel
def Vk (T:Txt K mg):Od P w base 1 T.kU HB:=by
  unfold HB;have sc:=VY;exact BE (n:=2) T.kU.F sc rfl (λcdv A outer s H E hr=>by
    unfold MR;decreasing_trivial)
noncomputable abbrev fO:List Str:=["_law_shown_here", "_law_rows_here", "_law_ahead", "_law_level_here"]
def ZX:FnScope fO ["_law_shown_here"] (zR Lc):=by constructor<;>first|rfl|decide+kernel
def WH (T:Txt K mg):Od P w base 1 T.kAB Hl:=by
  unfold Hl;have sc:=ZX;exact HL (BE (n:=1) T.kAB.F sc rfl (λcdv A outer s H E hr=>by
    unfold LO;decreasing_trivial))
noncomputable abbrev dG:List Str:=["thing", "many"]
def R3:FnScope dG ["thing", "many"] (zR KO):=by constructor<;>first|rfl|decide+kernel
def Vw (T:Txt K mg):Od P w base 2 T.kB Hc:=by
  unfold Hc;have sc:=R3;exact BE (n:=2) T.kB.F sc rfl (λcdv A outer s H E hr=>by
    unfold La;decreasing_trivial)
noncomputable abbrev WZ:List Str:=["machine", "some", "places", "last", "goals", "letter", "goal"]
def VQ:FnScope WZ ["machine", "some", "places", "last"] (zR Lg):=by constructor<;>first|rfl|decide+kernel
def eM (T:Txt K mg):Od P w base 2 T.kJ GH:=by
  unfold GH;have sc:=VQ;exact HL (BE (n:=4) T.kJ.F sc rfl (λcdv A outer s H E hr=>by
    unfold Jb;decreasing_trivial))
noncomputable abbrev VO:List Str:=["_law_state", "_law_most", "_law_upto", "_law_rooms", "_law_letters", "_law_style", "_law_rows", "_law_room", "_law_letter", "_law_row"]
def Ts:FnScope VO ["_law_state", "_law_most", "_law_upto"] (zR Lk):=by constructor<;>first|rfl|decide+kernel
def Ue (T:Txt K mg):Od P w base 2 T.kP Hj:=by
  unfold Hj;have sc:=Ts;exact HL (BE (n:=3) T.kP.F sc rfl (λcdv A outer s H E hr=>by
    unfold Ja;decreasing_trivial))
noncomputable abbrev W3:List Str:=["_law_state", "_law_rooms", "_law_some", "_law_room"]
def UE:FnScope W3 ["_law_state", "_law_rooms"] (zR Jm):=by constructor<;>first|rfl|decide+kernel
def U0 (T:Txt K mg):Od P w base 2 T.kQ EU:=by
  unfold EU;have sc:=UE;exact HL (BE (n:=2) T.kQ.F sc rfl (λcdv A outer s H E hr=>by
    unfold JP;decreasing_trivial))
noncomputable abbrev S4:List Str:=["_law_machine_here", "_law_rooms", "_law_met", "_law_told", "_law_behind", "_law_one", "_law_letter", "_law_goal_here", "_law_level"]
def RF:FnScope S4 ["_law_machine_here", "_law_rooms"] (zR K4):=by constructor<;>first|rfl|decide+kernel
def Tw (T:Txt K mg):Od P w base 2 T.kS G1:=by
  unfold G1;have sc:=RF;exact KQ (BE (n:=2) T.kS.F sc rfl (λcdv A outer s H E hr=>by
    unfold Le;decreasing_trivial))
noncomputable abbrev Vr:List Str:=["_law_machine_here_here", "_law_thing", "_law_level_here", "_law_one_here"]
def SO:FnScope Vr ["_law_machine_here_here", "_law_thing"] (zR J8):=by constructor<;>first|rfl|decide+kernel
def aM (T:Txt K mg):Od P w base 2 T.kW IE:=by
  unfold IE;have sc:=SO;exact BE (n:=2) T.kW.F sc rfl (λcdv A outer s H E hr=>by
    unfold MC;decreasing_trivial)
noncomputable abbrev VF:List Str:=["_law_state_here", "_law_machine_here_here", "_law_many_here", "_law_some_here"]
def Wr:FnScope VF ["_law_state_here", "_law_machine_here_here"] (zR MT):=by constructor<;>first|rfl|decide+kernel
def TB (T:Txt K mg):Od P w base 2 T.kY Ge:=by
  unfold Ge;have sc:=Wr;exact BE (n:=2) T.kY.F sc rfl (λcdv A outer s H E hr=>by
    unfold Lo;decreasing_trivial)
noncomputable abbrev dB:List Str:=["_law_state_here", "_law_machine_here_here", "_law_shown_here", "_law_some_here", "_law_level_here"]
def Wf:FnScope dB ["_law_state_here", "_law_machine_here_here", "_law_shown_here"] (zR Kq):=by constructor<;>first|rfl|decide+kernel
def UJ (T:Txt K mg):Od P w base 2 T.kAA Hv:=by
  unfold Hv;have sc:=Wf;exact BE (n:=3) T.kAA.F sc rfl (λcdv A outer s H E hr=>by
    unfold Ks;decreasing_trivial)
noncomputable abbrev X0:List Str:=["thing", "many", "part"]
def ZC:FnScope X0 ["thing", "many"] (zR Lf):=by constructor<;>first|rfl|decide+kernel
def Sn (T:Txt K mg):Od P w base 3 T.kC IH:=by
  unfold IH;have sc:=ZC;exact BE (n:=2) T.kC.F sc rfl (λcdv A outer s H E hr=>by
    unfold Kt;decreasing_trivial)
noncomputable abbrev RN:List Str:=["_law_machine_here_here", "_law_rooms_here", "_law_shown_here", "_law_closed", "_law_places", "_law_k", "_law_one_here", "_law_letter_here"]
def Xh:FnScope RN ["_law_machine_here_here", "_law_rooms_here", "_law_shown_here", "_law_closed"] (zR KL):=by constructor<;>first|rfl|decide+kernel
def gA (T:Txt K mg):Od P w base 3 T.kX Gu:=by
  unfold Gu;have sc:=Xh;exact HL (BE (n:=4) T.kX.F sc rfl (λcdv A outer s H E hr=>by
    unfold KN;decreasing_trivial))
noncomputable abbrev eF:List Str:=["_law_state_here", "_law_machine_here_here", "_law_shown_here", "_law_rows_here", "_law_level_here", "_law_turn", "_law_way", "_law_k"]
def dF:FnScope eF ["_law_state_here", "_law_machine_here_here", "_law_shown_here"] (zR Ko):=by constructor<;>first|rfl|decide+kernel
def WW (T:Txt K mg):Od P w base 3 T.kZ Hy:=by
  unfold Hy;have sc:=dF;exact BE (n:=3) T.kZ.F sc rfl (λcdv A outer s H E hr=>by
    unfold LB;decreasing_trivial)
noncomputable abbrev RA:List Str:=["machine", "thing", "one", "other"]
def aR:FnScope RA ["machine", "thing"] (zR KI):=by constructor<;>first|rfl|decide+kernel
def Wq (T:Txt K mg):Od P w base 4 T.kD Ck:=by
  unfold Ck;have sc:=aR;exact BE (n:=2) T.kD.F sc rfl (λcdv A outer s H E hr=>by
    unfold DP;decreasing_trivial)
noncomputable abbrev aZ:List Str:=["machine", "thing", "some"]
def Zz:FnScope aZ ["machine", "thing"] (zR Jj):=by constructor<;>first|rfl|decide+kernel
def Td (T:Txt K mg):Od P w base 5 T.kF FJ:=by
  unfold FJ;have sc:=Zz;exact BE (n:=2) T.kF.F sc rfl (λcdv A outer s H E hr=>by
    unfold J3;decreasing_trivial)
noncomputable abbrev fR:List Str:=["machine", "rooms", "shown", "closed", "level", "places", "asked", "some", "at"]
def Y6:FnScope fR ["machine", "rooms", "shown", "closed"] (zR J5):=by constructor<;>first|rfl|decide+kernel
def aK (T:Txt K mg):Od P w base 6 T.kK Hm:=by
  unfold Hm;have sc:=Y6;exact HL (BE (n:=4) T.kK.F sc rfl (λcdv A outer s H E hr=>by
    unfold Gf;decreasing_trivial))
noncomputable abbrev SM:List Str:=["_law_machine_here_here", "_law_rooms_here", "_law_shown_here", "_law_closed", "_law_found_here"]
def Zj:FnScope SM ["_law_machine_here_here", "_law_rooms_here", "_law_shown_here", "_law_closed"] (zR K5):=by constructor<;>first|rfl|decide+kernel
def ZN (T:Txt K mg):Od P w base 7 T.kAC GC:=by
  unfold GC;have sc:=Zj;exact BE (n:=4) T.kAC.F sc rfl (λcdv A outer s H E hr=>by
    unfold LQ;decreasing_trivial)
noncomputable abbrev Wy:List Str:=["_law_script_here", "_law_state_here", "_law_turn", "_law_machine_here_here", "_law_rooms_here", "_law_whole", "_law_cut_here", "_law_some_here", "_law_k", "_law_shown_here"]
def Zf:FnScope Wy ["_law_script_here"] (zR MM):=by constructor<;>first|rfl|decide+kernel
def bY (T:Txt K mg):Od P w base 8 T.kAD Fq:=by
  unfold Fq;have sc:=Zf;exact BE (n:=1) T.kAD.F sc rfl (λcdv A outer s H E hr=>by
    unfold Lr;decreasing_trivial)
end
def eZ {l:PySem.W.OpenLaw} {w:World} {K:PySem.W.Frag} {h:Heap} {mg:Str->Option Value} {fa:Addr} (X:K.In h) (G:h.Ns mainGlobals mg) (hfa:mg "law" = some (.ref fa))
    (g1:Dg K "is_whole" LN) (g2:Dg K "is_below" KO) (g3:Dg K "is_tuple_below" Lf) (g4:Dg K "is_set" KI) (g5:Dg K "stepped" MS) (g6:Dg K "is_level" Jj) (g7:Dg K "first_places" KW) (g8:Dg K "stays" Lg) (g9:Dg K "shows_levels" J5) (g10:Dg K "_law_begin" Kh) (g11:Dg K "_law_next" Kz) (g12:Dg K "_law_exchanged" Jq) (g13:Dg K "_law_goal" Ka) (g14:Dg K "_law_machine" Lk) (g15:Dg K "_law_set" Jm) (g16:Dg K "_law_step" MK) (g17:Dg K "_law_levels" K4) (g18:Dg K "_law_is_set" KA) (g19:Dg K "_law_are_levels" J8) (g20:Dg K "_law_shown" KL) (g21:Dg K "_law_odd" MT) (g22:Dg K "_law_other" Ko) (g23:Dg K "_law_strange" Kq) (g24:Dg K "_law_heaped" Lc) (g25:Dg K "_law_right" K5) (g26:Dg K "law" MM) (z1:Zn K "isinstance") (z2:Zn K "int") (z3:Zn K "bool") (z4:Zn K "tuple") (z5:Zn K "all") (z6:Zn K "len") (z7:Zn K "zip") (z8:Zn K "sorted") (z9:Zn K "enumerate") (z10:Zn K "range") (z11:Zn K "list") (z12:Zn K "min") (y1:Ki K "NoneType" "int" false) (y2:Ki K "NoneType" "bool" false) (y3:Ki K "NoneType" "str" false) (y4:Ki K "NoneType" "tuple" false) (y5:Ki K "bool" "int" true) (y6:Ki K "bool" "bool" true) (y7:Ki K "bool" "str" false) (y8:Ki K "bool" "tuple" false) (y9:Ki K "int" "int" true) (y10:Ki K "int" "bool" false) (y11:Ki K "int" "str" false) (y12:Ki K "int" "tuple" false) (y13:Ki K "str" "int" false) (y14:Ki K "str" "bool" false) (y15:Ki K "str" "str" true) (y16:Ki K "str" "tuple" false) (y17:Ki K "list" "int" false) (y18:Ki K "list" "bool" false) (y19:Ki K "list" "str" false) (y20:Ki K "list" "tuple" false) (y21:Ki K "tuple" "int" false) (y22:Ki K "tuple" "bool" false) (y23:Ki K "tuple" "str" false) (y24:Ki K "tuple" "tuple" true) (y25:Ki K "dict" "int" false) (y26:Ki K "dict" "bool" false) (y27:Ki K "dict" "str" false) (y28:Ki K "dict" "tuple" false) :
    ∃ fd:FuncData,(∀ (s:Shared) (v:Value),BindsTo s fd ⟨[v],[]⟩ [("_law_script_here", v)]) /\ ∀ base:Heap,K.In base->base.Ns mainGlobals mg->FnOk l.prog w K mg base CX0 8 fa fd ["_law_script_here"] (spF K 1 Fq):=by
  have e:=hfa.symm.trans (PySem.W.mg_of X G g26.a);cases e;have kinds:Kinds K:=⟨by
    intro t T ht hT;simp only[AO,Cv,or_false]at ht hT;rcases ht with rfl|rfl|rfl|rfl|rfl|rfl|rfl <;> rcases hT with rfl|rfl|rfl|rfl <;> assumption⟩
  let T:Txt K mg:=⟨g1.df X G λ_ _ _ _ _ _=>Hw λ_=>rfl,g2.df X G λ_ _ _ _ _ _=>Dm λ_ _=>rfl,g3.df X G λ_ _ _ _ _ _=>Dm λ_ _=>rfl,g4.df X G λ_ _ _ _ _ _=>Dm λ_ _=>rfl,g5.df X G λ_ _ _ _ _ _=>Hn λ_ _ _=>rfl,g6.df X G λ_ _ _ _ _ _=>Dm λ_ _=>rfl,g7.df X G λ_ _ _ _ _ _=>Hw λ_=>rfl,g8.df X G λ_ _ _ _ _ _=>IQ λ_ _ _ _=>rfl,g9.df X G λ_ _ _ _ _ _=>IQ λ_ _ _ _=>rfl,g10.df X G λ_ _ _ _ _ _=>Hw λ_=>rfl,g11.df X G λ_ _ _ _ _ _=>Dm λ_ _=>rfl,g12.df X G λ_ _ _ _ _ _=>Dm λ_ _=>rfl,g13.df X G λ_ _ _ _ _ _=>IQ λ_ _ _ _=>rfl,g14.df X G λ_ _ _ _ _ _=>Hn λ_ _ _=>rfl,g15.df X G λ_ _ _ _ _ _=>Dm λ_ _=>rfl,g16.df X G λ_ _ _ _ _ _=>Hn λ_ _ _=>rfl,g17.df X G λ_ _ _ _ _ _=>Dm λ_ _=>rfl,g18.df X G λ_ _ _ _ _ _=>Dm λ_ _=>rfl,g19.df X G λ_ _ _ _ _ _=>Dm λ_ _=>rfl,g20.df X G λ_ _ _ _ _ _=>IQ λ_ _ _ _=>rfl,g21.df X G λ_ _ _ _ _ _=>Dm λ_ _=>rfl,g22.df X G λ_ _ _ _ _ _=>Hn λ_ _ _=>rfl,g23.df X G λ_ _ _ _ _ _=>Hn λ_ _ _=>rfl,g24.df X G λ_ _ _ _ _ _=>Hw λ_=>rfl,g25.df X G λ_ _ _ _ _ _=>IQ λ_ _ _ _=>rfl,g26.df X G λ_ _ _ _ _ _=>Hw λ_=>rfl,Dj X G z1,Dj X G z2,Dj X G z3,Dj X G z4,Dj X G z5,Dj X G z6,Dj X G z7,Dj X G z8,Dj X G z9,Dj X G z10,Dj X G z11,Dj X G z12,kinds⟩;refine ⟨T.kAD.fd,λs v=> .of_eq rfl,λbase _ _=>?_⟩;exact bY (P:=l.prog) (w:=w) (base:=base) T
def WR {l:PySem.W.OpenLaw} {q:Ym} {loose:Yk} {XP:(Str->Option Value)->Heap->Prop} {YP:World->Heap->Prop} {d:DefRec} {K:Params->PySem.W.Frag} (hn:l.most=some 63) (hdf:d.params.defaults=[])
    (hY:∀ (w:Yo) (h:Heap),YP w h->(K w.params).In h) (hL:∀ w:World,JX (K w.params)=true) (hT:∀ w:World,Lj (K w.params)=true)
    (F:∀ (w:Yo) (mg:Yh) (fa:Yt) (h:Heap),(K w.params).In h->h.Ns mainGlobals mg->mg d.name=some (.ref fa) ->
      ∃ fd:FuncData,(∀ (s:Shared) (u:Value),BindsTo s fd ⟨[u],[]⟩ [("_law_script_here", u)]) /\ ∀ base:Heap,(K w.params).In base->base.Ns mainGlobals mg->FnOk l.prog w (K w.params) mg base CX0 8 fa fd ["_law_script_here"] (spF (K w.params) 1 Fq)) :
    PySem.W.WalkO q loose XP YP l.row.toRowW d [] (λf vs=>PySem.call f vs) :=
  L2.X3 (n:=63) (k:=8) (x := "_law_script_here") (CX:=λ_=>CX0) (sp:=λw=>spF (K w.params) 1 Fq) hn (by decide) hdf ⟨rfl,by decide,by decide⟩ hY F
    (λw H a ns hl hO hS=>XO (hL w) (cJ (hT w)) (Xp hO) hS (Xa ns hl)) λ_ _ _ _ _ z=>z
end Lae
end
open PySem PySem.W PyProof.Rows
set_option maxRecDepth 100000 in
set_option maxHeartbeats 0 in
theorem PySem.Challenge.cw_bringhome_k15_shown_levels_holds : PySem.Challenge.rw_bringhome_k15_shown_levels.Holds := by
  w_on;o_law;k_head;(case hw=>w_witness2);k_fill;refine Lae.WR (l:=PySem.Challenge.rw_bringhome_k15_shown_levels) rfl rfl (λw h YY=>PySem.W.kIn_of YY) (λw=>by rfl) (λw=>by rfl) ?F
  case F=>
    intro w mg fa h KX G hmg;apply Lae.eZ KX G hmg;all_goals first|exact ⟨_,by k_is,by k_is,by k_is,by k_is⟩|(unfold L3.Zn;k_is)|(unfold L3.Ki;kit_is)|k_is
