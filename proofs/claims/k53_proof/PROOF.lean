import PyProof.Rows.All
import Wide.All
import OpenK.AllK
import Wide.FinOn
import Lean
import PyProof.EqAt
import PyProof.EqKinds
import PyProof.TupleCall
import PyProof.NeKinds
import PyProof.ZipIter
import PyProof.ListRange
import PyProof.TupleOfSeq
import PyProof.ConsumeWalk
import PyProof.IsRules
import PyProof.SetKind
import PyProof.SetRoads
import PyProof.Rows.SetFrom
import PyProof.Draws
import PyProof.EnumMake
import PyProof.DictCompW
import PyProof.ListMulRoad
import PyProof.Rows.SeqMore2
import PyProof.WalkInts
import PyProof.DictRoadsH
import PyProof.DictItems
import KE.KDictList
import KE.KDictOf
import PyProof.AttrMissHeap
import PyProof.TupleKey
import PySem.Challenge.RW_bringhome_k53_beats
local macro_rules|`(tactic|omega)=>`(tactic|lia)
local macro_rules|`(command|def $i $s $v:declVal)=>`(command|noncomputable def $i $s $v:declVal)
local macro_rules|`(command|abbrev $i $s $v:declVal)=>`(command|noncomputable abbrev $i $s $v:declVal)
local macro_rules|`(~~~$x)=>`(by simpa using $x)
local macro_rules|`(⇑$x)=>`($(x).heap.objs.size)
local macro_rules|`(tactic|∎)=>`(tactic|constructor<;>first|rfl|decide+kernel)
local macro_rules|`(tactic|calc $x:term)=>`(tactic|refine $x)
local macro_rules|`(tactic|ext $x:ident)=>`(tactic|cases $x:ident)
local macro_rules|`(tactic|cbv at $x:ident)=>`(tactic|split at $x:ident)
local macro_rules|`(tactic|erw[$a,*]$[at $h:ident]?)=>let a:=a.getElems.map λx=>(⟨x.raw[1]⟩:Lean.Ident);`(tactic|unfold $a* $[at $h:ident]?)
local macro_rules|`(tactic|let $d:letDecl)=>`(tactic|have $d:letDecl)
local macro_rules|`(tactic|let⟨$a,*⟩:=$t)=>do let q←(List.range 9).foldl (λr _ (x:Lean.Term)=>match x with|`(⟨$a,*⟩)=>do let b←a.getElems.mapM r;`(rcasesPat|⟨$[$b:rcasesPat],*⟩)|`($i:ident)=>`(rcasesPat|$i:ident)|_=>`(rcasesPat|_)) (λ_=>`(rcasesPat|_)) (←`(⟨$a,*⟩));`(tactic|obtain $q:rcasesPat:=$t)
local macro_rules|`(())=>`(by first|decide|omega)
theorem qz {p:Prop} (h:¬p->False):p:=Classical.byContradiction h
section
open PySem
abbrev Ya:=List (List Int)
abbrev Yb:=W.Frag
abbrev Yc:=Value->Shared->Prop
abbrev Yd:=List (Addr × Obj)
abbrev Ye:=List Int
abbrev Yf:=List Value
abbrev Yg:=List Addr
abbrev Yh:=Str->Option Value
abbrev Yi:=List Expr
abbrev Yj:=List Nat
abbrev Yk:=List Str
abbrev Yl:=Shared
abbrev Ym:=Program
abbrev Yn:=Around
abbrev Yo:=World
abbrev Yp:=Array Value
abbrev Yq:=List Int->Prop
abbrev Yr:=Value->Nat
abbrev Ys:=Option Int
abbrev Yt:=Addr
abbrev Yu:=Value
abbrev Yv:=List (Str × Addr)
abbrev Yw:=Array (Int × Value)
abbrev Yx:=Result->Shared->Prop
abbrev Yy:=List Stmt
abbrev Yz:=FuncData
abbrev Y0:=Scope
abbrev Y1:=List Int->List (List Int)
abbrev Y2:=Value->Value->Sem Value
end
structure PySem.W.Fast:Prop where(tw12471840855914316522 tw10368272439195029987 tw9671020231490399087 tw11710634804905731027 tw18154328335004677617 tw16356685202964575161 tw1301054988888827692 tw3489667010421481377 tw17220237835007489916 tw538139779043119930 tw11502390817583508703 tw12927883944372993977 tw7766636174510541663 tw7634874813703231826 tw2443711380689047358 tw15880624117422612127 tw10768325650370425102 tw12768295295122266810 tw1325406982717177908 tw9970431319664811309 tw671302162161863112 tw5752024364712590551 tw17445928351859693277 tw535929567418641769 tw2114636969925822920 tw7677952155813092564 tw755502219201308162 tw14374024351458629641 tw93716826291460791 tw12893809037425887058 tw1450367349417154974 tw4465478208603733202 tw1144104029189370107 tw14279415393949780297 tw773674366071113145 tw15353725490842954820 tw6380214505849165862 tw13780365751279071865 tw10734947507911297629 tw17324736109431697356 tw9503009836393646526 tw11002021213077008670 tw16679872899061841831 tw2583694748272710618 tw13762534045691552621 tw3596662348036049183 tw9554948225393879458 tw2186892864463480685 tw7297630000227852956 tw7983434286719710248 tw15157181653831665898 tw3266616836638835095 tw10307215497856273450 tw3590338917470908758 tw2011263941261707063 tw15677328217392394858 tw16304616983290764663 tw16840456852176608774 tw3822784038666780996 tw7200403822435197841 tw17252349403981960408 tw325823154022861158 tw396587722211763260 tw2010283210799953568 tw933034543666559579 tw6120616470305117451 tw8963251467720258652:True)
section
open PySem PySem.Spec PyProof.Rows
def AA:type_of% @wpAny_bind:=@wpAny_bind
def AH:type_of% @Heap.get?_push_of_some:=@Heap.get?_push_of_some
def AB:type_of% @wpAny_pure:=@wpAny_pure
def AK:type_of% @List.getElem?_eq_some_iff:=@List.getElem?_eq_some_iff
def AJ:type_of% @List.getElem?_eq_getElem:=@List.getElem?_eq_getElem
def BB:type_of% @List.getD_eq_getElem?_getD:=@List.getD_eq_getElem?_getD
def AF:type_of% @Nat.le_refl:=@Nat.le_refl
def BI:type_of% @List.getElem?_append_left:=@List.getElem?_append_left
def AS:type_of% @List.size_toArray:=@List.size_toArray
def AI:type_of% @List.length_map:=@List.length_map
def AN:type_of% @Heap.get?_push_size:=@Heap.get?_push_size
def AG:type_of% @Heap.lt_size:=@Heap.lt_size
def AL:type_of% @List.mem_cons:=@List.mem_cons
def Ay:type_of% @List.mem_cons_of_mem:=@List.mem_cons_of_mem
def Az:type_of% @List.mem_cons_self:=@List.mem_cons_self
def AD:type_of% @if_pos:=@if_pos
def BK:type_of% @List.length_append:=@List.length_append
def Af:type_of% @List.mem_map:=@List.mem_map
def AE:type_of% @if_neg:=@if_neg
def Ad:type_of% @List.map_cons:=@List.map_cons
def Bb:type_of% @List.mem_append_right:=@List.mem_append_right
def AY:type_of% @Nat.ne_of_lt:=@Nat.ne_of_lt
def Av:type_of% @Bool.false_ne_true:=@Bool.false_ne_true
def AQ:type_of% @List.getElem?_map:=@List.getElem?_map
def Ao:type_of% @Nat.lt_of_lt_of_le:=@Nat.lt_of_lt_of_le
def Ab:type_of% @List.mem_append:=@List.mem_append
def An:type_of% @Nat.le_trans:=@Nat.le_trans
def AW:type_of% @List.mem_singleton:=@List.mem_singleton
def Aw:type_of% @wpAny_newObj_type:=@wpAny_newObj_type
def BJ:type_of% @List.getElem?_set_ne:=@List.getElem?_set_ne
def Cj:type_of% @List.not_mem_nil:=@List.not_mem_nil
def Aq:type_of% @wpAny_mono:=@wpAny_mono
def Cu:type_of% @List.length_cons:=@List.length_cons
def Au:type_of% @List.getElem_mem:=@List.getElem_mem
def A6:type_of% @decide_eq_false:=@decide_eq_false
def A8:type_of% @Bool.and_eq_true:=@Bool.and_eq_true
def Aj:type_of% @List.all_eq_true:=@List.all_eq_true
def B6:type_of% @wpAny_callSpecial?_slot:=@wpAny_callSpecial?_slot
def A9:type_of% @wpAny_call_entry:=@wpAny_call_entry
def C3:type_of% @List.mem_range:=@List.mem_range
def CI:type_of% @wpAny_field:=@wpAny_field
def BR:type_of% @Heap.size_push:=@Heap.size_push
def CG:type_of% @Heap.get?_update_other:=@Heap.get?_update_other
def A7:type_of% @Nat.lt_irrefl:=@Nat.lt_irrefl
def AU:type_of% @Array.length_toList:=@Array.length_toList
def C1:type_of% @List.append_nil:=@List.append_nil
def BQ:type_of% @Array.getElem?_eq_getElem:=@Array.getElem?_eq_getElem
def Bh:type_of% @Nat.zero_le:=@Nat.zero_le
def B8:type_of% @Heap.get?_update_self:=@Heap.get?_update_self
def Ce:type_of% @Nat.lt_succ_of_lt:=@Nat.lt_succ_of_lt
def Cg:type_of% @wpAny_seqItems:=@wpAny_seqItems
def Ax:type_of% @List.mem_of_getElem?:=@List.mem_of_getElem?
def CD:type_of% @List.map_append:=@List.map_append
def Bl:type_of% @wpAny_holding:=@wpAny_holding
def Bv:type_of% @List.getElem?_set_self:=@List.getElem?_set_self
def D9:type_of% @Around.under_plainId:=@Around.under_plainId
def By:type_of% @of_decide_eq_true:=@of_decide_eq_true
def CL:type_of% @Nat.lt_succ_self:=@Nat.lt_succ_self
def Cn:type_of% @PySem.W.mg_none_of:=@PySem.W.mg_none_of
def BG:type_of% @Option.some.inj:=@Option.some.inj
def AZ:type_of% @Bool.false_eq_true:=@Bool.false_eq_true
def Ct:type_of% @PySem.mem_of_lookup:=@PySem.mem_of_lookup
def BS:type_of% @Heap.SameBut.update:=@Heap.SameBut.update
def C2:type_of% @codeAny_builtin:=@codeAny_builtin
def CS:type_of% @List.append_assoc:=@List.append_assoc
def BF:type_of% @decide_eq_true:=@decide_eq_true
def DA:type_of% @List.getElem?_eq_none:=@List.getElem?_eq_none
def Dk:type_of% @List.getElem?_append_right:=@List.getElem?_append_right
def EE:type_of% @wpAny_truthy_bool:=@wpAny_truthy_bool
def CQ:type_of% @decide_eq_true_eq:=@decide_eq_true_eq
def EX:type_of% @List.nodup_append:=@List.nodup_append
def BW:type_of% @List.mem_append_left:=@List.mem_append_left
def Bi:type_of% @Obj.data_mapFields:=@Obj.data_mapFields
def DH:type_of% @Nat.lt_or_ge:=@Nat.lt_or_ge
def Bc:type_of% @wpAny_rule:=@wpAny_rule
def BY:type_of% @List.length_take:=@List.length_take
def Cd:type_of% @sizeLine_eq:=@sizeLine_eq
def Bq:type_of% @List.length_nil:=@List.length_nil
def DM:type_of% @Nat.ne_of_gt:=@Nat.ne_of_gt
def GR:type_of% @PyProof.Rows.slot_tuple_getitem:=@PyProof.Rows.slot_tuple_getitem
def CJ:type_of% @List.getElem?_set:=@List.getElem?_set
def Cm:type_of% @wpAny_attempt:=@wpAny_attempt
def DB:type_of% @PySem.W.kia_one:=@PySem.W.kia_one
def Am:type_of% @Array.getElem?_toList:=@Array.getElem?_toList
def Cq:type_of% @Nat.le_succ:=@Nat.le_succ
def B1:type_of% @wpAny_setField:=@wpAny_setField
def Dr:type_of% @List.find?_cons:=@List.find?_cons
def BC:type_of% @congrArg:=@congrArg
def DO:type_of% @Obj.isFreed_of_fields:=@Obj.isFreed_of_fields
def EA:type_of% @Int.emod_lt_of_pos:=@Int.emod_lt_of_pos
def Di:type_of% @List.length_range:=@List.length_range
def Ea:type_of% @List.length_eq_zero_iff:=@List.length_eq_zero_iff
def Bo:type_of% @List.getElem_of_mem:=@List.getElem_of_mem
def Eu:type_of% @List.getElem?_range:=@List.getElem?_range
def EK:type_of% @List.lookup_cons:=@List.lookup_cons
def FR:type_of% @Array.getElem?_eq_none:=@Array.getElem?_eq_none
def Eb:type_of% @List.pairwise_cons:=@List.pairwise_cons
def A4:type_of% @if_true:=@if_true
def Ck:type_of% @List.length_set:=@List.length_set
def Dm:type_of% @List.ext_getElem?:=@List.ext_getElem?
def Ah:type_of% @if_false:=@if_false
def D0:type_of% @List.length_drop:=@List.length_drop
def C6:type_of% @List.isEmpty_nil:=@List.isEmpty_nil
def DC:type_of% @Bool.eq_iff_iff:=@Bool.eq_iff_iff
def B4:type_of% @wpAny_setState_of:=@wpAny_setState_of
def Be:type_of% @bind_assoc:=@bind_assoc
def Bj:type_of% @Int.toNat_natCast:=@Int.toNat_natCast
def Cz:type_of% @List.take_append_drop:=@List.take_append_drop
def DW:type_of% @wpAny_setEntries_of:=@wpAny_setEntries_of
def CH:type_of% @Nat.le_of_lt:=@Nat.le_of_lt
def BX:type_of% @pure_bind:=@pure_bind
def DK:type_of% @bne_self_eq_false:=@bne_self_eq_false
def Bx:type_of% @Bool.not_true:=@Bool.not_true
def FX:type_of% @List.mem_of_mem_drop:=@List.mem_of_mem_drop
def DY:type_of% @wpAny_fieldsOf:=@wpAny_fieldsOf
end
set_option Elab.async false
set_option linter.all false
set_option maxRecDepth 100000
set_option genSizeOf false
set_option genInjectivity false
set_option compiler.extract_closed false
noncomputable section
section
open PySem PySem.Spec PyProof.Rows
namespace L2
abbrev Key:=Sum Int Str
def Eo:Key->Value->Bool
 |.inl k,v=>Value.isInt k v
 |.inr x,v=>Value.isStrOf x v
def ZS (w:Yo):Key->Int
 |.inl k=>hashInt k
 |.inr x=>hashStr w x
def zt:∀ {k:Key} {v:Yu},Eo k v=true->(∃ i t,k=Sum.inl i/\v=Value.int i t)\/(∃ x t,k=Sum.inr x/\v=Value.str x t)
 |.inl i,v,h=>by
  let⟨t,e⟩:=Value.isInt_shape (k:=i) (v:=v) h;calc .inl ⟨i,t,rfl,e⟩
 |.inr x,v,h=>by
  let⟨t,e⟩:=Value.isStrOf_shape (x:=x) (v:=v) h;calc .inr ⟨x,t,rfl,e⟩
def VX (i:Int) (t:Tok):Eo (.inl i) (.int i t)=true:=by simp[Eo,Value.isInt]
def Rp (x:Str) (t:Tok):Eo (.inr x) (.str x t)=true:=by simp[Eo,Value.isStrOf]
def QV (a b:Int):decide ((Sum.inl a:Key)=Sum.inl b)=(a==b):=by
 by_cases e:a=b
 .subst e;simp
 .have h:¬ (Sum.inl a:Key)=Sum.inl b:=λq=>e (Sum.inl.inj q);rw[A6 h];calc (beq_eq_false_iff_ne.mpr e).symm
def UI (a b:Str):decide ((Sum.inr a:Key)=Sum.inr b)=decide (a=b):=by
 by_cases e:a=b
 .subst e;simp
 .have h:¬ (Sum.inr a:Key)=Sum.inr b:=λq=>e (Sum.inr.inj q);rw[A6 h,A6 e]
def YZ (a:Int) (b:Str):decide ((Sum.inl a:Key)=Sum.inr b)=false:=A6 (λq=>nomatch q)
def R6 (a:Str) (b:Int):decide ((Sum.inr a:Key)=Sum.inl b)=false:=A6 (λq=>nomatch q)
def ze (prog:Ym) (w:Yo):PySem.KeyKind prog w Key where
 is:=Eo
 hash:=ZS w
 inj:=λv a b ha hb=>by
  rcases zt ha with ⟨i,t,rfl,rfl⟩|⟨x,t,rfl,rfl⟩
  .rcases zt hb with ⟨j,u,rfl,e⟩|⟨y,u,rfl,e⟩
   .injection e with e1 _;rw[e1]
   .exact nomatch e
  .rcases zt hb with ⟨j,u,rfl,e⟩|⟨y,u,rfl,e⟩
   .exact nomatch e
   .injection e with e1 _;rw[e1]
 byValue:=λk v h=>by
  rcases zt h with ⟨i,t,rfl,rfl⟩|⟨x,t,rfl,rfl⟩ <;> rfl
 pyHash:=λhv h=>by
  rcases zt hv with ⟨i,t,rfl,rfl⟩|⟨x,t,rfl,rfl⟩
  .exact wpAny_pyHash_int h
  .exact wpAny_pyHash_str h
 eqBool:=λhu hv h=>by
  rcases zt hu with ⟨i,t,rfl,rfl⟩|⟨x,t,rfl,rfl⟩
  .rcases zt hv with ⟨j,u,rfl,rfl⟩|⟨y,u,rfl,rfl⟩
   .rw[QV]at h;exact wpAny_eqBool_int h
   .rw[YZ]at h;exact SeqAt.EqAt.int_str i t y u _ _ _ _ h
  .rcases zt hv with ⟨j,u,rfl,rfl⟩|⟨y,u,rfl,rfl⟩
   .rw[R6]at h;exact SeqAt.EqAt.str_int x t j u _ _ _ _ h
   .rw[UI]at h;exact wpAny_eqBool_str h
 «strs»:=λk x t v h=>by
  rcases zt h with ⟨i,u,rfl,e⟩|⟨y,u,rfl,e⟩
  .exact nomatch e
  .injection e with e1 _
   subst e1
   cases v <;> rfl
def Qw (prog:Ym) (w:Yo) (i:Int) (t:Tok):(ze prog w).is (.inl i) (.int i t)=true:=VX i t
def W8 (prog:Ym) (w:Yo) (x:Str) (t:Tok):(ze prog w).is (.inr x) (.str x t)=true:=Rp x t
set_option genInjectivity true in
inductive V where
 |non|bl (b:Bool)|int (i:Int)|str (x:Str)|byt (b:Array UInt8)|flt (b:UInt64)|ref (a:Yt)|ty (n:String)
 deriving DecidableEq
def za:V->Value->Prop
 |.non,u=>u=Value.none
 |.bl b,u=>u=Value.bool b
 |.int i,u=>∃ t,u=Value.int i t
 |.str x,u=>∃ t,u=Value.str x t
 |.byt b,u=>∃ t,u=Value.bytes b t
 |.flt b,u=>∃ t,u=Value.float b t
 |.ref a,u=>u=Value.ref a
 |.ty n,u=>u=Value.type n
abbrev zU:List V->List Value->Prop:=Paired za
def zU.length {xs:List V} {us:Yf} (r:zU xs us):xs.length=us.length:=Paired.length r
def zU.get:∀ {xs:List V} {us:Yf} {i:Nat} {x:V},zU xs us->xs[i]?=some x -> ∃ u,us[i]?=some u/\za x u
 |_,_,_,_,.nil,e=>by simp at e
 |_,_,0,_,.cons r _,e=>by simp at e;subst e;calc ⟨_,rfl,r⟩
 |_,_,i+1,x,.cons _ t,e=>by
  let⟨u,h1,h2⟩:=zU.get (i:=i) (x:=x) t (~~~e);calc ⟨u,by simpa using h1,h2⟩
def zU.set {x:V} {u:Yu} (r:za x u):∀ {xs:List V} {us:Yf} (i:Nat),zU xs us->zU (xs.set i x) (us.set i u)
 |_,_,_,.nil=> .nil
 |_,_,0,.cons _ t=> .cons r t
 |_,_,i+1,.cons q t=> .cons q (zU.set r i t)
def zU.append:∀ {xs ys:List V} {us ws:Yf},zU xs us->zU ys ws->zU (xs++ys) (us++ws)
 |_,_,_,_,.nil,s=>s
 |_,_,_,_,.cons r t,s=> .cons r (zU.append t s)
def zU.take:∀ {xs:List V} {us:Yf} (n:Nat),zU xs us->zU (xs.take n) (us.take n)
 |_,_,0,_=> .nil
 |_,_,_+1,.nil=> .nil
 |_,_,n+1,.cons r t=> .cons r (zU.take n t)
def zU.drop:∀ {xs:List V} {us:Yf} (n:Nat),zU xs us->zU (xs.drop n) (us.drop n)
 |_,_,0,r=>r
 |_,_,_+1,.nil=> .nil
 |_,_,n+1,.cons _ t=>zU.drop n t
def DF:Option V->Option Value->Prop
 |some v,some u=>za v u
 |none,none=>True
 |_,_=>False
def KV {κ:Type}:List (κ × V)->List (κ × Value)->Prop:=Paired λ(p:κ × V) (q:κ × Value)=>p.1=q.1/\za p.2 q.2
def kV:Key->V
 |.inl i=> .int i
 |.inr x=> .str x
set_option genInjectivity true in
inductive HO where
 |lst (xs:List V)
 |tup (xs:List V)
 |dK (kvs:List (Key × V))|dT (kvs:List (List Key × V))
 |set (S:Int->Bool) (n:Nat)
 |ins (C dx:Yt) (fs:List (Str × V))
 |own (x:Yt)
 |xd (fs:List (Str × V))
 |met (f x:Yt)
 |rng (lo hi:Int)
 |frz (o:Obj) (u:HO)
 |tbl (ps:Yp)
 |ext (φ:Heap->Prop)
abbrev Hp:=Addr->Option HO
def upd (H:Hp) (a:Yt) (o:HO):Hp:=λb=>if b=a then some o else H b
def DI {H:Hp} {a:Yt} {o:HO}:upd H a o a=some o:=by erw[upd];rw[AD rfl]
def zT {H:Hp} {a b:Yt} {o:HO} (h:b≠a):upd H a o b=H b:=by erw[upd];rw[AE h]
def GC {H:Hp} {a b:Yt} {o u:HO} (h:H a=some o) (h':H b=some u) (d:o≠u):a≠b:=by
 intro e;subst e;rw[h]at h';calc d (BG h')
def DG {H:Hp} {a b:Yt} {o:HO} (h:H a=some o) (h':H b=none):a≠b:=by
 intro e;subst e;rw[h]at h';ext h'
def Dl (h:Heap) (a:Addr) (items:Array Value):Prop:=∃ o,h.get? a=some o/\o.cls=.type "tuple" /\ (∃ n,o.data=.seq items n)/\o.dict=none
def Dl.tup {h:Heap} {a:Yt} {items:Yp} (x:Dl h a items):IsTup h a items:=let ⟨o,e,c,d,_⟩:=x;⟨o,e,c,d⟩
def Dl.lt {h:Heap} {a:Yt} {items:Yp} (x:Dl h a items):a<h.objs.size:=let ⟨_,e,_⟩:=x;AG e
def Dl.new (h:Heap) (items:Array Value):Dl (h.push { cls:=.type "tuple", data:=.seq items }) h.objs.size items:=⟨_,AN _ rfl,rfl,⟨_,rfl⟩,rfl⟩
section
variable (P:Ym) (w:Yo)
def Ag (H:Hp) (h:Heap) (a:Yt):HO->Prop
 |.lst xs=>xs.length<=sizeLine /\ ∃ (its:List Value) (n:Nat),zU xs its/\h.get? a=some { cls:=.type "list", data:=.seq its.toArray n }
 |.tup xs=>xs.length<=sizeLine /\ ∃ its:List Value,zU xs its/\Dl h a its.toArray
 |.dK kvs=>kvs.length<=sizeLine/\(a==sysModules)=false /\ ∃ vs,KV kvs vs/\h.DictOf (ze P w) a vs
 |.dT kvs=>kvs.length<=sizeLine/\(a==sysModules)=false /\ ∃ xs:List (List Key × Addr × Value),
   Paired (λ(p:List Key × V) (q:List Key × Addr × Value)=>p.1=q.1/\H q.2.1=some (.tup (p.1.map kV))/\za p.2 q.2.2) kvs xs /\
   ∃ o es ep,h.get? a=some o/\o.ExactDict/\o.data=.dict es ep/\es.toList=xs.map (entryOfKey (tupleKind (ze P w)))/\(xs.map (·.1)).Nodup
 |.set S n=>h.SetOf (intKind P w) a S n
 |.ins C dx fs=>H dx=some (.own a)/\fs.length<=1000/\dx≠a/\h.get? a=some (PySem.W.instObj C dx) /\
   ∃ mA,h.Ns1 dx mA/\(∀ f,DF (fs.lookup f) (mA f))/\PySem.Within mA (fs.map (·.1))
 |.own _=>∃ o,h.get? a=some o
 |.xd fs=>∃ mA,h.Ns1 a mA /\ ∀ f,DF (fs.lookup f) (mA f)
 |.rng lo hi=>∃ t u v,h.get? a=some { cls:=.type "range", data:=.fields #[.int lo t,.int hi u,.int 1 v] }
 |.frz o u=>h.get? a=some o/\Ag H h a u
 |.tbl ps=>h.get? a=some { cls:=.none,data:=.fields ps }
 |.met f x=>h.get? a=some (PySem.W.methodObj (.ref f) (.ref x))
 |.ext φ=>φ h/\(∃ o,h.get? a=some o) /\ ∀ h1 h2:Heap,φ h1->(∀ o,h1.get? a=some o->h2.get? a=some o)->φ h2
def HOk (H:Hp) (h:Heap):Prop:=∀ a o,H a=some o->Ag P w H h a o
end
section
variable {P:Ym} {w:Yo} {H H':Hp} {h h':Heap} {a:Yt} {o:HO}
def Ag.lt (x:Ag P w H h a o):a<h.objs.size:=by
 cases o with
 |lst xs=>let⟨_,_,_,_,e⟩:=x;calc AG e
 |tup xs=>let⟨_,_,_,p⟩:=x;calc p.lt
 |dK kvs=>let⟨_,_,_,_,o,_,_,e,_⟩:=x;calc AG e
 |dT kvs=>let⟨_,_,_,_,o,_,_,e,_⟩:=x;calc AG e
 |set S n=>let⟨o,_,_,_,e,_⟩:=x;calc AG e
 |ins C dx fs=>let⟨_,_,_,e,_⟩:=x;calc AG e
 |own y=>let⟨_,e⟩:=x;calc AG e
 |xd fs=>let⟨_,⟨_,_,_,e,_⟩,_⟩:=x;calc AG e
 |rng lo hi=>let⟨_,_,_,e⟩:=x;calc AG e
 |frz ob u=>let⟨e,_⟩:=x;calc AG e
 |tbl ps=>calc AG (show h.get? a=some _ from x)
 |met f y=>calc AG (show h.get? a=some _ from x)
 |ext φ=>let⟨_,⟨_,e⟩,_⟩:=x;calc AG e
def Paired.mapP {α β:Type} {F G:α->β->Prop}:∀ {l₁:List α} {l₂:List β},Paired F l₁ l₂->(∀ a b,F a b->G a b)->Paired G l₁ l₂
 |_,_,.nil,_=> .nil
 |_,_,.cons r t,f=> .cons (f _ _ r) (Paired.mapP t f)
def Ag.stay (x:Ag P w H h a o) (k:∀ b u,(b=a\/H b=some (.own a))->h.get? b=some u->h'.get? b=some u)
  (ho:∀ b,H b=some (.own a)->H' b=some (.own a)) (ht:∀ b xs,H b=some (.tup xs)->H' b=some (.tup xs)):Ag P w H' h' a o:=by
 induction o with
 |lst xs=>let⟨z,its,n,r,e⟩:=x;calc ⟨z,its,n,r,k _ _ (.inl rfl) e⟩
 |tup xs=>let⟨z,its,r,ob,e,c⟩:=x;calc ⟨z,its,r,ob,k _ _ (.inl rfl) e,c⟩
 |dK kvs=>let⟨z,y,vs,r,ob,es,ep,e,c⟩:=x;calc ⟨z,y,vs,r,ob,es,ep,k _ _ (.inl rfl) e,c⟩
 |dT kvs=>
  let⟨z,y,xs,r,ob,es,ep,e,c⟩:=x;exact ⟨z,y,xs,Paired.mapP r λp q z=>⟨z.1,ht _ _ z.2.1,z.2.2⟩,ob,es,ep,k _ _ (.inl rfl) e,c⟩
 |set S n=>let⟨ob,es,ep,t,e,c⟩:=x;calc ⟨ob,es,ep,t,k _ _ (.inl rfl) e,c⟩
 |ins C dx fs=>
  let⟨d,z,ne,e,mA,⟨od,es,ep,e2,c⟩,r⟩:=x;calc ⟨ho _ d,z,ne,k _ _ (.inl rfl) e,mA,⟨od,es,ep,k _ _ (.inr d) e2,c⟩,r⟩
 |own y=>let⟨ob,e⟩:=x;calc ⟨ob,k _ _ (.inl rfl) e⟩
 |xd fs=>let⟨mA,⟨od,es,ep,e,c⟩,r⟩:=x;calc ⟨mA,⟨od,es,ep,k _ _ (.inl rfl) e,c⟩,r⟩
 |rng lo hi=>let⟨t,u,v,e⟩:=x;calc ⟨t,u,v,k _ _ (.inl rfl) e⟩
 |frz ob u ih=>let⟨e,q⟩:=x;calc ⟨k _ _ (.inl rfl) e,ih q⟩
 |tbl ps=>
  let e:h.get? a=some { cls:=.none,data:=.fields ps }:=x;show h'.get? a=some { cls:=.none,data:=.fields ps };calc k a _ (.inl rfl) e
 |met f y=>
  let e:h.get? a=some (PySem.W.methodObj (.ref f) (.ref y)):=x;show h'.get? a=some (PySem.W.methodObj (.ref f) (.ref y));calc k a _ (.inl rfl) e
 |ext φ=>let⟨p,⟨o,e⟩,st⟩:=x;calc ⟨st _ _ p λo q=>k _ _ (.inl rfl) q,⟨o,k _ _ (.inl rfl) e⟩,st⟩
def HOk.lt (x:HOk P w H h) (e:H a=some o):a<h.objs.size:=(x a o e).lt
def HOk.fresh (x:HOk P w H h) (e:h.objs.size<=a):H a=none:=by
 cases q:H a with
 |none=>rfl
 |some u=>calc absurd (Ao (x.lt q) e) (A7 _)
def HOk.kept (x:HOk P w H h) (k:∀ b u,h.get? b=some u->h'.get? b=some u):HOk P w H h':=λa o e=>
 (x a o e).stay (λb u _ q=>k b u q) (λ_ q=>q) λ_ _ q=>q
def HOk.laid (x:HOk P w H h) (k:∀ b u,h.get? b=some u->h'.get? b=some u) (hp:h.objs.size<=a) (new:Ag P w (upd H a o) h' a o):HOk P w (upd H a o) h':=λb u e=>by
 let hn:=x.fresh hp;by_cases hb:b=a
 .subst hb;rw[DI]at e;ext e;exact new
 .rw[zT hb]at e;exact (x b u e).stay (λc v _ q=>k c v q) (λc q=>by rw[zT (DG q hn)];calc q) λc xs q=>by rw[zT (DG q hn)];calc q
end
def Rd (H:Hp) (a:Yt) (u:HO):Prop:=H a=some u \/ ∃ o,H a=some (.frz o u)
def Rd.ok {P:Ym} {w:Yo} {H:Hp} {h:Heap} {a:Yt} {u:HO} (r:Rd H a u) (x:HOk P w H h):Ag P w H h a u:=by
 rcases r with r|⟨o,r⟩
 .exact x a u r
 .obtain ⟨_,q⟩:=x a _ r;calc q
def Mut:Option HO->Prop
 |some (.lst _)=>True
 |some (.dK _)=>True
 |some (.dT _)=>True
 |some (.set _ _)=>True
 |some (.ins _ _ _)=>True
 |some (.ext _)=>True
 |_=>False
section
variable {P:Ym} {w:Yo} {H:Hp} {h h':Heap} {x e:Yt} {o':HO}
def HOk.write (ok:HOk P w H h) (mu:Mut (H x)) (he:e=x\/H e=some (.own x)) (k:∀ b u,b≠e->h.get? b=some u->h'.get? b=some u) (heo:∃ u,h'.get? e=some u)
  (new:Ag P w (upd H x o') h' x o'):HOk P w (upd H x o') h':=λb u q=>by
 let nown:∀ c y,H c=some (.own y)->c≠x:=λc y r z=>by subst z;rw[r]at mu;exact mu
 let ntup:∀ c xs,H c=some (.tup xs)->c≠x:=λc xs r z=>by subst z;rw[r]at mu;exact mu
 by_cases hb:b=x
 .subst hb;rw[DI]at q;ext q;exact new
 .rw[zT hb]at q;by_cases hbe:b=e
  .have q':H b=some (.own x):=by
    rcases he with z|z
    .exact absurd (hbe.trans z) hb
    .rw[hbe];exact z
   rw[q]at q';ext q';let⟨v,hv⟩:=heo;exact ⟨v,by rw[hbe];calc hv⟩
  .refine (ok b u q).stay (λc v hc r=>k c v ?_ r) (λc r=>by rw[zT (nown c b r)];exact r) λc xs r=>by rw[zT (ntup c xs r)];exact r
   rcases hc with rfl|hc
   .exact hbe
   .rintro rfl;rcases he with z|z
    .exact nown c b hc z
    .rw[hc]at z;ext z;calc hb rfl
end
structure Un (fs ex:Yg) (H H':Hp) (h h':Heap):Prop where
 keep:∀ b o,h.get? b=some o->H b=none->b∉fs->b∉ex->h'.get? b=some o
 slot:∀ b o,h.get? b=some o->H b=none->b∈fs->b∉ex -> ∃ sl,h'.get? b=some { o with slots:=sl }
 free:∀ b o,h.get? b=some o->H b=none->b∉ex->H' b=none
 there:∀ b o,h.get? b=some o->b∉ex -> ∃ o',h'.get? b=some o'
 tups:∀ b xs,H b=some (.tup xs)->H' b=some (.tup xs)
 frzs:∀ b o u,H b=some (.frz o u)->H' b=some (.frz o u)
 tbls:∀ b ps,H b=some (.tbl ps) -> ∃ more,H' b=some (.tbl (ps++more))
section
variable {fs fs' ex ex':Yg} {H H1 H2:Hp} {h h1 h2 h':Heap} {a x e:Yt} {o:HO}
def Un.any (u:Un fs ex H H1 h h1) {b:Yt} {ob:Obj} (q:h.get? b=some ob) (n:H b=none) (hx:b∉ex):∃ sl,h1.get? b=some { ob with slots:=sl }:=by
 by_cases hb:b∈fs
 .exact u.slot b ob q n hb hx
 .exact ⟨ob.slots,u.keep b ob q n hb hx⟩
def Un.kept (k:∀ b u,h.get? b=some u->h'.get? b=some u):Un fs ex H H h h' :=
 ⟨λb ob q _ _ _=>k b ob q,λb ob q _ _ _=>⟨ob.slots,k b ob q⟩,λ_ _ _ n _=>n,λb ob q _=>⟨ob,k b ob q⟩,λ_ _ q=>q,λ_ _ _ q=>q,λ_ ps q=>⟨#[],by rw[q];simp⟩⟩
def Un.refl:Un fs ex H H h h:=Un.kept λ_ _ q=>q
def Un.laid (k:∀ b u,h.get? b=some u->h'.get? b=some u) (hp:h.objs.size<=a) (hn:H a=none):Un fs ex H (upd H a o) h h' where
 keep:=λb u q _ _ _=>k b u q;slot:=λb u q _ _ _=>⟨u.slots,k b u q⟩;free:=λb u q n _=>by rw[zT (AY (Ao (AG q) hp))];exact n
 there:=λb u q _=>⟨u,k b u q⟩;tups:=λb xs q=>by rw[zT (DG q hn)];exact q
 frzs:=λb u xs q=>by rw[zT (DG q hn)];exact q
 tbls:=λb ps q=>⟨#[],by rw[zT (DG q hn),q];simp⟩
def Un.write (mu:Mut (H x)) (he:e=x\/H e=some (.own x)) (k:∀ b u,b≠e->h.get? b=some u->h'.get? b=some u) (heo:∃ u,h'.get? e=some u):Un fs ex H (upd H x o) h h':=by
 let hx:∀ b,H b=none->b≠x:=λb n z=>by subst z;rw[n]at mu;exact mu
 let hb:∀ b,H b=none->b≠e:=λb n z=>by
  subst z;rcases he with r|r
  .exact hx b n r
  .rw[n]at r;ext r
 let hm:∀ b u,H b=some u -> ¬ Mut (some u)->b≠x:=λb u q nm z=>by subst z;rw[q]at mu;exact nm mu
 refine ⟨λb u q n _ _=>k b u (hb b n) q,λb u q n _ _=>⟨u.slots,k b u (hb b n) q⟩,λb u q n _=>by rw[zT (hx b n)];exact n,λb u q _=>?_,
  λb xs q=>by rw[zT (hm b _ q λz=>z)];exact q,λb u xs q=>by rw[zT (hm b _ q λz=>z)];exact q,λb ps q=>⟨#[],by rw[zT (hm b _ q λz=>z),q];simp⟩⟩
 by_cases hbe:b=e
 .subst hbe;exact heo
 .exact ⟨u,k b u hbe q⟩
end
def trk (h:Heap) (H:Hp):List Addr:=(List.range h.objs.size).filter λa=>(H a).isSome
def DP (h:Heap) (H:Hp):Heap:=PySem.W.hideAll h (trk h H)
def Zd (h:Heap) (H:Hp):(DP h H).objs.size=h.objs.size:=PySem.W.hideAll_size _ _
def TB {h:Heap} {H:Hp} {b:Yt} {o:Obj} (e:h.get? b=some o) (n:H b=none):(DP h H).get? b=some o :=
 PySem.W.hideAll_get _ e λhm=>by
  let q:(H b).isSome=true:=(List.mem_filter.mp hm).2;rw[n]at q;simp at q
def X7 {h:Heap} {H:Hp} {b:Yt} {o:Obj} (e:(DP h H).get? b=some o):h.get? b=some o/\H b=none:=by
 let e':h.get? b=some o:=PySem.W.of_hideAll (trk h H) e;calc ⟨e',?_⟩;cases q:H b with
 |none=>rfl
 |some x=>
  let hm:b∈trk h H:=List.mem_filter.mpr ⟨C3.mpr (AG e'),by simp[q]⟩;let z:(DP h H).get? b=none:=PySem.W.hideAll_none (trk h H) hm;rw[z]at e;ext e
def BMn (mg:Str->Option Value) (h:Heap):Prop:=∃ bm ob,mg "__builtins__" = some (.ref bm)/\bm≠builtinsNs/\h.get? bm=some ob/\ob.cls=.type "module" /\ ob.dict=some builtinsNs/\ob.data=.plain
structure Mod (K:Yb) (mg:Yh) (base:Heap):Prop where
 kin:K.In base
 glob:base.Ns mainGlobals mg
 blt:∃ mb,base.Ns builtinsNs mb /\ ∀ x:Str,x ≠ "__name__" -> mb x=bootBuiltins x
 nolimit:base.NoLimit
 bmn:BMn mg base
structure Cx where
 prog:Program
 w:World
 K:PySem.W.Frag
 mg:Str->Option Value
 base:Heap
 A:Around
 N:List Str
 s₀:Shared
 H₀:Hp
 env:Env
 outer:List Env
 stack:List Env
 ex:List Addr
 fn:Str->Bool
 calm:Bool
 pn:List (Addr × Obj)
 xe:Value->Shared->Prop
def frs (l:List Env):List Addr:=l.filterMap (·.frame)
abbrev Cx.fs (X:Cx):List Addr:=frs X.outer
def Vis (sc:Y0) (x:Str):Prop:=sc.names.lookup x=some .local\/sc.names.lookup x=some .cell\/sc.names.lookup x=some .free
def Loc (sc:Y0) (x:Str):Prop:=sc.names.lookup x=some .local\/sc.names.lookup x=some .cell
def Xe (env:Env) (h:Heap) (m:Yh) (x:Str) (u:Yu):Prop :=
 (env.kindOf x=some .local/\m x=some u)\/((env.kindOf x=some .cell\/env.kindOf x=some .free) /\ ∃ c,env.cells.lookup x=some c/\h.IsCell c (some u))
structure Cx.Ok (X:Cx):Prop where
 mod:Mod X.K X.mg X.base
 kind:X.env.scope.kind=.function
 glob:X.env.globals=mainGlobals
 blt:X.env.builtins=builtinsNs
 above:⇑X.s₀<=X.env.locals
 inj:∀ x y c,X.env.cells.lookup x=some c->X.env.cells.lookup y=some c->x=y
 has:∀ x,(X.env.kindOf x=some .cell\/X.env.kindOf x=some .free) -> ∃ c,X.env.cells.lookup x=some c
 cab:∀ x c,X.fn x=true->X.env.cells.lookup x=some c->⇑X.s₀<=c
 hd:X.calm=true->X.A.handled=none
 frames:X.A.frames=some X.stack
 stk:X.stack=X.outer\/(X.stack=X.env::X.outer/\X.env.frame=some X.env.locals)
 exf:∀ b∈X.ex,b≠X.env.locals /\ ∀ x c,X.env.cells.lookup x=some c->c≠b
 bs:∀ b o,X.base.get? b=some o->X.s₀.heap.get? b=some o/\X.H₀ b=none
 bsz:X.base.objs.size<=⇑X.s₀
 noex:∀ b o,X.base.get? b=some o->b∉X.ex
 exfs:∀ b∈X.ex,b∉X.fs
 funs:X.s₀.heap.FunFrames X.base X.outer
 frf:∀ b∈X.fs,X.H₀ b=none
structure Inv (X:Cx) (zB:Yd) (Y:List (Option V)) (H:Hp) (s:Yl):Prop where
 ok:X.Ok
 os:s.os=X.s₀.os
 bare:AllBare s.gens
 base:Un X.fs X.ex X.H₀ H X.s₀.heap s.heap
 loc:∃ m,s.heap.Ns X.env.locals m /\ ∀ (i:Nat) (x:Str) (v:V),X.N[i]?=some x->Y[i]?=some (some v)->Vis X.env.scope x -> ∃ u,za v u/\Xe X.env s.heap m x u
 cell:∀ x c,X.env.cells.lookup x=some c -> ∃ v,s.heap.IsCell c v
 free:H X.env.locals=none
 freeC:∀ x c,X.env.cells.lookup x=some c->H c=none
 pin:∀ p∈X.pn++zB,s.heap.get? p.1=some p.2/\H p.1=none/\p.1≠X.env.locals/\p.1∉X.fs /\ ∀ v,p.2.data≠.cell v
 hok:HOk X.prog X.w H s.heap
 len:Y.length=X.N.length
section
variable {X:Cx} {zB:Yd} {Y:List (Option V)} {H H':Hp} {s:Yl} {h':Heap}
def Cx.Ok.nofr (ok:X.Ok) {b:Yt} {o:Obj} (e:X.base.get? b=some o):b∉X.fs:=λhb=>by
 have:=(ok.funs.mem hb).1;rw[e]at this;ext this
def Inv.bs (I:Inv X zB Y H s):∀ b o,X.base.get? b=some o->s.heap.get? b=some o/\H b=none:=λb o e=>
 ⟨I.base.keep b o (I.ok.bs b o e).1 (I.ok.bs b o e).2 (I.ok.nofr e) (I.ok.noex b o e),I.base.free b o (I.ok.bs b o e).1 (I.ok.bs b o e).2 (I.ok.noex b o e)⟩
def Inv.bk (I:Inv X zB Y H s):∀ b o,X.base.get? b=some o->s.heap.get? b=some o:=λb o e=>(I.bs b o e).1
def Inv.mod (I:Inv X zB Y H s):Mod X.K X.mg X.base:=I.ok.mod
def Inv.kIn (I:Inv X zB Y H s):X.K.In s.heap:=I.ok.mod.kin.keeps I.bk
def Inv.lt (I:Inv X zB Y H s):X.env.locals<⇑s:=let ⟨_,hn,_⟩:=I.loc;hn.lt
def Inv.sz (I:Inv X zB Y H s):⇑X.s₀<=⇑s:=An I.ok.above (CH I.lt)
def Inv.nofs (I:Inv X zB Y H s) {a:Yt} (h:⇑s<=a):a∉X.fs:=λhb=>by
 let⟨_,o,ho,_⟩:=I.ok.funs.mem hb;calc absurd (Ao (AG ho) (An I.sz h)) (A7 _)
def Inv.cne (I:Inv X zB Y H s):∀ x c,X.env.cells.lookup x=some c->c≠X.env.locals:=λx c e z=>by
 let⟨v,o,ho,hd⟩:=I.cell x c e;let⟨m,⟨o',es,ep,ho',hd',_⟩,_⟩:=I.loc;rw[z,ho']at ho;ext ho;rw[hd']at hd;ext hd
def Inv.funs (I:Inv X zB Y H s):s.heap.FunFrames X.base X.outer:=by
 let all:∀ (l:List Env),(∀ b∈frs l,b∈X.fs)->X.s₀.heap.FunFrames X.base l->s.heap.FunFrames X.base l:=by
  intro l;induction l with
  |nil=>intro _ _;trivial
  |cons env r ih=>
   intro hs hl;let⟨hk,⟨L,o,hf,hn,ho,hd⟩,hr⟩:=hl;let hL:L∈X.fs:=hs L (by erw[frs];rw[List.filterMap_cons,hf];calc Az);let⟨sl,e⟩:=I.base.slot L o ho (I.ok.frf L hL) hL λz=>I.ok.exfs L z hL;exact ⟨hk,⟨L,_,hf,hn,e,hd⟩,ih (λb hb=>hs b (by erw[frs];rw[List.filterMap_cons,hf];calc Ay _ hb)) hr⟩
 calc all X.outer (λ_ hb=>hb) I.ok.funs
def Inv.stack (I:Inv X zB Y H s):s.heap.FunFrames X.base X.stack:=by
 rcases I.ok.stk with e|⟨e,hf⟩
 .rw[e];exact I.funs
 .rw[e];let⟨m,hn,_⟩:=I.loc;calc .cons (by rw[I.ok.kind];decide) hf hn ?_ I.funs;calc Heap.get?_none_of_le (An I.ok.bsz I.ok.above)
def Inv.stkSub (I:Inv X zB Y H s):∀ b∈frs X.stack,b∈X.env.locals::X.fs:=λb hb=>by
 rcases I.ok.stk with e|⟨e,hf⟩
 .rw[e]at hb;exact Ay _ hb
 .rw[e]at hb;erw[frs]at hb;rw[List.filterMap_cons,hf]at hb;calc hb
def Inv.stkFree (I:Inv X zB Y H s):∀ b∈frs X.stack,H b=none:=λb hb=>by
 rcases AL.mp (I.stkSub b hb)with e|hb
 .rw[e];exact I.free
 .obtain ⟨_,o,ho,_⟩:=I.ok.funs.mem hb;calc I.base.free b o ho (I.ok.frf b hb) λz=>I.ok.exfs b z hb
def Inv.step {g':Array GenState} {t':Nat} {d':Drawn} {ch:Yg} (I:Inv X zB Y H s)
  (hch:∀ b∈ch,(b∈X.ex\/⇑X.s₀<=b)/\b≠X.env.locals/\(∀ x c,X.env.cells.lookup x=some c->c≠b) /\ ∀ p∈X.pn++zB,p.1≠b)
  (keep:∀ b o,b≠X.env.locals->b∉X.fs->b∉ch->s.heap.get? b=some o->H b=none->h'.get? b=some o)
  (slot:∀ b o,b≠X.env.locals->b∈X.fs->b∉ch->s.heap.get? b=some o->H b=none -> ∃ sl,h'.get? b=some { o with slots:=sl }) (free:∀ b o,b∉ch->s.heap.get? b=some o->H b=none->H' b=none)
  (there:∀ b o,b∉ch->s.heap.get? b=some o -> ∃ o',h'.get? b=some o')
  (tups:∀ b xs,H b=some (.tup xs)->H' b=some (.tup xs)) (frzs:∀ b o u,H b=some (.frz o u)->H' b=some (.frz o u)) (tbls:∀ b ps,H b=some (.tbl ps) -> ∃ more,H' b=some (.tbl (ps++more)))
  (ns:∀ m,s.heap.Ns X.env.locals m->h'.Ns X.env.locals m) (hok:HOk X.prog X.w H' h') (hg:AllBare g') :
  Inv X zB Y H' { s with heap:=h',gens:=g',drawn:=d',toks:=t' }:=by
 let neL:∀ b o,X.s₀.heap.get? b=some o->b≠X.env.locals:=λb o e=>AY (Ao (AG e) I.ok.above);let neC:∀ b o,X.s₀.heap.get? b=some o->b∉X.ex->b∉ch:=λb o e hx hb=>by
  rcases (hch b hb).1 with z|z
  .exact hx z
  .exact absurd (Ao (AG e) z) (A7 _)
 let cellK:∀ x c,X.env.cells.lookup x=some c -> ∀ v,s.heap.IsCell c v->h'.IsCell c v:=λx c e v ⟨o,ho,hd⟩=>by
  let nch:c∉ch:=λz=>(hch c z).2.2.1 x c e rfl;by_cases hc:c∈X.fs
  .obtain ⟨sl,q⟩:=slot c o (I.cne x c e) hc nch ho (I.freeC x c e);exact ⟨_,q,hd⟩
  .exact ⟨o,keep c o (I.cne x c e) hc nch ho (I.freeC x c e),hd⟩
 refine ⟨I.ok,I.os,hg,⟨λb o e n hb hx=>?_,λb o e n hb hx=>?_,λb o e n hx=>?_,λb o e hx=>?_,λb xs e=>tups b xs (I.base.tups b xs e),λb o xs e=>frzs b o xs (I.base.frzs b o xs e),λb ps e=>?_⟩,?_,λx c e=>?_,?_,λx c e=>?_,λp hp=>?_,hok,I.len⟩
 .exact keep b o (neL b o e) hb (neC b o e hx) (I.base.keep b o e n hb hx) (I.base.free b o e n hx)
 .obtain ⟨sl,e1⟩:=I.base.slot b o e n hb hx;let⟨sl',e2⟩:=slot b _ (neL b o e) hb (neC b o e hx) e1 (I.base.free b o e n hx);exact ⟨sl',e2⟩
 .obtain ⟨o',e1⟩:=I.base.there b o e hx;exact free b o' (neC b o e hx) e1 (I.base.free b o e n hx)
 .obtain ⟨o',e1⟩:=I.base.there b o e hx;exact there b o' (neC b o e hx) e1
 .obtain ⟨m1,e1⟩:=I.base.tbls b ps e;let⟨m2,e2⟩:=tbls b _ e1;exact ⟨m1++m2,by rw[e2,Array.append_assoc]⟩
 .obtain ⟨m,hn,hl⟩:=I.loc;refine ⟨m,ns m hn,λi x v e1 e2 e3=>?_⟩;let⟨u,r,l⟩:=hl i x v e1 e2 e3;refine ⟨u,r,?_⟩;rcases l with l|⟨k,c,e,z⟩
  .exact .inl l
  .exact .inr ⟨k,c,e,cellK x c e _ z⟩
 .obtain ⟨v,z⟩:=I.cell x c e;exact ⟨v,cellK x c e v z⟩
 .obtain ⟨m,⟨o,_,_,ho,_⟩,_⟩:=I.loc;exact free _ o (λz=>(hch _ z).2.1 rfl) ho I.free
 .obtain ⟨v,o,ho,hd⟩:=I.cell x c e;exact free c o (λz=>(hch c z).2.2.1 x c e rfl) ho (I.freeC x c e)
 .obtain ⟨e,n,ne,nf,d⟩:=I.pin p hp;let nch:p.1∉ch:=λz=>(hch p.1 z).2.2.2 p hp rfl;calc ⟨keep p.1 p.2 ne nf nch e n,free p.1 p.2 nch e n,ne,nf,d⟩
def Inv.un {t':Nat} (I:Inv X zB Y H s) (u:Un X.fs [] H H' s.heap h') (hok:HOk X.prog X.w H' h'):Inv X zB Y H' { s with heap:=h',toks:=t' }:=by
 let⟨m,⟨o,es,ep,ho,r⟩,_⟩:=id I.loc;let⟨sl,hL⟩:=u.any ho I.free (by simp);exact I.step (g':=s.gens) (d':=s.drawn) (ch:=[]) (λ_ z=>nomatch z) (λb o _ hb _ e n=>u.keep b o e n hb (by simp)) (λb o _ hb _ e n=>u.slot b o e n hb (by simp)) (λb o _ e n=>u.free b o e n (by simp)) (λb o _ e=>u.there b o e (by simp)) u.tups u.frzs u.tbls (λm' hm=>by
  let⟨o',es',ep',ho',r'⟩:=hm;rw[ho]at ho';ext ho';calc ⟨_,es',ep',hL,r'⟩) hok I.bare
def Inv.call {g':Array GenState} {t':Nat} {d':Drawn} {ch:Yg} (I:Inv X zB Y H s) (u:Un (frs X.stack) ch H H' s.heap h') (hok:HOk X.prog X.w H' h') (hg:AllBare g')
  (hch:∀ b∈ch,(b∈X.ex\/⇑X.s₀<=b)/\b≠X.env.locals/\(∀ x c,X.env.cells.lookup x=some c->c≠b) /\ ∀ p∈X.pn++zB,p.1≠b) :
  Inv X zB Y H' { s with heap:=h',gens:=g',drawn:=d',toks:=t' }:=by
 let⟨m,⟨o,es,ep,ho,r⟩,_⟩:=id I.loc;let⟨sl,hL⟩:=u.any ho I.free λz=>(hch _ z).2.1 rfl;exact I.step (ch:=ch) hch (λb o hL hb hc e n=>u.keep b o e n (λz=>(AL.mp (I.stkSub b z)).elim hL hb) hc) (λb o _ _ hc e n=>u.any e n hc) (λb o hc e n=>u.free b o e n hc) (λb o hc e=>u.there b o e hc) u.tups u.frzs u.tbls (λm' hm=>by
  let⟨o',es',ep',ho',r'⟩:=hm;rw[ho]at ho';ext ho';calc ⟨_,es',ep',hL,r'⟩) hok hg
def Inv.turned {t':Nat} {it:Yt} (I:Inv X zB Y H s) (k:∀ b o,b≠it->s.heap.get? b=some o->h'.get? b=some o) (hn:H it=none) (hL:it≠X.env.locals)
  (h1:it∈X.ex\/⇑X.s₀<=it) (h2:∀ x c,X.env.cells.lookup x=some c->c≠it) (h3:∀ p∈X.pn++zB,p.1≠it):Inv X zB Y H { s with heap:=h',toks:=t' }:=by
 let nit:∀ b u,H b=some u->b≠it:=λb u e z=>by rw[z,hn]at e;ext e
 refine I.step (g':=s.gens) (d':=s.drawn) (ch:=[it]) (λb hb=>?_) (λb o _ _ hc e _=>k b o (λz=>hc (by simp[z])) e) (λb o _ _ hc e _=>⟨o.slots,k b o (λz=>hc (by simp[z])) e⟩) (λ_ _ _ _ n=>n)
  (λb o hc e=>⟨o,k b o (λz=>hc (by simp[z])) e⟩) (λ_ _ e=>e) (λ_ _ _ e=>e) (λb ps e=>⟨#[],by rw[e];simp⟩) (λm hm=>?_) (λb u e=>?_) I.bare
 .have e:b=it:=by simpa using hb
  subst e;exact ⟨h1,hL,h2,h3⟩
 .obtain ⟨o,es,ep,ho,r⟩:=hm;exact ⟨o,es,ep,k _ o (Ne.symm hL) ho,r⟩
 .refine (I.hok b u e).stay (λc v hc q=>k c v ?_ q) (λ_ q=>q) λ_ _ q=>q;rcases hc with z|z
  .rw[z];exact nit b u e
  .exact nit c _ z
def Inv.tok (I:Inv X zB Y H s) (t:Nat):Inv X zB Y H { s with toks:=t }:=I.un (h':=s.heap) (t':=t) Un.refl I.hok
def Inv.kept {t':Nat} (I:Inv X zB Y H s) (k:∀ b u,s.heap.get? b=some u->h'.get? b=some u):Inv X zB Y H { s with heap:=h',toks:=t' }:=I.un (Un.kept k) (I.hok.kept k)
def Inv.laid {a:Yt} {o:HO} {t':Nat} (I:Inv X zB Y H s) (k:∀ b u,s.heap.get? b=some u->h'.get? b=some u) (hp:⇑s<=a) (new:Ag X.prog X.w (upd H a o) h' a o) :
  Inv X zB Y (upd H a o) { s with heap:=h',toks:=t' }:=I.un (Un.laid k hp (I.hok.fresh hp)) (I.hok.laid k hp new)
def Inv.write {x e:Yt} {o:HO} {t':Nat} (I:Inv X zB Y H s) (mu:Mut (H x)) (he:e=x\/H e=some (.own x)) (k:∀ b u,b≠e->s.heap.get? b=some u->h'.get? b=some u) (heo:∃ u,h'.get? e=some u)
  (new:Ag X.prog X.w (upd H x o) h' x o):Inv X zB Y (upd H x o) { s with heap:=h',toks:=t' }:=I.un (Un.write mu he k heo) (I.hok.write mu he k heo new)
def Inv.weak {Y':List (Option V)} (I:Inv X zB Y H s) (hl:Y'.length=Y.length) (w:∀ (i:Nat) v,Y'[i]?=some (some v)->Y[i]?=some (some v)):Inv X zB Y' H s :=
 ⟨I.ok,I.os,I.bare,I.base,let ⟨m,hn,hl'⟩:=I.loc;⟨m,hn,λi x v e1 e2 e3=>hl' i x v e1 (w i v e2) e3⟩,I.cell,I.free,I.freeC,I.pin,I.hok,hl.trans I.len⟩
def Inv.pins_of {pins':Yd} (I:Inv X zB Y H s) (h:∀ p∈pins',s.heap.get? p.1=some p.2/\H p.1=none/\p.1≠X.env.locals/\p.1∉X.fs /\ ∀ v,p.2.data≠.cell v):Inv X pins' Y H s :=
 ⟨I.ok,I.os,I.bare,I.base,I.loc,I.cell,I.free,I.freeC,λp hp=>(Ab.mp hp).elim (λz=>I.pin p (BW _ z)) (h p),I.hok,I.len⟩
def OV {N:Yk} (hN:N.Nodup) {i j:Nat} {x:Str} (a:N[i]?=some x) (b:N[j]?=some x):i=j:=by
 let⟨h1,e1⟩:=AK.mp a;let⟨h2,e2⟩:=AK.mp b;calc (List.getElem_inj hN).mp (e1.trans e2.symm)
def Vu {M:Model} {A:Yn} {E:Yc} {i:Nat} {x:Str} {v:V} {u:Yu} {Q:Unit->Shared->Prop} (I:Inv X zB Y H s) (hN:X.N.Nodup) (hi:X.N[i]?=some x) (hx:Loc X.env.scope x) (r:za v u)
  (h:∀ s',Inv X zB (Y.set i (some v)) H s'->(∃ a,Heap.SameBut a s.heap s'.heap/\(a=X.env.locals\/X.env.cells.lookup x=some a))->Q Unit.unit s') (hf:X.fn x=true\/X.env.scope.names.lookup x=some .local:=by first|exact .inl rfl|exact .inr rfl|assumption):wpAny M A (storeName X.env x u) Q E s:=by
 let⟨m,hn,hl⟩:=id I.loc;let hcls:(X.env.scope.kind == .class||(X.env.scope.kind == .module&&X.env.locals != X.env.globals))=false:=by rw[I.ok.kind];rfl
 let hiσ:i<Y.length:=by rw[I.len];exact (AK.mp hi).1
 let cne:=I.cne;let tracked:∀ {a:Yt} {h':Heap},(∃ o,s.heap.get? a=some o/\H a=none)->Heap.SameBut a s.heap h'->HOk X.prog X.w H h':=λ{a h'} ha hs b ob e=>by
  let⟨_,_,hfree⟩:=ha;refine (I.hok b ob e).stay (λc w' hc q=>(hs.2 c ?_).trans q) (λ_ q=>q) λ_ _ q=>q;rintro rfl;rcases hc with rfl|hc
  .rw[hfree]at e;ext e
  .rw[hfree]at hc;ext hc
 rcases hx with hk|hk
 .refine wpAny_storeName_local hk hn (λh' hn' hs=>?_) hcls;let⟨oL,_,_,hoL,_⟩:=id hn;refine h _ ⟨I.ok,I.os,I.bare,⟨λb o e n hb hx=>?_,λb o e n hb hx=>?_,I.base.free,λb o e hx=>?_,I.base.tups,I.base.frzs,I.base.tbls⟩,⟨_,hn',λj y v' e1 e2 e3=>?_⟩,λy c e=>?_,I.free,I.freeC,λp hp=>?_,tracked ⟨oL,hoL,I.free⟩ hs,by simpa using I.len⟩ ⟨_,hs,.inl rfl⟩
  .exact (hs.2 b (AY (Ao (AG e) I.ok.above))).trans (I.base.keep b o e n hb hx)
  .obtain ⟨sl,e1⟩:=I.base.slot b o e n hb hx;exact ⟨sl,(hs.2 b (AY (Ao (AG e) I.ok.above))).trans e1⟩
  .obtain ⟨o',e1⟩:=I.base.there b o e hx;exact ⟨o',(hs.2 b (AY (Ao (AG e) I.ok.above))).trans e1⟩
  .by_cases hj:j=i
   .subst hj;rw[hi]at e1;ext e1;rw[Bv hiσ]at e2;ext e2;exact ⟨u,r,.inl ⟨hk,by simp⟩⟩
   .rw[BJ (Ne.symm hj)]at e2;let⟨u',r',q⟩:=hl j y v' e1 e2 e3;refine ⟨u',r',?_⟩;rcases q with ⟨k,e⟩|⟨k,c,e,z⟩
    .refine .inl ⟨k,?_⟩;have:y≠x:=λe=>hj (OV hN e1 (e▸hi));simp[this,e]
    .exact .inr ⟨k,c,e,z.sameBut hs (cne y c e)⟩
  .obtain ⟨w',z⟩:=I.cell y c e;exact ⟨w',z.sameBut hs (cne y c e)⟩
  .obtain ⟨e,n,ne,nf,d⟩:=I.pin p hp;exact ⟨(hs.2 p.1 ne).trans e,n,ne,nf,d⟩
 .have hfn:X.fn x=true:=by
   rcases hf with z|z
   .exact z
   .rw[z]at hk;ext hk
  let⟨c,hc⟩:=I.ok.has x (.inl hk);let⟨w',z⟩:=I.cell x c hc;refine wpAny_storeName_cell I.ok.kind hk hc z (λh' hc' hs=>?_);let⟨oc,hoc,hocd⟩:=id z;refine h { s with heap:=h' } ⟨I.ok,I.os,I.bare,⟨λb o e n hb hx=>?_,λb o e n hb hx=>?_,I.base.free,λb o e hx=>?_,I.base.tups,I.base.frzs,I.base.tbls⟩,⟨m,hn.sameBut hs (Ne.symm (cne x c hc)),λj y v' e1 e2 e3=>?_⟩,λy c' e=>?_,I.free,I.freeC,λp hp=>?_,tracked ⟨oc,hoc,I.freeC x c hc⟩ hs,by simpa using I.len⟩ ⟨c,hs,.inr hc⟩
  .exact (hs.2 b (AY (Ao (AG e) (I.ok.cab x c hfn hc)))).trans (I.base.keep b o e n hb hx)
  .obtain ⟨sl,e1⟩:=I.base.slot b o e n hb hx;exact ⟨sl,(hs.2 b (AY (Ao (AG e) (I.ok.cab x c hfn hc)))).trans e1⟩
  .obtain ⟨o',e1⟩:=I.base.there b o e hx;exact ⟨o',(hs.2 b (AY (Ao (AG e) (I.ok.cab x c hfn hc)))).trans e1⟩
  .by_cases hj:j=i
   .subst hj;rw[hi]at e1;ext e1;rw[Bv hiσ]at e2;ext e2;exact ⟨u,r,.inr ⟨.inl hk,c,hc,hc'⟩⟩
   .rw[BJ (Ne.symm hj)]at e2;let⟨u',r',q⟩:=hl j y v' e1 e2 e3;refine ⟨u',r',?_⟩;rcases q with q|⟨k,c',e,z'⟩
    .exact .inl q
    .refine .inr ⟨k,c',e,z'.sameBut hs ?_⟩;rintro rfl;exact hj (OV hN e1 (I.ok.inj _ _ _ e hc▸hi))
  .by_cases hcc:c'=c
   .subst hcc;exact ⟨_,hc'⟩
   .obtain ⟨w2,z2⟩:=I.cell y c' e;exact ⟨w2,z2.sameBut hs hcc⟩
  .obtain ⟨e,n,ne,nf,d⟩:=I.pin p hp;calc ⟨(hs.2 p.1 ?_).trans e,n,ne,nf,d⟩;intro q;rw[q,hoc]at e;let q':oc=p.2:=BG e;calc d w' (by rw[<-q'];calc hocd)
def HH {M:Model} {A:Yn} {E:Yc} {i:Nat} {x:Str} {v:V} {u:Yu} {Q:Unit->Shared->Prop} (I:Inv X zB Y H s) (hN:X.N.Nodup) (hi:X.N[i]?=some x) (hx:Loc X.env.scope x) (r:za v u)
  (h:∀ s',Inv X zB (Y.set i (some v)) H s'->Q Unit.unit s') (hf:X.fn x=true\/X.env.scope.names.lookup x=some .local:=by first|exact .inl rfl|exact .inr rfl|assumption):wpAny M A (storeName X.env x u) Q E s :=
 Vu I hN hi hx r (λs' I' _=>h s' I') hf
def Inv.call' {s':Yl} {ch:Yg} (I:Inv X zB Y H s) (ho:s'.os=s.os) (u:Un (frs X.stack) ch H H' s.heap s'.heap) (hok:HOk X.prog X.w H' s'.heap) (hg:AllBare s'.gens)
  (hch:∀ b∈ch,(b∈X.ex\/⇑X.s₀<=b)/\b≠X.env.locals/\(∀ x c,X.env.cells.lookup x=some c->c≠b) /\ ∀ p∈X.pn++zB,p.1≠b):Inv X zB Y H' s':=by
 let⟨h',g',d',t',o'⟩:=s';let e:o'=s.os:=ho;subst e;calc I.call (g':=g') (t':=t') (d':=d') u hok hg hch
end
abbrev XK:=Value->Option Addr->Hp->Prop
abbrev St:=List (Option V)
abbrev VK:=V->Hp->Prop
abbrev TE:=St->Hp->VK->Prop
abbrev TT:=St->Hp->(Bool->Hp->Prop)->Prop
abbrev TA:=St->Hp->(List V->Hp->Prop)->Prop
structure Ends where
 nx:St->Hp->Prop
 rt:VK
 bk:St->Hp->Prop:=λ_ _=>False
 ct:St->Hp->Prop:=λ_ _=>False
abbrev TS:=Ends->St->Hp->Prop
def EP (X:Cx) (zB:Yd) (Y:St) (Q:VK) (u:Yu) (s':Yl):Prop:=∃ v H',Inv X zB Y H' s'/\za v u/\Q v H'
def TP (X:Cx) (zB:Yd) (Y:St) (Q:Bool->Hp->Prop) (b:Bool) (s':Yl):Prop:=∃ H',Inv X zB Y H' s'/\Q b H'
def AP (X:Cx) (zB:Yd) (Y:St) (Q:List V->Hp->Prop) (us:Yf) (s':Yl):Prop:=∃ vs H',Inv X zB Y H' s'/\zU vs us/\Q vs H'
def SP (X:Cx) (zB:Yd) (D:Ends) (f:Flow) (s':Yl):Prop :=
 match f with
 |.next=>∃ Y' H',Inv X zB Y' H' s'/\D.nx Y' H'
 |.brk=>∃ Y' H',Inv X zB Y' H' s'/\D.bk Y' H'
 |.cont=>∃ Y' H',Inv X zB Y' H' s'/\D.ct Y' H'
 |.ret u=>∃ v Y' H',Inv X zB Y' H' s'/\za v u/\D.rt v H'
def PE (X:Cx) (e:Expr) (t:TE):Prop :=
 ∀ (zB:Yd) (s:Yl) (Y:St) (H:Hp) (Q:VK),Inv X zB Y H s->t Y H Q->wpAny (model X.prog X.w) X.A (eval e X.env) (EP X zB Y Q) X.xe s
def PT (X:Cx) (e:Expr) (t:TT):Prop :=
 ∀ (zB:Yd) (s:Yl) (Y:St) (H:Hp) (Q:Bool->Hp->Prop),Inv X zB Y H s->t Y H Q->wpAny (model X.prog X.w) X.A (isTrue e X.env (eval e X.env)) (TP X zB Y Q) X.xe s
def PW (X:Cx) (e:Expr) (t:TT):Prop :=
 ∀ (whole:Sem Value) (zB:Yd) (s:Yl) (Y:St) (H:Hp) (Q:Bool->Hp->Prop),Inv X zB Y H s->t Y H Q->wpAny (model X.prog X.w) X.A (isTrue e X.env whole) (TP X zB Y Q) X.xe s
def PW.pt {X:Cx} {e:Expr} {t:TT} (h:PW X e t):PT X e t:=h _
def PA (X:Cx) (es:Yi) (t:TA):Prop :=
 ∀ (pos:Pos) (zB:Yd) (s:Yl) (Y:St) (H:Hp) (Q:List V->Hp->Prop),Inv X zB Y H s->t Y H Q->wpAny (model X.prog X.w) X.A (spliced (backTo pos (starEach es X.env))) (AP X zB Y Q) X.xe s
def PS (X:Cx) (st:Stmt) (t:TS):Prop :=
 ∀ (zB:Yd) (s:Yl) (Y:St) (H:Hp) (D:Ends),Inv X zB Y H s->t D Y H->wpAny (model X.prog X.w) X.A (exec st X.env) (SP X zB D) X.xe s
def PSs (X:Cx) (st:Yy) (t:TS):Prop :=
 ∀ (zB:Yd) (s:Yl) (Y:St) (H:Hp) (D:Ends),Inv X zB Y H s->t D Y H->wpAny (model X.prog X.w) X.A (execs st X.env) (SP X zB D) X.xe s
def thn {α:Type} {t:Sem α} {Q Q':α->Shared->Prop} {M:Model} {A:Yn} {E:Yc} {s:Yl} (h:wpAny M A t Q E s) (hQ:∀ a s,Q a s->Q' a s):wpAny M A t Q' E s:=Aq h hQ λ_ _ x=>x
section
variable {X:Cx}
def Ku (i:Nat):TE:=λY H Q=>∃ v,Y[i]?=some (some v)/\Q v H
def tC (v:V):TE:=λ_ H Q=>Q v H
def Qx {i:Nat} {x:Str} {pos:Pos} (hN:X.N[i]?=some x) (hv:Vis X.env.scope x) (hd:(x==("__debug__" : Str))=false:=by decide) (hcd:(x==("__classdict__" : Str))=false:=by decide):PE X (.Name x pos) (Ku i):=by
 intro zB s Y H Q I h;let⟨v,e,h⟩:=h;let⟨m,hn,hl⟩:=I.loc;let⟨u,r,l⟩:=hl i x v hN e hv;let fin:EP X zB Y Q u s:=⟨v,H,I,r,h⟩;rcases l with ⟨hk,hm⟩|⟨hk,c,hc,hcell⟩
 .exact wpAny_Name (wpAny_loadName_local I.ok.kind hk hn hm fin) hd
 .rcases hk with hk|hk
  .exact wpAny_Name (wpAny_loadName_cell I.ok.kind hk hc hcell fin) hd
  .exact wpAny_Name (wpAny_loadName_free I.ok.kind hk hc hcell fin hcd) hd
def YB {i j pos}:PE X (.Constant (.int i) j pos) (tC (.int i)):=λ_ _ _ H _ I h=>wpAny_Constant_int ⟨.int i,H,I.tok _,⟨_,rfl⟩,h⟩
def WK {b j pos}:PE X (.Constant (.bool b) j pos) (tC (.bl b)):=λ_ _ _ H _ I h=>Constant_bool ⟨.bl b,H,I,rfl,h⟩
def SV {j pos}:PE X (.Constant .none j pos) (tC .non):=λ_ _ _ H _ I h=>Constant_none ⟨.non,H,I,rfl,h⟩
def Gl (X:Cx) (x:Str):Prop:=X.env.kindOf x=some .globalImplicit
def Y9 {E:Yc} {zB:Yd} {s:Yl} {Y:St} {H:Hp} {x:Str} {u:Yu} {pos:Pos} {Q:Yc} (I:Inv X zB Y H s) (hg:Gl X x) (hm:X.mg x=some u) (h:Q u s)
  (hd:(x==("__debug__" : Str))=false:=by decide):wpAny (model X.prog X.w) X.A (eval (.Name x pos) X.env) Q E s :=
 Calls.Name_function_global I.ok.kind hg (Calls.loadGlobal_global (by rw[I.ok.glob];calc I.mod.glob.keeps I.bk) hm h) hd
def D5 {E:Yc} {zB:Yd} {s:Yl} {Y:St} {H:Hp} {x:Str} {u:Yu} {pos:Pos} {Q:Yc} (I:Inv X zB Y H s) (hg:Gl X x) (hm:X.mg x=none) (hv:bootBuiltins x=some u) (h:Q u s)
  (hn:x ≠ "__name__" := by decide) (hd:(x==("__debug__" : Str))=false:=by decide):wpAny (model X.prog X.w) X.A (eval (.Name x pos) X.env) Q E s:=by
 let⟨mb,h1,h2⟩:=I.mod.blt;calc Calls.Name_function_global I.ok.kind hg (Calls.loadGlobal_builtin (by rw[I.ok.glob];calc I.mod.glob.keeps I.bk) hm (by rw[I.ok.blt];calc h1.keeps I.bk) ((h2 x hn).trans hv) h) hd
def Wy {x:Str} {v:V} {u:Value} {pos:Pos} (hg:Gl X x) (hm:X.mg x=none) (hv:bootBuiltins x=some u) (r:za v u) (hn:x ≠ "__name__" := by decide) (hd:(x==("__debug__" : Str))=false:=by decide):PE X (.Name x pos) (tC v) :=
 λ_ _ _ H _ I h=>D5 I hg hm hv ⟨v,H,I,r,h⟩ hn hd
variable {a b:Expr} {ta tb:TE} {pos:Pos}
def PC (X:Cx) (op:CmpOp) (a b:Expr) (t:TE):Prop :=
 ∀ (zB:Yd) (s:Yl) (Y:St) (H:Hp) (Q:VK),Inv X zB Y H s->t Y H Q ->
  wpAny (model X.prog X.w) X.A (eval a X.env) (λv s₁=>wpAny (model X.prog X.w) X.A (eval b X.env) (λu s₂=>wpAny (model X.prog X.w) X.A (compareOp op v u) (EP X zB Y Q) X.xe s₂) X.xe s₁) X.xe s
def tB (t:TE):TT:=λY H Q=>t Y H λx H1=>∃ c,x=.bl c/\Q c H1
def RP {op:CmpOp} {t:TE} (h:PC X op a b t) (h1:behindInMarks op b=false:=by first|exact nobehind _ () ()|rfl):PT X (.Compare a [op] [b] pos) (tB t):=by
 intro zB s Y H Q I hw;refine wpAny_isTrue_Compare1 (thn (h zB s Y H _ I hw) λv s1 h1=>thn h1 λu s2 h2=>thn h2 λc s3 ⟨x,H1,I1,r1,q1⟩=>?_) h1;let⟨d,rfl,q⟩:=q1;ext r1;calc EE ⟨H1,I1,q⟩
def Qk {e:Expr} {t:TE} (h:PE X e t) (he:∀ whole,isTrue e X.env whole=(do let v <- whole;standAt e.pos;holding [v] (truthy v)):=by intro _;rfl):PT X e (tB t):=by
 intro zB s Y H Q I hw;refine isTrue_plain (thn (h zB s Y H _ I hw) λv s1 ⟨x,H1,I1,r1,q1⟩=>?_) (he _);let⟨d,rfl,q⟩:=q1;ext r1;calc EE ⟨H1,I1,q⟩
variable {tA tB':TT} {rest:Yi}
def ZH (t u:TT):TT:=λY H Q=>t Y H λc H1=>if c=true then u Y H1 Q else Q false H1
def tOr (t u:TT):TT:=λY H Q=>t Y H λc H1=>if c=true then Q true H1 else u Y H1 Q
def ZR (t:TT):TT:=λY H Q=>t Y H λc H1=>Q (!c) H1
def UB (ha:PT X a tA):PW X (.BoolOp .And [a] pos) tA:=by
 intro wh zB s Y H Q I h;refine isTrue_and (thn (ha zB s Y H Q I h) λc s1 e=>?_);cases c with
 |true=>calc isTrue_and_nil e
 |false=>calc e
def VT (ha:PT X a tA):PW X (.BoolOp .Or [a] pos) tA:=by
 intro wh zB s Y H Q I h;refine isTrue_or (thn (ha zB s Y H Q I h) λc s1 e=>?_);cases c with
 |false=>calc isTrue_or_nil e
 |true=>calc e
def QF (ha:PT X a tA) (hb:PW X (.BoolOp .And (b::rest) pos) tB'):PW X (.BoolOp .And (a::b::rest) pos) (ZH tA tB'):=by
 intro wh zB s Y H Q I h;refine isTrue_and (thn (ha zB s Y H _ I h) λc s1 ⟨H1,I1,q1⟩=>?_);cases c with
 |true=>calc hb wh zB s1 Y H1 Q I1 q1
 |false=>calc ⟨H1,I1,q1⟩
def Ti (ha:PT X a tA) (hb:PW X (.BoolOp .Or (b::rest) pos) tB'):PW X (.BoolOp .Or (a::b::rest) pos) (tOr tA tB'):=by
 intro wh zB s Y H Q I h;refine isTrue_or (thn (ha zB s Y H _ I h) λc s1 ⟨H1,I1,q1⟩=>?_);cases c with
 |true=>calc ⟨H1,I1,q1⟩
 |false=>calc hb wh zB s1 Y H1 Q I1 q1
def Zi (ha:PT X a tA):PT X (.UnaryOp .Not a pos) (ZR tA):=by
 intro zB s Y H Q I h;calc isTrue_not (ha zB s Y H (λc H1=>Q (!c) H1) I h)
def TF (ta tb:TE):TE:=λY H Q=>ta Y H λx H1=>∃ c,x=.bl c/\if c=true then tb Y H1 Q else Q (.bl false) H1
def Qb (ta:TE):TE:=λY H Q=>ta Y H λx H1=>∃ c,x=.bl c/\Q (.bl (!c)) H1
def Si {op} {t:TE} (h:PE X a t):PE X (.BoolOp op [a] pos) t:=λzB s Y H Q I hw=>BoolOp_one (h zB s Y H Q I hw)
def ZQ (ha:PE X a ta) (hb:PE X (.BoolOp .And (b::rest) pos) tb):PE X (.BoolOp .And (a::b::rest) pos) (TF ta tb):=by
 intro zB s Y H Q I h;refine BoolOp_and (thn (ha zB s Y H _ I h) λv s1 ⟨x,H1,I1,r1,q1⟩=>?_);let⟨c,rfl,q1⟩:=q1;ext r1;calc EE ?_;cases c with
 |true=>calc hb zB s1 Y H1 Q I1 q1
 |false=>calc ⟨.bl false,H1,I1,rfl,q1⟩
def Ry (ha:PE X a ta):PE X (.UnaryOp .Not a pos) (Qb ta):=by
 intro zB s Y H Q I h;refine UnaryOp_ (thn (ha zB s Y H _ I h) λv s1 ⟨x,H1,I1,r1,q1⟩=>?_);let⟨c,rfl,q1⟩:=q1;ext r1;calc not_of (EE ⟨.bl (!c),H1,I1,rfl,q1⟩)
end
def SqL (K:Yb) (H:Hp) (a:Yt) (xs:List V):Prop :=
 Rd H a (.lst xs) \/
  ∃ (o:Obj) (its:Array Value) (n:Nat),K.lookup a=some o/\o.cls=.type "list" /\ o.dict=none/\o.data=.seq its n/\its.size<=sizeLine/\zU xs its.toList
def SqT (K:Yb) (H:Hp) (a:Yt) (xs:List V):Prop :=
 Rd H a (.tup xs) \/
  ∃ (o:Obj) (its:Array Value) (n:Nat),K.lookup a=some o/\o.cls=.type "tuple" /\ o.data=.seq its n/\its.size<=sizeLine/\zU xs its.toList
def R8:Value->Option V
 |.none=>some .non
 |.bool b=>some (.bl b)
 |.int i _=>some (.int i)
 |.str x _=>some (.str x)
 |.bytes b _=>some (.byt b)
 |.float b _=>some (.flt b)
 |.ref a=>some (.ref a)
 |.type n=>some (.ty n)
 |_=>none
def za.abs {x:V} {u:Yu} (r:za x u):R8 u=some x:=by
 cases x with
 |non=>ext r;rfl
 |bl _=>ext r;rfl
 |int _=>let⟨t,rfl⟩:=r;rfl
 |str _=>let⟨t,rfl⟩:=r;rfl
 |byt _=>let⟨t,rfl⟩:=r;rfl
 |flt _=>let⟨t,rfl⟩:=r;rfl
 |ref _=>ext r;rfl
 |ty _=>ext r;rfl
def za.inj {x y:V} {u:Yu} (r:za x u) (q:za y u):x=y:=BG (r.abs.symm.trans q.abs)
def zU.inj:∀ {xs ys:List V} {us:Yf},zU xs us->zU ys us->xs=ys
 |_,_,_,.nil,.nil=>rfl
 |_,_,_,.cons r t,.cons r' t'=>by rw[r.inj r',zU.inj t t']
section
variable {X:Cx} {zB:Yd} {Y:St} {H:Hp} {s:Yl} {a:Yt} {xs ys:List V}
def SqL.of {K:Yb} (h:H a=some (.lst xs)):SqL K H a xs:=.inl (.inl h)
def SqT.of {K:Yb} (h:H a=some (.tup xs)):SqT K H a xs:=.inl (.inl h)
def Inv.list (I:Inv X zB Y H s) (h:SqL X.K H a xs):∃ its:List Value,zU xs its/\PlainL s.heap a its.toArray/\xs.length<=sizeLine:=by
 rcases h with h|⟨o,its,n,hk,hc,hd,hs,hz,r⟩
 .obtain ⟨z,its,n,r,e⟩:=h.ok I.hok;exact ⟨its,r,⟨_,n,e,rfl,rfl,rfl⟩,z⟩
 .refine ⟨its.toList,r,⟨o,n,I.kIn a o hk,hc,hd,by simpa using hs⟩,?_⟩;let e:=r.length;simp only[AU]at e;omega
def Inv.tuple (I:Inv X zB Y H s) (h:SqT X.K H a xs):∃ its:List Value,zU xs its/\IsTup s.heap a its.toArray/\xs.length<=sizeLine:=by
 rcases h with h|⟨o,its,n,hk,hc,hs,hz,r⟩
 .obtain ⟨z,its,r,p⟩:=h.ok I.hok;exact ⟨its,r,p.tup,z⟩
 .refine ⟨its.toList,r,⟨o,I.kIn a o hk,hc,n,by simpa using hs⟩,?_⟩;let e:=r.length;simp only[AU]at e;omega
def Inv.list_inj (I:Inv X zB Y H s) (h:SqL X.K H a xs) (h':SqL X.K H a ys):xs=ys:=by
 let⟨its,r,⟨o,n,e,_,_,d⟩,_⟩:=I.list h;let⟨its',r',⟨o',n',e',_,_,d'⟩,_⟩:=I.list h';rw[e]at e';ext e';rw[d]at d';injection d' with d1 _
 have:its=its':=by simpa using BC Array.toList d1
 subst this;calc r.inj r'
def Inv.tuple_inj (I:Inv X zB Y H s) (h:SqT X.K H a xs) (h':SqT X.K H a ys):xs=ys:=by
 let⟨its,r,⟨o,e,_,n,d⟩,_⟩:=I.tuple h;let⟨its',r',⟨o',e',_,n',d'⟩,_⟩:=I.tuple h';rw[e]at e';ext e';rw[d]at d';injection d' with d1 _
 have:its=its':=by simpa using BC Array.toList d1
 subst this;calc r.inj r'
end
abbrev Cx.wish (X:Cx) (E:Yc):Cx:={ X with xe:=E }
abbrev Cx.nox (X:Cx):Cx:=X.wish λ_ _=>False
def Cx.Ok.wish {X:Cx} (ok:X.Ok) (E:Yc):(X.wish E).Ok :=
 ⟨ok.mod,ok.kind,ok.glob,ok.blt,ok.above,ok.inj,ok.has,ok.cab,ok.hd,ok.frames,ok.stk,ok.exf,ok.bs,ok.bsz,ok.noex,ok.exfs,ok.funs,ok.frf⟩
def Cx.Ok.unwish {X:Cx} {E:Yc} (ok:(X.wish E).Ok):X.Ok :=
 ⟨ok.mod,ok.kind,ok.glob,ok.blt,ok.above,ok.inj,ok.has,ok.cab,ok.hd,ok.frames,ok.stk,ok.exf,ok.bs,ok.bsz,ok.noex,ok.exfs,ok.funs,ok.frf⟩
section
variable {X:Cx} {zB:Yd} {Y:St} {H:Hp} {s:Yl} {E:Yc}
def Inv.wish (I:Inv X zB Y H s) (E:Yc):Inv (X.wish E) zB Y H s:=⟨I.ok.wish E,I.os,I.bare,I.base,I.loc,I.cell,I.free,I.freeC,I.pin,I.hok,I.len⟩
def Inv.unwish (I:Inv (X.wish E) zB Y H s):Inv X zB Y H s:=⟨I.ok.unwish,I.os,I.bare,I.base,I.loc,I.cell,I.free,I.freeC,I.pin,I.hok,I.len⟩
def SP.unwish {D:Ends} {f:Flow} {s':Yl} (h:SP (X.wish E) zB D f s'):SP X zB D f s':=by
 cases f with
 |next=>let⟨Y',H',I,q⟩:=h;calc ⟨Y',H',I.unwish,q⟩
 |brk=>let⟨Y',H',I,q⟩:=h;calc ⟨Y',H',I.unwish,q⟩
 |cont=>let⟨Y',H',I,q⟩:=h;calc ⟨Y',H',I.unwish,q⟩
 |ret u=>let⟨v,Y',H',I,r,q⟩:=h;calc ⟨v,Y',H',I.unwish,r,q⟩
def PSs.nox {st:Yy} {t:TS} (h:PSs X.nox st t):PSs X st t:=λzB s Y H D I hw=>
 Aq (h zB s Y H D (I.wish _) hw) (λ_ _ q=>q.unwish) λ_ _ z=>False.elim z
end
section
variable {X:Cx} {st:Stmt} {rest:Yy} {t u:TS} {e:Expr} {te:TE} {pos:Pos}
def Vs:TS:=λD Y H=>D.nx Y H
def Vf (t u:TS):TS:=λD Y H=>t { D with nx:=u D } Y H
def YH:PSs X [] Vs:=λ_ _ Y H _ I h=>wpAny_execs_nil ⟨Y,H,I,h⟩
def Uv (h1:PS X st t) (h2:PSs X rest u):PSs X (st::rest) (Vf t u):=by
 intro zB s Y H D I h;refine wpAny_execs_cons (thn (h1 zB s Y H { D with nx:=u D } I h) λf s1 q=>?_);cases f with
 |next=>
  let⟨Y',H',I',q⟩:=q;calc h2 zB s1 Y' H' D I' q
 |ret v=>calc q
 |brk=>calc q
 |cont=>calc q
def Ug (h1:PS X st t):PSs X [st] t:=by
 intro zB s Y H D I h;refine wpAny_execs_cons (thn (h1 zB s Y H D I h) λf s1 q=>?_);cases f with
 |next=>calc wpAny_execs_nil q
 |ret v=>calc q
 |brk=>calc q
 |cont=>calc q
def Inv.quiet {zB:Yd} {Y:St} {H:Hp} {s:Yl} (I:Inv X zB Y H s):interactive X.env=false:=by simp[interactive,I.ok.kind]
def Qc (te:TE):TS:=λD Y H=>te Y H λ_ H1=>D.nx Y H1
def Uw (he:PE X e te) (hs:swapsWith e none pos.line X.env=pure false:=by rfl):PS X (.Expr e pos) (Qc te):=by
 intro zB s Y H D I h;calc wpAny_Expr_any (thn (he zB s Y H _ I h) λv s1 ⟨x,H1,I1,r1,q1⟩=>⟨Y,H1,I1,q1⟩) I.quiet hs
def YE (te:TE):TS:=λD Y H=>te Y H D.rt
def ZV (he:PE X e te):PS X (.Return (some e) pos) (YE te):=by
 intro zB s Y H D I h;calc wpAny_Return_some (thn (he zB s Y H _ I h) λv s1 ⟨x,H1,I1,r1,q1⟩=>⟨x,Y,H1,I1,r1,q1⟩)
def QL (c:TT) (t u:TS):TS:=λD Y H=>c Y H λb H1=>if b=true then t D Y H1 else u D Y H1
def Xq {c:Expr} {a b:Yy} {tc:TT} (hc:PT X c tc) (ha:PSs X a t) (hb:PSs X b u):PS X (.If c a b pos) (QL tc t u):=by
 intro zB s Y H D I h;refine wpAny_If (thn (hc zB s Y H _ I h) λd s1 ⟨H1,I1,q1⟩=>?_);cases d with
 |true=>calc ha zB s1 Y H1 D I1 q1
 |false=>calc hb zB s1 Y H1 D I1 q1
end
abbrev TG:=V->St->Hp->(St->Hp->Prop)->Prop
abbrev TGs:=List V->St->Hp->(St->Hp->Prop)->Prop
def PG (X:Cx) (target:Expr) (t:TG):Prop :=
 ∀ (zB:Yd) (s:Yl) (Y:St) (H:Hp) (v:V) (u:Yu) (Q:St->Hp->Prop),Inv X zB Y H s->za v u->t v Y H Q ->
  wpAny (model X.prog X.w) X.A (assign target X.env u) (λ_ s'=>∃ Y' H',Inv X zB Y' H' s'/\Q Y' H') X.xe s
def PGs (X:Cx) (ts:Yi) (t:TGs):Prop :=
 ∀ (zB:Yd) (s:Yl) (Y:St) (H:Hp) (vs:List V) (us:Yf) (Q:St->Hp->Prop),Inv X zB Y H s->zU vs us->t vs Y H Q ->
  wpAny (model X.prog X.w) X.A (assignInOrder ((assignEach ts X.env).map (·.2)) us) (λ_ s'=>∃ Y' H',Inv X zB Y' H' s'/\Q Y' H') X.xe s
abbrev LV:=V->V->V->Hp->(Hp->Prop)->Prop
def NH (X:Cx) (t:LV):Prop :=
 ∀ (zB:Yd) (s:Yl) (Y:St) (H:Hp) (o i v:V) (ov iv u:Yu) (Q:Hp->Prop),Inv X zB Y H s->za o ov->za i iv->za v u->t o i v H Q ->
  wpAny (model X.prog X.w) X.A (setItem ov iv u) (λ_ s'=>∃ H',Inv X zB Y H' s'/\Q H') X.xe s
abbrev TIp:=V->V->Hp->VK->Prop
def PIp (X:Cx) (op:Operator) (t:TIp):Prop :=
 ∀ (zB:Yd) (s:Yl) (Y:St) (H:Hp) (x y:V) (v u:Yu) (Q:VK),Inv X zB Y H s->za x v->za y u->t x y H Q ->
  wpAny (model X.prog X.w) X.A (inplaceOp op v u) (EP X zB Y Q) X.xe s
section
variable {X:Cx} {pos:Pos}
def Dx (i:Nat):TG:=λv Y H Q=>Q (Y.set i (some v)) H
def PU {i:Nat} {x:Str} (hN:X.N.Nodup) (hi:X.N[i]?=some x) (hx:Loc X.env.scope x) (hf:X.fn x=true\/X.env.scope.names.lookup x=some .local:=by first|exact .inl rfl|exact .inr rfl|assumption):PG X (.Name x pos) (Dx i):=by
 intro zB s Y H v u Q I r h;calc wpAny_assign_Name (HH I hN hi hx r (λs' I'=>⟨_,H,I',h⟩) hf)
def My:TGs:=λvs Y H Q=>vs=[]/\Q Y H
def Ji (t:TG) (u:TGs):TGs:=λvs Y H Q=>∃ v r,vs=v::r/\t v Y H λY' H'=>u r Y' H' Q
def UT:PGs X [] My:=by
 intro zB s Y H vs us Q I r h;let⟨e,h⟩:=h;subst e;ext r;calc assignInOrder_nil ⟨Y,H,I,h⟩
def MV {e:Expr} {es:Yi} {t:TG} {u:TGs} (h1:PG X e t) (h2:PGs X es u)
  (hs:(assignEach (e::es) X.env).map (·.2)=assign e X.env::(assignEach es X.env).map (·.2):=by rfl):PGs X (e::es) (Ji t u):=by
 intro zB s Y H vs us Q I r h;let⟨v,vr,e1,h⟩:=h;subst e1;cases r with
 |cons r rr=>
  rw[hs];refine assignInOrder_cons (thn (h1 zB s Y H _ _ _ I r h) λ_ s1 ⟨σ1,H1,I1,q1⟩=>?_);calc h2 zB s1 σ1 H1 _ _ Q I1 rr q1
def ND (K:Yb) (n:Nat) (t:TGs):TG:=λv Y H Q=>∃ a xs,v=.ref a/\SqT K H a xs/\xs.length=n/\t xs Y H Q
def Uj {es:Yi} {k:Nat} {t:TGs} {n:Nat} (hc:X.calm=true) (h:PGs X es t)
  (hn:(assignEach es X.env).length=n:=by rfl) (hst:(assignEach es X.env).findIdx? (·.1)=none:=by rfl):PG X (.Tuple es k pos) (ND X.K n t):=by
 intro zB s Y H v u Q I r hw;let⟨a,xs,e1,hq,hl,hw⟩:=hw;subst e1;ext r;let⟨its,rv,ht,hz⟩:=I.tuple hq;refine assign_Tuple_tuple (I.ok.hd hc) ht (by simp[hn,<-hl,rv.length]) hst λh' hx=>?_;let I1:Inv X zB Y H { s with heap:=h' }:=I.kept (t':=s.toks) λb o e=>hx b o (AY (AG e)) e;calc h zB _ Y H xs _ Q I1 (~~~rv) hw
def UJ (to ti:TE) (t:LV):TG:=λv Y H Q=>to Y H λo H1=>ti Y H1 λi H2=>t o i v H2 λH3=>Q Y H3
def Y5 {o i:Expr} {to ti:TE} {t:LV} (ho:PE X o to) (hi:PE X i ti) (hs:NH X t)
  (ha:∀ v,assign (.Subscript o i pos) X.env v=(do
   let ov <- holding [v] (eval o X.env);let iv <- holding [v,ov] (eval i X.env);standAt pos;holding [v,ov,iv] (setItem ov iv v);release [v,ov,iv] []):=by intro _;rfl):PG X (.Subscript o i pos) (UJ to ti t):=by
 intro zB s Y H v u Q I r h;rw[ha];refine AA (Bl (thn (ho zB s Y H _ I h) λov s1 ⟨x,H1,I1,r1,q1⟩=>?_));refine AA (Bl (thn (hi zB s1 Y H1 _ I1 q1) λiv s2 ⟨y,H2,I2,r2,q2⟩=>?_));refine AA (wpAny_standAt (AA (Bl (thn (hs zB s2 Y H2 x y v ov iv u _ I2 r1 r2 r q2) λ_ s3 ⟨H3,I3,q3⟩=>?_))));calc wpAny_release ⟨Y,H3,I3,q3⟩
def IZ (te:TE) (g:TG):TS:=λD Y H=>te Y H λx H1=>g x Y H1 D.nx
def Ws {tg e:Expr} {te:TE} {g:TG} (he:PE X e te) (hg:PG X tg g) (hs:swapsWithSole [tg] e pos.line X.env=pure false:=by rfl) (hw:swappedStores [tg] e X.env=pure none:=by rfl)
  (h1:(assignEach [tg] X.env).map (·.2)=[assign tg X.env]:=by rfl):PS X (.Assign [tg] e pos) (IZ te g):=by
 intro zB s Y H D I h;refine wpAny_Assign_stores (thn (he zB s Y H _ I h) λv s1 ⟨x,H1,I1,r1,q1⟩=>?_) hs hw;rw[h1];calc thn (hg zB s1 Y H1 x v _ I1 r1 q1) λ_ s2 q=>q
def Tp {i:Nat} {x:Str} {e:Expr} {te:TE} {pos':Pos} (hN:X.N.Nodup) (hi:X.N[i]?=some x) (hx:Loc X.env.scope x) (he:PE X e te) (hs:swapsWith e (some (.Name x pos')) pos.line X.env=pure false:=by rfl) (hf:X.fn x=true\/X.env.scope.names.lookup x=some .local:=by first|exact .inl rfl|exact .inr rfl|assumption) :
  PS X (.Assign [.Name x pos'] e pos) (IZ te (Dx i)):=by
 intro zB s Y H D I h;refine wpAny_Assign_Name (thn (he zB s Y H _ I h) λv s1 ⟨y,H1,I1,r1,q1⟩=>?_) hs;calc HH I1 hN hi hx r1 (λs2 I2=>⟨_,H1,I2,q1⟩) hf
def RS (i j:Nat) (ta:TA):TS:=λD Y H=>ta Y H λvs H1=>∃ v w,vs=[v,w]/\D.nx ((Y.set i (some v)).set j (some w)) H1
def Tn {i j:Nat} {x y:Str} {a b:Expr} {ta:TA} {px py pt:Pos} {kt k2 pt2} (hc:X.calm=true) (hN:X.N.Nodup) (hi:X.N[i]?=some x) (hj:X.N[j]?=some y) (hij:i≠j)
  (hx:X.env.scope.names.lookup x=some .local) (hy:X.env.scope.names.lookup y=some .local) (ha:PA X [a,b] ta)
  (hw:swappedStores [.Tuple [.Name x px,.Name y py] kt pt] (.Tuple [a,b] k2 pt2) X.env=pure (some [x,y]))
  (hs:swapsWithSole [.Tuple [.Name x px,.Name y py] kt pt] (.Tuple [a,b] k2 pt2) pos.line X.env=pure false:=by rfl) :
  PS X (.Assign [.Tuple [.Name x px,.Name y py] kt pt] (.Tuple [a,b] k2 pt2) pos) (RS i j ta):=by
 intro zB s Y H D I h;rw[exec_Assign_arm];refine AA (wpAny_standAt ?_);rw[hs];refine AA (AB ?_);rw[AE ()];refine AA (Tuple_ (thn (ha _ zB s Y H _ I h) λus s1 ⟨vs,H1,I1,r1,q1⟩=>?_));let⟨v,w,e1,q1⟩:=q1;subst e1;obtain ⟨u1,u2,rfl,rv,rw'⟩:∃ u1 u2,us=[u1,u2]/\za v u1/\za w u2:=by
  cases r1 with
  |cons p q=>
   cases q with
   |cons p' q'=>
    ext q';exact ⟨_,_,rfl,p,p'⟩
 calc Aw ?_ (by show 2<=sizeLine;decide);let I2:Inv X zB Y H1 { s1 with heap:=s1.heap.push { cls:=.type "tuple", data:=.seq [u1,u2].toArray } }:=I1.kept (t':=s1.toks) λb o e=>AH _ e;rw[hw];calc AA (AB ?_);show wpAny (model X.prog X.w) X.A (do rule "assign.swapped-stores"; let items <- unpackItems (.ref ⇑s1) 2 none;assignInOrder [λv=>bindName X.env y v,λv=>bindName X.env x v] items.reverse;pure Flow.next) _ _ _;refine AA (Bc (AA (unpackItems_tuple (items:=#[u1,u2]) (I.ok.hd hc) (IsTup.new s1.heap _) λh' hx'=>?_)));let I3:=I2.kept (h':=h') (t':=s1.toks) λb o e=>hx' b o (AY (AG e)) e;show wpAny _ _ (assignInOrder [λv=>bindName X.env y v,λv=>bindName X.env x v] [u2,u1] >>= λ_=>pure Flow.next) _ _ _;refine AA (assignInOrder_cons (wpAny_bindName (HH I3 hN hj (.inl hy) rw' (λs2 I4=>?_) (.inr hy))));refine assignInOrder_cons (wpAny_bindName (HH I4 hN hi (.inl hx) rv (λs3 I5=>assignInOrder_nil (AB ?_)) (.inr hx)));rw[List.set_comm _ _ (Ne.symm hij)]at I5;calc ⟨_,H1,I5,q1⟩
def OS (i:Nat) (te:TE) (ti:TIp):TS:=λD Y H=>∃ x,Y[i]?=some (some x)/\te Y H λy H1=>ti x y H1 λz H2=>D.nx (Y.set i (some z)) H2
def Ot {i:Nat} {x:Str} {e:Expr} {te:TE} {op:Operator} {ti:TIp} {pos':Pos} (hN:X.N.Nodup) (hi:X.N[i]?=some x) (hx:Loc X.env.scope x) (he:PE X e te) (ho:PIp X op ti) (hf:X.fn x=true\/X.env.scope.names.lookup x=some .local:=by first|exact .inl rfl|exact .inr rfl|assumption) :
  PS X (.AugAssign (.Name x pos') op e pos) (OS i te ti):=by
 intro zB s Y H D I h;let⟨v,e1,h⟩:=h;let⟨m,hn,hl⟩:=I.loc;let vis:Vis X.env.scope x:=by rcases hx with k|k;calc .inl k;exact .inr (.inl k)
 let⟨u,r,l⟩:=hl i x v hi e1 vis;refine wpAny_AugAssign_Name ?_;let go:wpAny (model X.prog X.w) X.A (eval e X.env) (λw s₂=>wpAny (model X.prog X.w) X.A (inplaceOp op u w) (λr s₃=>wpAny (model X.prog X.w) X.A (storeName X.env x r) (λ_=>SP X zB D .next) X.xe s₃) X.xe s₂) X.xe s:=by
  refine thn (he zB s Y H _ I h) λw s1 ⟨y,H1,I1,r1,q1⟩=>?_;refine thn (ho zB s1 Y H1 v y u w _ I1 r r1 q1) λz s2 ⟨zv,H2,I2,r2,q2⟩=>?_;exact HH I2 hN hi hx r2 (λs3 I3=>⟨_,H2,I3,q2⟩) hf
 rcases l with ⟨hk,hm⟩|⟨hk,c,hc,hcell⟩
 .exact wpAny_loadName_local I.ok.kind hk hn hm go
 .rcases hk with hk|hk
  .exact wpAny_loadName_cell I.ok.kind hk hc hcell go
  .rcases hx with k|k
   .have:X.env.scope.names.lookup x=some .free:=hk;rw[k]at this;ext this
   .have:X.env.scope.names.lookup x=some .free:=hk;rw[k]at this;ext this
def ipI (f:Int->Int->Int):TIp:=λx y H Q=>∃ i j,x=.int i/\y=.int j/\Q (.int (f i j)) H
def WX:PIp X .Add (ipI λi j=>i+j):=by
 intro zB s Y H x y v u Q I r1 r2 h;let⟨i,j,e1,e2,q⟩:=h;subst e1;subst e2;let⟨t,rfl⟩:=r1;let⟨t',rfl⟩:=r2;calc iadd_int ⟨.int _,H,I.tok _,⟨_,rfl⟩,q⟩
def Xo:PIp X .Sub (ipI λi j=>i-j):=by
 intro zB s Y H x y v u Q I r1 r2 h;let⟨i,j,e1,e2,q⟩:=h;subst e1;subst e2;let⟨t,rfl⟩:=r1;let⟨t',rfl⟩:=r2;calc isub_int ⟨.int _,H,I.tok _,⟨_,rfl⟩,q⟩
def PX (c:TT) (tb:TS):TS:=λD Y H=>∃ W:Nat->St->Hp->Prop,(∃ m,W m Y H) /\ ∀ m Y H,W m Y H ->
 c Y H λb H1=>if b=true then ∃ N:St->Hp->Prop,(∀ Y' H',N Y' H' -> ∃ m',m'<m/\W m' Y' H')/\tb { D with nx:=N,ct:=N,bk:=D.nx } Y H1 else D.nx Y H1
def UC {c:Expr} {body:Yy} {tc:TT} {tb:TS} (hp:PassesOwn (model X.prog X.w) X.A X.env X.xe) (hc:PT X c tc) (hb:PSs X body tb):PS X (.While c body [] pos) (PX tc tb):=by
 intro zB s Y H D I h;let⟨W,⟨m0,w0⟩,turn⟩:=h;refine wpAny_While (codeAny_whileLoop (λn s'=>∃ Y' H',Inv X zB Y' H' s'/\W n Y' H') ?_ m0 ⟨Y,H,I,w0⟩);rintro n s1 ⟨σ1,H1,I1,w1⟩;refine wpAny_passesOwn hp (thn (hc zB s1 σ1 H1 _ I1 (turn n σ1 H1 w1)) λb s2 ⟨H2,I2,q2⟩=>?_);cases b with
 |true=>
  let⟨N,hN,q2⟩:=q2;rw[AD rfl];refine wpAny_passesOwn hp (thn (hb zB s2 σ1 H2 _ I2 q2) λf s3 q3=>?_);cases f with
  |next=>
   let⟨σ3,H3,I3,n3⟩:=q3;let⟨m',hm,w3⟩:=hN σ3 H3 n3;calc ⟨m',hm,σ3,H3,I3,w3⟩
  |cont=>
   let⟨σ3,H3,I3,n3⟩:=q3;let⟨m',hm,w3⟩:=hN σ3 H3 n3;calc ⟨m',hm,σ3,H3,I3,w3⟩
  |brk=>calc q3
  |ret v=>calc q3
 |false=>
  rw[AE Av];calc wpAny_execs_nil ⟨σ1,H2,I2,q2⟩
end
structure It where
 go:Nat->Hp->Prop
 yld:Nat->Hp->V->Hp->Prop
 stop:Nat->Hp->Prop
def Br (X:Cx) (zB:Yd) (H:Hp) (b:Yt):Prop :=
 H b=none/\b≠X.env.locals/\b∉X.fs/\(b∈X.ex\/⇑X.s₀<=b)/\(∀ x c,X.env.cells.lookup x=some c->c≠b) /\ ∀ p∈X.pn++zB,p.1≠b
def Inv.fpOk {X:Cx} {zB:Yd} {Y:St} {H H':Hp} {s:Yl} {b:Yt} (I:Inv X zB Y H s) (hb:⇑s<=b) (hn:H' b=none):Br X zB H' b:=by
 refine ⟨hn,DM (Ao I.lt hb),I.nofs hb,.inr (An I.sz hb),λx c e z=>?_,λp hp z=>?_⟩
 .obtain ⟨v,q⟩:=I.cell x c e;exact absurd (Ao q.lt (by rw[z];calc hb)) (A7 _)
 .exact absurd (Ao (AG (I.pin p hp).1) (by rw[z];calc hb)) (A7 _)
structure Turn (P:Ym) (w:Yo) (K:Yb) (tg:Expr) (J:It) (fp:Yg) (it:Yt) (tn:Nat->Heap->Prop):Prop where
 mem:it∈fp
 obj:∀ i h,tn i h -> ∀ b∈fp,∃ o,h.get? b=some o /\ ∀ v,o.data≠.cell v
 keep:∀ i h h',tn i h->(∀ b∈fp,∀ o,h.get? b=some o->h'.get? b=some o)->tn i h'
 item:∀ (X:Cx),X.prog=P->X.w=w->X.K=K->X.calm=true -> ∀ (i:Nat) (zB:Yd) (s:Yl) (Y:St) (H:Hp) (E:Yc),Inv X zB Y H s->(∀ b∈fp,Br X zB H b)->tn i s.heap->J.go i H ->
  wpAny (model P w) X.A (pyNext (.ref it)) (λr s1=>∃ u,r=some u /\
   wpAny (model P w) X.A (letOwnedTupleGo tg (.ref it) u) (λ_ s2=>∃ x H',Inv X zB Y H' s2/\za x u/\J.yld i H x H'/\tn (i+1) s2.heap /\ ∀ b∈fp,H' b=none) E s1) E s
 done:∀ (X:Cx),X.prog=P->X.w=w->X.K=K->X.calm=true -> ∀ (i:Nat) (zB:Yd) (s:Yl) (Y:St) (H:Hp) (E:Yc),Inv X zB Y H s->(∀ b∈fp,Br X zB H b)->tn i s.heap->J.stop i H ->
  wpAny (model P w) X.A (pyNext (.ref it)) (λr s1=>r=none/\Inv X zB Y H s1) E s
 self:∀ (A:Yn) (i:Nat) (s:Yl) (Q:Yc) (E:Yc),tn i s.heap->Q (.ref it) s->wpAny (model P w) A (pyIter (.ref it)) Q E s
abbrev TI:=St->Hp->(It->Hp->Prop)->Prop
def PIE (X:Cx) (zB:Yd) (Y:St) (tg:Expr) (R:It->Hp->Prop) (itv:Yu) (s2:Yl):Prop :=
 ∃ (it:Yt) (fp:Yg) (tn:Nat->Heap->Prop) (J:It) (H':Hp),itv=.ref it/\Inv X zB Y H' s2/\Turn X.prog X.w X.K tg J fp it tn/\tn 0 s2.heap/\(∀ b∈fp,Br X zB H' b)/\R J H'
def PI (X:Cx) (tg iter:Expr) (wi:TI):Prop :=
  ∀ (zB:Yd) (s:Yl) (Y:St) (H:Hp) (R:It->Hp->Prop),Inv X zB Y H s->wi Y H R ->
    wpAny (model X.prog X.w) X.A (eval iter X.env) (λv s1=>wpAny (model X.prog X.w) X.A (pyIter v) (PIE X zB Y tg R) X.xe s1) X.xe s
def Jq {M:Model} {A:Yn} {E:Yc} {s:Yl} {tg:Expr} {it:Yt} {u:Yu} {o:Obj} {n:String} {vs:Yp} {Q:Unit->Shared->Prop} (ho:s.heap.get? it=some o) (hc:o.cls=.type n) (hd:o.data=.fields vs)
    (hn:["enumerate", "zip", "dict_itemiterator", "dict_reverseitemiterator", "odict_iterator", "itertools.zip_longest", "itertools.pairwise"].contains n=false) (hQ:Q Unit.unit s):wpAny M A (letOwnedTupleGo tg (.ref it) u) Q E s:=by
  erw[letOwnedTupleGo]
  cases tg <;> first
    |calc AB hQ
    | (cases u <;> first
        |calc AB hQ
        | (refine AA (wpAny_load ho ?_)
           rw[hc,hd];show wpAny M A (if (["enumerate", "zip", "dict_itemiterator", "dict_reverseitemiterator", "odict_iterator", "itertools.zip_longest", "itertools.pairwise"].contains n&&vs[0]?==some (rawInt _))=true then _ else _) Q E s;rw[AE (by intro h;rw[hn,Bool.false_and]at h;ext h)];calc AB hQ))
def Itl (K:Yb) (a:Yt):It :=
 ⟨λi H=>∃ xs x,SqL K H a xs/\xs[i]?=some x,λi H x H'=>H'=H /\ ∀ xs,SqL K H a xs->xs[i]?=some x,λi H=>∃ xs,SqL K H a xs/\xs.length<=i⟩
def Itt (K:Yb) (a:Yt):It :=
 ⟨λi H=>∃ xs x,SqT K H a xs/\xs[i]?=some x,λi H x H'=>H'=H /\ ∀ xs,SqT K H a xs->xs[i]?=some x,λi H=>∃ xs,SqT K H a xs/\xs.length<=i⟩
def Itr (lo:Int) (n:Nat):It:=⟨λi _=>i<n,λi H x H'=>H'=H/\x=.int (lo+i),λi _=>n<=i⟩
def SF {P:Ym} {w:Yo} {K:Yb} {tg:Expr} (a it:Yt):Turn P w K tg (Itl K a) [it] it (λi h=>h.IsListIter it a i) where
 mem:=by simp
 obj:=λi h st b hb=>by
  let e:b=it:=by simpa using hb
  subst e;let⟨o,e,c,d⟩:=st;exact ⟨o,e,λv z=>by rw[d]at z;ext z⟩
 keep:=λi h h' st k=>st.at λo e=>k it (by simp) o e;item:=by
  intro X hP hw hK hc i zB s Y H E I hf st hg;subst hP hw hK;let⟨xs,x,hq,hx⟩:=hg;let⟨its,rv,p,hz⟩:=I.list hq;let⟨u,hu,ru⟩:=rv.get hx;let⟨f0,f1,f2,f3,f4,f5⟩:=hf it (by simp);refine wpAny_pyNext_list_item st p.isList (x:=u) (~~~hu) λh' st' sb=>?_;let I1:Inv X zB Y H { s with heap:=h' }:=I.turned (t':=s.toks) (λb o hb e=>(sb.2 b hb).trans e) f0 f1 f3 f4 f5;let⟨o,e,c,d⟩:=id st';exact ⟨u,rfl,Jq (s:={ s with heap:=h' }) e c d () ⟨x,H,I1,ru,⟨rfl,λys hy=>by rw[I.list_inj hy hq];calc hx⟩,st',λb hb=>(hf b hb).1⟩⟩
 done:=by
  intro X hP hw hK hc i zB s Y H E I hf st hg;subst hP hw hK;let⟨xs,hq,hx⟩:=hg;let⟨its,rv,p,hz⟩:=I.list hq;let⟨f0,f1,f2,f3,f4,f5⟩:=hf it (by simp);let hl:=rv.length;exact wpAny_pyNext_list_end (I.ok.hd hc) st p.isList (by simp;omega) λh' eb=>⟨rfl,I.turned (t':=s.toks) (λb o hb e=>eb b o hb e) f0 f1 f3 f4 f5⟩
 self:=λ_ _ _ _ _ st h=>wpAny_pyIter_listiter st h
def YS {P:Ym} {w:Yo} {K:Yb} {tg:Expr} (a it:Yt):Turn P w K tg (Itt K a) [it] it (λi h=>h.IsTupleIter it a i) where
 mem:=by simp
 obj:=λi h st b hb=>by
  let e:b=it:=by simpa using hb
  subst e;let⟨o,e,c,d⟩:=st;exact ⟨o,e,λv z=>by rw[d]at z;ext z⟩
 keep:=λi h h' st k=>st.at λo e=>k it (by simp) o e;item:=by
  intro X hP hw hK hc i zB s Y H E I hf st hg;subst hP hw hK;let⟨xs,x,hq,hx⟩:=hg;let⟨its,rv,p,hz⟩:=I.tuple hq;let⟨u,hu,ru⟩:=rv.get hx;let⟨f0,f1,f2,f3,f4,f5⟩:=hf it (by simp);refine wpAny_pyNext_tuple_item st (show s.heap.IsTuple a its.toArray from p) (x:=u) (~~~hu) λh' st' sb=>?_;let I1:Inv X zB Y H { s with heap:=h' }:=I.turned (t':=s.toks) (λb o hb e=>(sb.2 b hb).trans e) f0 f1 f3 f4 f5;let⟨o,e,c,d⟩:=id st';exact ⟨u,rfl,Jq (s:={ s with heap:=h' }) e c d () ⟨x,H,I1,ru,⟨rfl,λys hy=>by rw[I.tuple_inj hy hq];calc hx⟩,st',λb hb=>(hf b hb).1⟩⟩
 done:=by
  intro X hP hw hK hc i zB s Y H E I hf st hg;subst hP hw hK;let⟨xs,hq,hx⟩:=hg;let⟨its,rv,p,hz⟩:=I.tuple hq;let⟨f0,f1,f2,f3,f4,f5⟩:=hf it (by simp);let hl:=rv.length;exact wpAny_pyNext_tuple_end (I.ok.hd hc) st (show s.heap.IsTuple a its.toArray from p) (by simp;omega) λh' eb=>⟨rfl,I.turned (t':=s.toks) (λb o hb e=>eb b o hb e) f0 f1 f3 f4 f5⟩
 self:=λ_ _ _ _ _ st h=>wpAny_pyIter_tupleiter st h
def UE {P:Ym} {w:Yo} {K:Yb} {tg:Expr} (it:Yt) (lo:Int) (n:Nat):Turn P w K tg (Itr lo n) [it] it (λi h=>IsRangeIter h it (lo+(i:Nat)*1) ((n:Int)-(i:Nat)) 1) where
 mem:=by simp
 obj:=λi h st b hb=>by
  let e:b=it:=by simpa using hb
  subst e;exact ⟨_,st,λv z=>by
   let z':Data.fields _=Data.cell v:=z;ext z'⟩
 keep:=λi h h' st k=>k it (by simp) _ st;item:=by
  intro X hP hw hK hc i zB s Y H E I hf st hg;subst hP hw hK;let⟨f0,f1,f2,f3,f4,f5⟩:=hf it (by simp);let W:=Walks.range (prog:=X.prog) (w:=X.w) (I.ok.hd hc) it lo 1 n;refine W.item i s _ _ hg st λv h' tk hv st' kk=>?_;let⟨t,rfl⟩:=hv;let I1:Inv X zB Y H { s with heap:=h',toks:=tk }:=I.turned (λb o hb e=>kk b o (~~~hb) e) f0 f1 f3 f4 f5;refine ⟨_,rfl,Jq (s:={ s with heap:=h',toks:=tk }) (n := "range_iterator") st' rfl rfl () ⟨.int (lo+i),H,I1,⟨t,?_⟩,⟨rfl,rfl⟩,st',λb hb=>(hf b hb).1⟩⟩;rw[Int.mul_one]
 done:=by
  intro X hP hw hK hc i zB s Y H E I hf st hg;subst hP hw hK;let⟨f0,f1,f2,f3,f4,f5⟩:=hf it (by simp);exact wpAny_pyNext_range_end (I.ok.hd hc) st (by have:n<=i:=hg;omega) λh' eb=>⟨rfl,I.turned (t':=s.toks) (λb o hb e=>eb b o hb e) f0 f1 f3 f4 f5⟩
 self:=λ_ _ _ _ _ st h=>wpAny_pyIter_rangeiter st h
section
variable {X:Cx} {tg:Expr}
def Oa {zB:Yd} {Y:St} {H:Hp} {s:Yl} {R:It->Hp->Prop} {E:Yc} {lo hi:Int} {t u v:Tok} {tk:Nat} (I:Inv X zB Y H s) (h1 : -(2 ^ 62)<=lo) (h2:lo<2 ^ 62) (h3 : -(2 ^ 62)<=hi) (h4:hi<2 ^ 62)
  (q:R (Itr lo (hi-lo).toNat) H):wpAny (model X.prog X.w) X.A (pyIter (.ref ⇑s)) (PIE X zB Y tg R) E { s with heap:=s.heap.push { cls:=.type "range", data:=.fields #[.int lo t,.int hi u,.int 1 v] },toks:=tk }:=by
 calc wpAny_pyIter_range (IsRange.new ..) (small_one h1 h2 h3 h4) ?_;let I1:Inv X zB Y H { s with heap:=s.heap.push { cls:=.type "range", data:=.fields #[.int lo t,.int hi u,.int 1 v] },toks:=tk }:=I.kept λb o e=>AH _ e
 refine ⟨(s.heap.push { cls:=.type "range", data:=.fields #[.int lo t,.int hi u,.int 1 v] }).objs.size,[(s.heap.push { cls:=.type "range", data:=.fields #[.int lo t,.int hi u,.int 1 v] }).objs.size],_,_,H,rfl,
  I1.kept (t':=tk) λb o e=>AH _ e,UE _ lo (hi-lo).toNat,?_,λb hb=>?_,q⟩
 .have e1:lo+((0:Nat):Int)*1=lo:=by simp
  let e2:(((hi-lo).toNat:Nat):Int)-((0:Nat):Int)=Builtin.Range.rangeSize lo hi 1:=by rw[rangeSize_one];split <;> omega
  show IsRangeIter _ _ (lo+((0:Nat):Int)*1) ((((hi-lo).toNat:Nat):Int)-((0:Nat):Int)) 1;rw[e1,e2];exact AN _ rfl
 .have e:b=(s.heap.push { cls:=.type "range", data:=.fields #[.int lo t,.int hi u,.int 1 v] }).objs.size:=by simpa using hb
  subst e;calc I1.fpOk (AF _) (I1.hok.fresh (AF _))
def Wc (ta:TA):TI:=λY H R=>ta Y H λvs H1=>∃ j:Int,vs=[.int j] /\ -(2 ^ 62)<=j/\j<2 ^ 62/\R (Itr 0 j.toNat) H1
def Zm (ta:TA):TI:=λY H R=>ta Y H λvs H1=>∃ i j:Int,vs=[.int i,.int j]/\(-(2 ^ 62)<=i/\i<2 ^ 62 /\ -(2 ^ 62)<=j/\j<2 ^ 62)/\R (Itr i (j-i).toNat) H1
def S0 {a:Expr} {ta:TA} {p pos:Pos} (hg:Gl X "range") (hm:X.mg "range" = none) (ha:PA X [a] ta) (hs:starEach [a] X.env=[(false,eval a X.env)]:=by rfl):PI X tg (.Call (.Name "range" p) [a] [] pos) (Wc ta):=by
 intro zB s Y H R I h;refine Call_ (D5 I hg hm boot_range (PyProof.Rows.callWith_type1 (thn (ha pos zB s Y H _ I h) λus s1 ⟨vs,H1,I1,r1,q1⟩=>?_) hs rfl));let⟨j,e,q1,q2,q⟩:=q1;subst e;cases r1 with
 |cons r rr=>
  ext rr;let⟨t,rfl⟩:=r;calc call_range_1 (Oa I1 () () q1 q2 (~~~q))
def Rr {a b:Expr} {ta:TA} {p pos:Pos} (hg:Gl X "range") (hm:X.mg "range" = none) (ha:PA X [a,b] ta) (hs:starEach [a,b] X.env=[(false,eval a X.env),(false,eval b X.env)]:=by rfl) (hs2:starEach [b] X.env=[(false,eval b X.env)]:=by rfl) :
  PI X tg (.Call (.Name "range" p) [a,b] [] pos) (Zm ta):=by
 intro zB s Y H R I h;refine Call_ (D5 I hg hm boot_range (PyProof.Rows.callWith_type1 (thn (ha pos zB s Y H _ I h) λus s1 ⟨vs,H1,I1,r1,q1⟩=>?_) (by rw[hs,hs2]) (by rw[hs2];rfl)));let⟨i,j,e,⟨q1,q2,q3,q4⟩,q⟩:=q1;subst e;cases r1 with
 |cons r rr=>
  cases rr with
  |cons r' rr=>
   ext rr;let⟨t,rfl⟩:=r;let⟨t',rfl⟩:=r';calc call_range_2 (Oa I1 q1 q2 q3 q4 q)
def NA (wi:TI) (g:TG) (tb:TS):TS:=λD Y H=>wi Y H λJ H1=>∃ W:Nat->Nat->St->Hp->Prop,(∃ m,W 0 m Y H1) /\ ∀ i m Y H,W i m Y H ->
 (J.stop i H/\D.nx Y H)\/(J.go i H /\ ∃ N:St->Hp->Prop,(∀ Y' H',N Y' H' -> ∃ m',m'<m/\W (i+1) m' Y' H') /\ ∀ x H',J.yld i H x H'->g x Y H' λσ2 H2=>tb { D with nx:=N,ct:=N,bk:=D.nx } σ2 H2)
def GP (fp:Yg) (h:Heap):List (Addr × Obj):=fp.filterMap λb=>(h.get? b).map λo=>(b,o)
def F8 {fp:Yg} {h:Heap} {b:Yt} {o:Obj} (hb:b∈fp) (e:h.get? b=some o):(b,o)∈GP fp h:=List.mem_filterMap.mpr ⟨b,hb,by rw[e];rfl⟩
def RC {fp:Yg} {h:Heap} {p:Addr × Obj} (hp:p∈GP fp h):p.1∈fp/\h.get? p.1=some p.2:=by
 let⟨b,hb,e⟩:=List.mem_filterMap.mp hp;cases q:h.get? b with
 |none=>rw[q]at e;ext e
 |some o=>
  rw[q]at e;let e':(b,o)=p:=BG e;subst e';calc ⟨hb,q⟩
def Inv.pinned {zB:Yd} {Y:St} {H:Hp} {s:Yl} {fp:Yg} (I:Inv X zB Y H s) (hf:∀ b∈fp,Br X zB H b) (ho:∀ b∈fp,∃ o,s.heap.get? b=some o /\ ∀ v,o.data≠.cell v):Inv X (zB++GP fp s.heap) Y H s :=
 I.pins_of λp hp=>(Ab.mp hp).elim (λz=>I.pin p (Bb _ z)) λz=>by
  let⟨hb,e⟩:=RC z;let⟨f0,f1,f2,_⟩:=hf p.1 hb;let⟨o,e',d⟩:=ho p.1 hb;rw[e]at e';ext e';calc ⟨e,f0,f1,f2,d⟩
def Inv.unpinned {zB pl:Yd} {Y:St} {H:Hp} {s:Yl} (I:Inv X (zB++pl) Y H s):Inv X zB Y H s:=I.pins_of λp hp=>I.pin p (Bb _ (BW _ hp))
def V4 {iter:Expr} {body:Yy} {wi:TI} {g:TG} {tb:TS} {pos:Pos} (hp:PassesOwn (model X.prog X.w) X.A X.env X.xe) (hc:X.calm=true) (hi:PI X tg iter wi) (hg:PG X tg g) (hb:PSs X body tb)
  (hs:∀ x,foldedSetIterable iter X.env x=pure x:=by intro _;rfl):PS X (.For tg iter body [] pos) (NA wi g tb):=by
 intro zB s Y H D I h;refine wpAny_For (thn (hi zB s Y H _ I h) λv s1 h1=>thn h1 λitv s2 h2=>?_) hs;let⟨it,fp,tn,J,H2,e,I2,T,st2,f2,W,⟨m0,w0⟩,turn⟩:=h2;subst e;let stat:∀ {H':Hp},(∀ b∈fp,H' b=none) -> ∀ b∈fp,Br X zB H' b:=λhn b hb=>⟨hn b hb,(f2 b hb).2⟩;refine codeAny_forLoop_any (λn s'=>∃ i Y' H',Inv X zB Y' H' s'/\tn i s'.heap/\(∀ b∈fp,H' b=none)/\W i n Y' H') ?_ m0 ⟨0,Y,H2,I2,st2,λb hb=>(f2 b hb).1,w0⟩;rintro n s3 ⟨i,σ3,H3,I3,st3,fr3,w3⟩;rcases turn i n σ3 H3 w3 with ⟨stop,qn⟩|⟨go,N,hN,step⟩
 .refine wpAny_passesOwn hp (thn (T.done X rfl rfl rfl hc i zB s3 σ3 H3 X.xe I3 (stat fr3) st3 stop) λr s4 ⟨hr,I4⟩=>?_);subst hr;exact wpAny_execs_nil ⟨σ3,H3,I4,qn⟩
 .refine wpAny_passesOwn hp (thn (T.item X rfl rfl rfl hc i zB s3 σ3 H3 X.xe I3 (stat fr3) st3 go) λr s4 ⟨u,hr,h4⟩=>?_);subst hr;refine wpAny_passesOwn hp (thn h4 λ_ s5 ⟨x,H5,I5,r5,y5,st5,fr5⟩=>?_);let I5':=I5.pinned (stat fr5) (T.obj _ _ st5);refine wpAny_passesOwn hp (thn (hg _ s5 σ3 H5 x u _ I5' r5 (step x H5 y5)) λ_ s6 ⟨σ6,H6,I6,q6⟩=>?_);refine wpAny_passesOwn hp (thn (hb _ s6 σ6 H6 _ I6 q6) λf s7 q7=>?_);let again:∀ {σ7:St} {H7:Hp},Inv X (zB++GP fp s5.heap) σ7 H7 s7->N σ7 H7 -> ∃ m,m<n /\ ∃ i Y' H',Inv X zB Y' H' s7/\tn i s7.heap/\(∀ b∈fp,H' b=none)/\W i m Y' H':=λ{σ7 H7} I7 n7=>by
   let⟨m',hm,w7⟩:=hN σ7 H7 n7;refine ⟨m',hm,i+1,σ7,H7,I7.unpinned,T.keep _ _ _ st5 λb hb o e=>(I7.pin (b,o) (Bb _ (Bb _ (F8 hb e)))).1,λb hb=>?_,w7⟩;let⟨o,e,d⟩:=T.obj _ _ st5 b hb;exact (I7.pin (b,o) (Bb _ (Bb _ (F8 hb e)))).2.1
  cases f with
  |next=>let⟨σ7,H7,I7,n7⟩:=q7;calc again I7 n7
  |cont=>let⟨σ7,H7,I7,n7⟩:=q7;calc again I7 n7
  |brk=>let⟨σ7,H7,I7,q7⟩:=q7;calc ⟨σ7,H7,I7.unpinned,q7⟩
  |ret v=>let⟨x7,σ7,H7,I7,r7,q7⟩:=q7;calc ⟨x7,σ7,H7,I7.unpinned,r7,q7⟩
end
abbrev R2:=V->V->Hp->VK->Prop
def OpR (X:Cx) (f:Y2) (r:R2):Prop :=
 ∀ (zB:Yd) (s:Yl) (Y:St) (H:Hp) (x y:V) (v u:Yu) (Q:VK),Inv X zB Y H s->za x v->za y u->r x y H Q ->
  wpAny (model X.prog X.w) X.A (f v u) (EP X zB Y Q) X.xe s
def Cp (X:Cx) (f:Yu) (r:List V->Hp->VK->Prop):Prop :=
 ∀ (zB:Yd) (s:Yl) (Y:St) (H:Hp) (xs:List V) (us:Yf) (Q:VK),Inv X zB Y H s->zU xs us->r xs H Q ->
  wpAny (model X.prog X.w) X.A (call f us) (EP X zB Y Q) X.xe s
def ZG (X:Cx) (r:V->Hp->(Bool->Hp->Prop)->Prop):Prop :=
 ∀ (zB:Yd) (s:Yl) (Y:St) (H:Hp) (x:V) (v:Yu) (Q:Bool->Hp->Prop),Inv X zB Y H s->za x v->r x H Q ->
  wpAny (model X.prog X.w) X.A (truthy v) (TP X zB Y Q) X.xe s
def tOp (r:R2) (ta tb:TE):TE:=λY H Q=>ta Y H λx H1=>tb Y H1 λy H2=>r x y H2 Q
def rI (C:Int->Int->Prop) (g:Int->Int->V):R2:=λx y H Q=>∃ i j,x=.int i/\y=.int j/\C i j/\Q (g i j) H
def rI0 (g:Int->Int->V):R2:=λx y H Q=>∃ i j,x=.int i/\y=.int j/\Q (g i j) H
section
variable {X:Cx} {a b c:Expr} {ta tb tc:TE} {pos:Pos}
def LK (ha:PE X a ta) (hb:PE X b tb) {zB:Yd} {s:Yl} {Y:St} {H:Hp} {R:V->V->Hp->Prop} (I:Inv X zB Y H s)
  (h:ta Y H λx H1=>tb Y H1 λy H2=>R x y H2) {Q:Yc} {f:Y2}
  (hf:∀ v u s2 x y H2,Inv X zB Y H2 s2->za x v->za y u->R x y H2->wpAny (model X.prog X.w) X.A (f v u) Q X.xe s2) :
  wpAny (model X.prog X.w) X.A (eval a X.env) (λv s₁=>wpAny (model X.prog X.w) X.A (eval b X.env) (λu s₂=>wpAny (model X.prog X.w) X.A (f v u) Q X.xe s₂) X.xe s₁) X.xe s:=by
 refine thn (ha zB s Y H _ I h) λv s1 ⟨x,H1,I1,r1,q1⟩=>?_;refine thn (hb zB s1 Y H1 _ I1 q1) λu s2 ⟨y,H2,I2,r2,q2⟩=>?_;calc hf v u s2 x y H2 I2 r1 r2 q2
def TK {op:Operator} {r:R2} (ho:OpR X (binaryOp op) r) (ha:PE X a ta) (hb:PE X b tb):PE X (.BinOp a op b pos) (tOp r ta tb):=by
 intro zB s Y H Q I h;calc wpAny_BinOp (LK ha hb I h λv u s2 x y H2 I2 rx ry q=>ho zB s2 Y H2 x y v u Q I2 rx ry q)
def opI {f:Y2} {C:Int->Int->Prop} {g:Int->Int->Int}
  (rule:∀ (i j:Int) (t u:Tok) (s:Yl) (Q:Yc) (E:Yc),C i j->Q (.int (g i j) s.toks) { s with toks:=s.toks+1 }->wpAny (model X.prog X.w) X.A (f (.int i t) (.int j u)) Q E s) :
  OpR X f (rI C λi j=> .int (g i j)):=by
 intro zB s Y H x y v u Q I rx ry h;let⟨i,j,rfl,rfl,hc,q⟩:=h;let⟨t,rfl⟩:=rx;let⟨t',rfl⟩:=ry;calc rule i j t t' s _ _ hc ⟨.int (g i j),H,I.tok _,⟨_,rfl⟩,q⟩
def Og {f:Y2} {g:Int->Int->Int}
  (rule:∀ (i j:Int) (t u:Tok) (s:Yl) (Q:Yc) (E:Yc),Q (.int (g i j) s.toks) { s with toks:=s.toks+1 }->wpAny (model X.prog X.w) X.A (f (.int i t) (.int j u)) Q E s) :
  OpR X f (rI0 λi j=> .int (g i j)):=by
 intro zB s Y H x y v u Q I rx ry h;let⟨i,j,rfl,rfl,q⟩:=h;let⟨t,rfl⟩:=rx;let⟨t',rfl⟩:=ry;calc rule i j t t' s _ _ ⟨.int (g i j),H,I.tok _,⟨_,rfl⟩,q⟩
def LP {f:Y2} {g:Int->Int->Bool}
  (rule:∀ (i j:Int) (t u:Tok) (s:Yl) (Q:Yc) (E:Yc),Q (.bool (g i j)) s->wpAny (model X.prog X.w) X.A (f (.int i t) (.int j u)) Q E s) :
  OpR X f (rI0 λi j=> .bl (g i j)):=by
 intro zB s Y H x y v u Q I rx ry h;let⟨i,j,rfl,rfl,q⟩:=h;let⟨t,rfl⟩:=rx;let⟨t',rfl⟩:=ry;calc rule i j t t' s _ _ ⟨.bl (g i j),H,I,rfl,q⟩
def U6 (i j:Int):Prop:=0<j/\j<1073741824
def Xc (i j:Int):Prop:=0<=j/\j<=1000000/\i.natAbs<2 ^ 64
def JF (i j:Int):Prop:=(-(2 ^ 64)<i/\i<2 ^ 64)\/(-(2 ^ 64)<j/\j<2 ^ 64)
def JF.ok {i j:Int} (h:JF i j):IntMulOk i j:=by
 rcases h with ⟨h1,h2⟩|⟨h1,h2⟩
 .exact .of_left (intBits_le_64 h1 h2)
 .exact .of_right (intBits_le_64 h1 h2)
def VO:OpR X (binaryOp .Add) (rI0 λi j=> .int (i+j)):=Og λ_ _ _ _ _ _ _ q=>add_int q
def V1:OpR X (binaryOp .Sub) (rI0 λi j=> .int (i-j)):=Og λ_ _ _ _ _ _ _ q=>sub_int q
def Xa:OpR X (binaryOp .Mult) (rI JF λi j=> .int (i*j)):=opI λ_ _ _ _ _ _ _ hc q=>mul_int q hc.ok
def Tw:OpR X (binaryOp .FloorDiv) (rI U6 λi j=> .int (i / j)):=opI λi j _ _ _ _ _ hc q=>by
 let h1:(0:Int)<j:=hc.1;let h2:j<1073741824:=hc.2;calc floordiv_int () (by rw[Int.fdiv_eq_ediv_of_nonneg i ()];calc q) (.inl (PyProof.noPylong_small ()))
def Tu:OpR X (binaryOp .Mod) (rI (λ_ j=>0<j) λi j=> .int (i % j)):=opI λi j _ _ _ _ _ hc q=>by
 let h1:(0:Int)<j:=hc;calc mod_int' () (by rw[Int.fmod_eq_emod_of_nonneg i ()];calc q)
def XH:OpR X (binaryOp .Pow) (rI Xc λi j=> .int (i ^ j.toNat)):=opI λ_ _ _ _ _ _ _ hc q=>pow_int_small hc.1 hc.2.1 hc.2.2 q
end
def Hr:V->V->Bool
 |.non,.non=>true|.non,.int _=>true|.int _,.non=>true|.non,.bl _=>true|.bl _,.non=>true|.non,.str _=>true|.str _,.non=>true
 |.int _,.int _=>true|.bl _,.bl _=>true|.str _,.str _=>true|.byt _,.byt _=>true
 |.int _,.str _=>true|.str _,.int _=>true|.bl _,.str _=>true|.str _,.bl _=>true
 |_,_=>false
def rEq:R2:=λx y H Q=>Hr x y=true/\Q (.bl (decide (x=y))) H
def rNe:R2:=λx y H Q=>Hr x y=true/\Q (.bl (!decide (x=y))) H
def Po {i j:Int}:decide (V.int i=V.int j)=(i==j):=by
 rw[DC];simp
def Ma {i j:Bool}:decide (V.bl i=V.bl j)=(i==j):=by
 rw[DC];simp
def OY {i j:Str}:decide (V.str i=V.str j)=(i==j):=by
 rw[DC];simp
def Lu {i j:Array UInt8}:decide (V.byt i=V.byt j)=(i.toList==j.toList):=by
 rw[DC];ext i;ext j;simp
section
variable {X:Cx} {a b c:Expr} {ta tb tc:TE} {pos:Pos}
def zb {zB:Yd} {Y:St} {H:Hp} {s:Yl} {Q:VK} {k k':Bool} (I:Inv X zB Y H s) (q:Q (.bl k) H) (e:k=k'):EP X zB Y Q (.bool k') s:=by
 subst e;calc ⟨.bl k,H,I,rfl,q⟩
def Mn:OpR X (compareOp .Eq) rEq:=by
 intro zB s Y H x y v u Q I rx ry h;let⟨hs,q⟩:=h;cases x with
 |non=>
  ext rx;cases y with
  |non=>ext ry;calc PySem.EqNone.eq_none_none (zb I q (by simp))
  |bl j=>ext ry;calc PySem.EqNone.eq_none_bool (zb I q (by simp))
  |int j=>let⟨t',rfl⟩:=ry;calc PySem.EqNone.eq_none_int (zb I q (by simp))
  |str j=>let⟨t',rfl⟩:=ry;calc PySem.EqNone.eq_none_str (zb I q (by simp))
  |_=>calc absurd (show false=true from hs) Av
 |bl i=>
  ext rx;cases y with
  |non=>ext ry;calc PySem.EqNone.eq_bool_none (zb I q (by simp))
  |bl j=>ext ry;calc eq_bool (zb I q Ma)
  |str j=>let⟨t',rfl⟩:=ry;calc PySem.EqMixed.eq_bool_str (zb I q (by simp))
  |_=>calc absurd (show false=true from hs) Av
 |int i=>
  let⟨t,rfl⟩:=rx;cases y with
  |non=>ext ry;calc PySem.EqNone.eq_int_none (zb I q (by simp))
  |int j=>let⟨t',rfl⟩:=ry;calc eq_int (zb I q Po)
  |str j=>let⟨t',rfl⟩:=ry;calc PySem.EqMixed.eq_int_str (zb I q (by simp))
  |_=>calc absurd (show false=true from hs) Av
 |str i=>
  let⟨t,rfl⟩:=rx;cases y with
  |non=>ext ry;calc PySem.EqNone.eq_str_none (zb I q (by simp))
  |bl j=>ext ry;calc PySem.EqMixed.eq_str_bool (zb I q (by simp))
  |int j=>let⟨t',rfl⟩:=ry;calc PySem.EqMixed.eq_str_int (zb I q (by simp))
  |str j=>let⟨t',rfl⟩:=ry;calc eq_str (zb I q OY)
  |_=>calc absurd (show false=true from hs) Av
 |byt i=>
  let⟨t,rfl⟩:=rx;cases y with
  |byt j=>let⟨t',rfl⟩:=ry;calc PySem.W.eq_bytes (zb I q Lu)
  |_=>calc absurd (show false=true from hs) Av
 |_=>cases y <;> calc absurd (show false=true from hs) Av
def U8:OpR X (compareOp .NotEq) rNe:=by
 intro zB s Y H x y v u Q I rx ry h;let⟨hs,q⟩:=h;cases x with
 |non=>
  ext rx;cases y with
  |non=>ext ry;calc PySem.EqNone.ne_none_none (zb I q (by simp))
  |bl j=>ext ry;calc PySem.EqNone.ne_none_bool (zb I q (by simp))
  |int j=>let⟨t',rfl⟩:=ry;calc PySem.EqNone.ne_none_int (zb I q (by simp))
  |str j=>let⟨t',rfl⟩:=ry;calc PySem.EqNone.ne_none_str (zb I q (by simp))
  |_=>calc absurd (show false=true from hs) Av
 |bl i=>
  ext rx;cases y with
  |non=>ext ry;calc PySem.EqNone.ne_bool_none (zb I q (by simp))
  |bl j=>ext ry;calc ne_bool (zb I q (BC not Ma))
  |str j=>let⟨t',rfl⟩:=ry;calc PySem.EqMixed.ne_bool_str (zb I q (by simp))
  |_=>calc absurd (show false=true from hs) Av
 |int i=>
  let⟨t,rfl⟩:=rx;cases y with
  |non=>ext ry;calc PySem.EqNone.ne_int_none (zb I q (by simp))
  |int j=>let⟨t',rfl⟩:=ry;calc ne_int (zb I q (BC not Po))
  |str j=>let⟨t',rfl⟩:=ry;calc PySem.EqMixed.ne_int_str (zb I q (by simp))
  |_=>calc absurd (show false=true from hs) Av
 |str i=>
  let⟨t,rfl⟩:=rx;cases y with
  |non=>ext ry;calc PySem.EqNone.ne_str_none (zb I q (by simp))
  |bl j=>ext ry;calc PySem.EqMixed.ne_str_bool (zb I q (by simp))
  |int j=>let⟨t',rfl⟩:=ry;calc PySem.EqMixed.ne_str_int (zb I q (by simp))
  |str j=>let⟨t',rfl⟩:=ry;calc ne_str (zb I q (BC not OY))
  |_=>calc absurd (show false=true from hs) Av
 |byt i=>
  let⟨t,rfl⟩:=rx;cases y with
  |byt j=>let⟨t',rfl⟩:=ry;calc PySem.W.ne_bytes (zb I q (BC not Lu))
  |_=>calc absurd (show false=true from hs) Av
 |_=>cases y <;> calc absurd (show false=true from hs) Av
def Ut:OpR X (compareOp .Lt) (rI0 λi j=> .bl (decide (i<j))):=LP λ_ _ _ _ _ _ _ q=>lt_int q
def P7:OpR X (compareOp .Gt) (rI0 λi j=> .bl (decide (j<i))):=LP λ_ _ _ _ _ _ _ q=>gt_int q
def ZO:OpR X (compareOp .GtE) (rI0 λi j=> .bl (decide (j<=i))):=LP λ_ _ _ _ _ _ _ q=>ge_int q
def OpR.or {f:Y2} {r r':R2} (h:OpR X f r) (h':OpR X f r'):OpR X f (λx y H Q=>r x y H Q\/r' x y H Q):=by
 intro zB s Y H x y v u Q I rx ry q;rcases q with q|q
 .exact h zB s Y H x y v u Q I rx ry q
 .exact h' zB s Y H x y v u Q I rx ry q
def D8 (b:Expr) {op:CmpOp} (h:op≠.In:=by decide) (h2:op≠.NotIn:=by decide):behindInMarks op b=false:=by
 let e1:(op==CmpOp.In)=false:=by cases op <;> first|rfl|exact absurd rfl h
 let e2:(op==CmpOp.NotIn)=false:=by cases op <;> first|rfl|exact absurd rfl h2
 cases b <;> simp[behindInMarks,e1,e2]
def RV {op:CmpOp} {r:R2} (ho:OpR X (compareOp op) r) (ha:PE X a ta) (hb:PE X b tb) (hm:behindInMarks op b=false):PE X (.Compare a [op] [b] pos) (tOp r ta tb):=by
 intro zB s Y H Q I h;calc wpAny_Compare1 (LK ha hb I h λv u s2 x y H2 I2 rx ry q=>ho zB s2 Y H2 x y v u Q I2 rx ry q) hm
def Iz (t:TE):TT:=λY H Q=>t Y H λx H'=>∃ k,x=.bl k/\Q k H'
def RH {op:CmpOp} {r:R2} (ho:OpR X (compareOp op) r) (ha:PE X a ta) (hb:PE X b tb) (hm:behindInMarks op b=false):PT X (.Compare a [op] [b] pos) (Iz (tOp r ta tb)):=by
 intro zB s Y H Q I h;refine wpAny_isTrue_Compare1 (thn (ha zB s Y H _ I h) λv s1 ⟨x,H1,I1,r1,q1⟩=>thn (hb zB s1 Y H1 _ I1 q1) λu s2 ⟨y,H2,I2,r2,q2⟩=>
  thn (ho zB s2 Y H2 x y v u _ I2 r1 r2 q2) λc s3 ⟨z,H3,I3,r3,k,e,q3⟩=>?_) hm
 subst e;ext r3;calc EE ⟨H3,I3,q3⟩
def PL (K:Yb) (x:V) (H:Hp) (k:Bool):Prop :=
 match x with
 |.non=>k=false
 |.bl b=>k=b
 |.int i=>k=(i != 0)
 |.str y=>y.length<=sizeLine/\k=((y.length:Int) != 0)
 |.byt y=>y.size<=sizeLine/\k=((y.size:Int) != 0)
 |.ref p=>(∃ xs,SqL K H p xs/\k = !xs.isEmpty)\/(∃ xs,SqT K H p xs/\k = !xs.isEmpty) \/ ∃ kvs,H p=some (.dK kvs)/\k = !kvs.isEmpty
 |_=>False
def Ts {κ:Type} {kvs:List (κ × V)} {vs:List (κ × Value)} (r:KV kvs vs):(!vs.isEmpty) = !kvs.isEmpty:=by
 cases r <;> rfl
def Ll {xs:List V} {its:Yf} (r:zU xs its):(!its.toArray.isEmpty) = !xs.isEmpty:=by
 cases r <;> simp
def Fy:(sizeLine:Nat)<2 ^ 63:=by rw[Cd];decide
def VE:ZG X (λx H Q=>∃ k,PL X.K x H k/\Q k H):=by
 intro zB s Y H x v Q I rx h;let⟨k,e,q⟩:=h;let hl:=Fy;let hs:sizeLine=16777216:=Cd;cases x with
 |non=>
  ext rx;let e':k=false:=e;subst e';calc truthy_none ⟨H,I,q⟩
 |bl b=>
  ext rx;let e':k=b:=e;subst e';calc EE ⟨H,I,q⟩
 |int i=>
  let⟨t,rfl⟩:=rx;let e':k=(i != 0):=e;subst e';calc PySem.P.truthy_int ⟨H,I,q⟩
 |str y=>
  let⟨t,rfl⟩:=rx;obtain ⟨hy,e'⟩:y.length<=sizeLine/\k=((y.length:Int) != 0):=e;subst e';calc PySem.P.truthy_str () ⟨H,I.tok _,q⟩
 |byt y=>
  let⟨t,rfl⟩:=rx;obtain ⟨hy,e'⟩:y.size<=sizeLine/\k=((y.size:Int) != 0):=e;subst e';calc PySem.W.truthy_bytes () ⟨H,I.tok _,q⟩
 |ref p=>
  ext rx;let e':(∃ xs,SqL X.K H p xs/\k = !xs.isEmpty)\/(∃ xs,SqT X.K H p xs/\k = !xs.isEmpty) \/ ∃ kvs,H p=some (.dK kvs)/\k = !kvs.isEmpty:=e;rcases e' with ⟨xs,hx,e'⟩|⟨xs,hx,e'⟩|⟨kvs,hx,e'⟩
  .subst e';let⟨its,r,pl,hz⟩:=I.list hx;let hlen:=r.length;exact wpAny_truthy_list pl.isList (by simp only[AS];omega) ⟨H,I.tok _,by rw[Ll r];calc q⟩
  .subst e';let⟨its,r,pl,hz⟩:=I.tuple hx;let hlen:=r.length;exact truthy_tuple pl (by simp only[AS];omega) ⟨H,I.tok _,by rw[Ll r];calc q⟩
  .subst e';obtain ⟨hz,hS,vs,r,m⟩:kvs.length<=sizeLine/\(p==sysModules)=false /\ ∃ vs,KV kvs vs/\s.heap.DictOf (ze X.prog X.w) p vs:=I.hok p _ hx;let hlen:kvs.length=vs.length:=Paired.length r;calc wpAny_truthy_dict hS m () ⟨H,I.tok _,by rw[Ts r];calc q⟩
 |_=>calc (show False from e).elim
def UD (ha:PE X a ta) (he:∀ whole,isTrue a X.env whole=(do let v <- whole;standAt a.pos;holding [v] (truthy v))) :
  PT X a (λY H Q=>ta Y H λx H'=>∃ k,PL X.K x H' k/\Q k H'):=by
 intro zB s Y H Q I h;calc isTrue_plain (thn (ha zB s Y H _ I h) λv s1 ⟨x,H1,I1,r1,q1⟩=>VE zB s1 Y H1 x v Q I1 r1 q1) (he _)
def F5 {x:V} {us:Yf} (r:zU [x] us):∃ u,us=[u]/\za x u:=by
 cases r with
 |cons r1 r2=>ext r2;calc ⟨_,rfl,r1⟩
def W3 {x y:V} {us:Yf} (r:zU [x,y] us):∃ u w',us=[u,w']/\za x u/\za y w':=by
 cases r with
 |cons r1 r2=>
  cases r2 with
  |cons r3 r4=>ext r4;calc ⟨_,_,rfl,r1,r3⟩
def Zs:Cp X (.builtin "abs") (λxs H Q=>∃ i,xs=[.int i]/\Q (.int (if i<0 then -i else i)) H):=by
 intro zB s Y H xs us Q I r h;let⟨i,rfl,q⟩:=h;let⟨u,rfl,t,rfl⟩:=F5 r;calc call_abs_int λu tk=>⟨.int (if i<0 then -i else i),H,I.tok _,⟨_,rfl⟩,q⟩
def VP (hc:X.calm=true):Cp X (.builtin "max") (λxs H Q=>∃ i j,xs=[.int i,.int j]/\Q (.int (if j>i then j else i)) H):=by
 intro zB s Y H xs us Q I r h;let⟨i,j,rfl,q⟩:=h;let⟨u,w',rfl,⟨t,rfl⟩,⟨t',rfl⟩⟩:=W3 r;refine max_two_ints (I.ok.hd hc) λh' tk k=>⟨_,H,I.kept k,?_,q⟩;by_cases hj:j>i
 .rw[AD hj,AD hj];exact ⟨_,rfl⟩
 .rw[AE hj,AE hj];calc ⟨_,rfl⟩
end
structure ObjM (h:Heap) (x dx C:Yt) (mA:Yh):Prop where
 obj:h.get? x=some (PySem.W.instObj C dx)
 ns:h.Ns1 dx mA
 ne:dx≠x
def Q9 {h:Heap} {dx:Yt} {mA:Yh} (n:h.Ns1 dx mA):∃ od,h.get? dx=some od /\ ∀ name,PySem.W.lookIn name od=some (mA name):=by
 let⟨o,es,ep,ho,hd,hk,_,hm⟩:=n;refine ⟨o,ho,λname=>?_⟩;let e:=hm name;erw[nsFind,findBy]at e;rw[<-Array.find?_toList]at e;erw[PySem.W.lookIn];rw[hd];dsimp only;split
 .rename_i y q;rw[q]at e;exact BC some e
 .rename_i q;rw[q]at e;let a:es.toList.any (·.refKey)=false:=by
   rw[List.any_eq_false];intro y hy;let⟨z,t,hkey⟩:=hk y (Array.mem_toList_iff.mp hy);simp[DictEntry.refKey,hkey]
  let a':¬ es.toList.any (·.refKey)=true:=by rw[a];exact Av
  rw[AE a'];calc BC some e
def ObjM.look {h:Heap} {x dx C:Yt} {mA:Yh} (I:ObjM h x dx C mA):∃ od,PySem.W.InstAt h x (PySem.W.instObj C dx) C (some od) /\ ∀ name,PySem.W.lookIn name od=some (mA name) :=
 let ⟨od,ho,hl⟩:=Q9 I.ns
 ⟨od,⟨I.obj,rfl,rfl,ho⟩,hl⟩
def DF.some_of {v:V} {o:Option Value} (r:DF (some v) o):∃ u,o=some u/\za v u:=by
 cases o with
 |none=>calc (show False from r).elim
 |some u=>calc ⟨u,rfl,r⟩
section
variable {P:Ym} {w:Yo} {H H':Hp} {h h':Heap} {a C dx:Yt} {fs fs':List (Str × V)}
def Zl (hok:HOk P w H h) (e:H a=some (.ins C dx fs)):∃ mA,ObjM h a dx C mA/\(∀ f,DF (fs.lookup f) (mA f))/\PySem.Within mA (fs.map (·.1))/\fs.length<=1000/\H dx=some (.own a):=by
 let⟨d,z,ne,ob,mA,n,r,q⟩:=(show Ag P w H h a (.ins C dx fs)from hok a _ e);calc ⟨mA,⟨ob,n,ne⟩,r,q,z,d⟩
end
structure Cls (K:Yb) (C:Yt):Prop where
 pg:PySem.W.plainGet K C Str.empty=true
 hd:PySem.W.hasDictIn K C=true
 po:PySem.W.plainOver K C=true
 sa:PySem.W.findIn K (.ref C) "__setattr__" = some (some (.builtin "object.__setattr__"))
def Cls.get {K:Yb} {C:Yt} (c:Cls K C) (f:Str):PySem.W.plainGet K C f=true:=c.pg
section
variable {X:Cx} {zB:Yd} {Y:St} {H:Hp} {s:Yl} {A:Yn} {E:Yc} {Q:Yc} {c:Yu} {b:Bool}
set_option genInjectivity true in
inductive TyOf (K:Yb) (H:Hp):V->Value->Prop where
 |non:TyOf K H .non (.type "NoneType")
 |bl (x:Bool):TyOf K H (.bl x) (.type "bool")
 |int (i:Int):TyOf K H (.int i) (.type "int")
 |str (x:Str):TyOf K H (.str x) (.type "str")
 |flt (x:UInt64):TyOf K H (.flt x) (.type "float")
 |lst {a:Addr} {xs:List V} (e:H a=some (.lst xs)):TyOf K H (.ref a) (.type "list")
 |frz {a:Addr} {o:Obj} {xs:List V} (e:H a=some (.frz o (.lst xs))):TyOf K H (.ref a) (.type "list")
 |tup {a:Addr} {xs:List V} (e:H a=some (.tup xs)):TyOf K H (.ref a) (.type "tuple")
 |dK {a:Addr} {kvs:List (Key × V)} (e:H a=some (.dK kvs)):TyOf K H (.ref a) (.type "dict")
 |dT {a:Addr} {kvs:List (List Key × V)} (e:H a=some (.dT kvs)):TyOf K H (.ref a) (.type "dict")
 |ins {a C dx:Addr} {fs:List (Str × V)} (e:H a=some (.ins C dx fs)) (cl:Cls K C) (ha:PySem.W.findIn K (.ref C) "__class__" = some (some (.builtin "object.__class__")))
   (hn:PySem.W.specialIn K (.builtin "object.__class__") "__get__" = some (some (.builtin "getset_descriptor.__get__"))) (htk:PySem.W.takesIn K (.builtin "object.__class__")=some true)
   (hm:PySem.W.mroIn K C (.type "object")=some true):TyOf K H (.ref a) (.ref C)
def Qa {x:V} {u t:Yu} (I:Inv X zB Y H s) (rx:za x u) (ty:TyOf X.K H x t) (e:PySem.W.kitOne X.K t c=some b) (h:∀ tk,Q (.bool b) { s with toks:=tk }) :
  wpAny (model X.prog X.w) A (call (.builtin "isinstance") [u,c]) Q E s:=by
 cases ty with
 |non=>cases (show u=Value.none from rx);exact DB PySem.W.kitx_none I.kIn True.intro e (λz=>nomatch z) h
 |bl y=>cases (show u=Value.bool y from rx);exact DB PySem.W.kitx_bool I.kIn True.intro e (λz=>nomatch z) h
 |int i=>let⟨t,q⟩:=(show ∃ t,u=Value.int i t from rx);ext q;exact DB PySem.W.kitx_int I.kIn True.intro e (λz=>nomatch z) h
 |str y=>let⟨t,q⟩:=(show ∃ t,u=Value.str y t from rx);ext q;exact DB PySem.W.kitx_str I.kIn True.intro e (λz=>nomatch z) h
 |flt y=>let⟨t,q⟩:=(show ∃ t,u=Value.float y t from rx);ext q;exact DB PySem.W.kitx_float I.kIn True.intro e (λz=>nomatch z) h
 | @lst a xs ea=>
  cases (show u=Value.ref a from rx);let⟨_,_,n,_,h1⟩:=(show Ag X.prog X.w H s.heap a (.lst xs)from I.hok a _ ea);exact DB PySem.W.kitx_list I.kIn ⟨_,h1,rfl⟩ e (λz=>nomatch z) h
 | @frz a ob xs ea=>
  cases (show u=Value.ref a from rx);let⟨_,_,_,n,_,h1⟩:=(show Ag X.prog X.w H s.heap a (.frz ob (.lst xs))from I.hok a _ ea);exact DB PySem.W.kitx_list I.kIn ⟨_,h1,rfl⟩ e (λz=>nomatch z) h
 | @tup a xs ea=>
  cases (show u=Value.ref a from rx);let⟨_,_,_,p⟩:=(show Ag X.prog X.w H s.heap a (.tup xs)from I.hok a _ ea);let⟨o,h1,h2,_⟩:=p;exact DB PySem.W.kitx_tuple I.kIn ⟨o,h1,h2⟩ e (λz=>nomatch z) h
 | @dK a kvs ea=>
  cases (show u=Value.ref a from rx);let⟨_,_,vs,_,p⟩:=(show Ag X.prog X.w H s.heap a (.dK kvs)from I.hok a _ ea);let⟨o,es,ep,h1,h2,_⟩:=p;exact DB PySem.W.kitx_dict I.kIn ⟨o,h1,h2.1⟩ e (λz=>nomatch z) h
 | @dT a kvs ea=>
  cases (show u=Value.ref a from rx);let⟨_,_,xs,_,o,es,ep,h1,h2,_⟩:=(show Ag X.prog X.w H s.heap a (.dT kvs)from I.hok a _ ea);exact DB PySem.W.kitx_dict I.kIn ⟨o,h1,h2.1⟩ e (λz=>nomatch z) h
 | @ins a C dx fs ea cl ha hn htk hm=>
  cases (show u=Value.ref a from rx);let⟨mA,O,_⟩:=Zl I.hok ea;let⟨od,J,_⟩:=O.look;calc DB (PySem.W.kitx_own (cl.get _) cl.hd ha hn htk hm) I.kIn J e (λz=>nomatch z) h
end
structure Room (k:Nat) (A:Yn):Prop where
 hd:A.handled=none
 dp:A.depth+3*k+5<recursionLimit
 un:A.units+16*k+200<cLine
def Room.mono {j k:Nat} {A:Yn} (r:Room k A) (h:j<=k):Room j A:=⟨r.hd,by have:=r.dp;omega,by have:=r.un;omega⟩
def Room.deeper {k:Nat} {A:Yn} (r:Room (k+1) A) (env:Env):Room k (A.deeper env) :=
 ⟨r.hd,by have:=r.dp;show A.depth+1+3*k+5<_;omega,by have:=r.un;show A.units+3+16*k+200<_;omega⟩
def Room.depth {k:Nat} {A:Yn} (r:Room k A):A.depth<recursionLimit:=by have:=r.dp;omega
def Room.units {k:Nat} {A:Yn} (r:Room k A):A.units+64<cLine:=by have:=r.un;omega
def Room.units0 {k:Nat} {A:Yn} (r:Room k A):A.units<cLine:=by have:=r.un;omega
def XO:TA:=λ_ H Q=>Q [] H
def Qv (ta:TE) (tr:TA):TA:=λY H Q=>ta Y H λx H1=>tr Y H1 λxs H2=>Q (x::xs) H2
section
variable {X:Cx} {e:Expr} {es:Yi} {te:TE} {t:TA} {pos:Pos}
def Jd:PA X [] XO:=λ_ _ _ _ H Q I h=>Calls.spliced_nil ⟨[],H,I,.nil,h⟩
def IT (ha:PE X e te) (hr:PA X es t) (hs:starEach (e::es) X.env=(false,eval e X.env)::starEach es X.env:=by rfl):PA X (e::es) (Qv te t):=by
 intro pos zB s Y H Q I h;rw[hs];show wpAny _ _ (spliced ((false,eval e X.env)::backTo pos (starEach es X.env))) _ _ s;refine Calls.spliced_cons (thn (ha zB s Y H _ I h) λu s1 ⟨x,H1,I1,r1,q1⟩=>?_);calc thn (hr pos zB s1 Y H1 _ I1 q1) λus s2 ⟨xs,H2,I2,r2,q2⟩=>⟨x::xs,H2,I2,.cons r1 r2,q2⟩
def RT (t:TA):TE:=λY H Q=>t Y H λxs H1=>xs.length<=sizeLine /\ ∀ p,H1 p=none->Q (.ref p) (upd H1 p (.tup xs))
def Sl (t:TA):TE:=λY H Q=>t Y H λxs H1=>xs.length<=sizeLine /\ ∀ p,H1 p=none->Q (.ref p) (upd H1 p (.lst xs))
def X0 {x1} (h:PA X es t):PE X (.Tuple es x1 pos) (RT t):=by
 intro zB s Y H Q I hq;refine wpAny_Tuple_spliced (thn (h pos zB s Y H _ I hq) λus s1 ⟨xs,H1,I1,r,z,q⟩=>⟨by rw[<-r.length];calc z,?_⟩);let hf:H1 ⇑s1=none:=I1.hok.fresh (AF _);refine ⟨.ref ⇑s1,upd H1 ⇑s1 (.tup xs),I1.laid (t':=s1.toks) (λb u e=>AH _ e) (AF _) ?_,rfl,q _ hf⟩;calc ⟨z,us,r,⟨_,AN _ rfl,rfl,⟨_,rfl⟩,rfl⟩⟩
def Vy (h:PA X es t):PE X (.List es pos) (Sl t):=by
 intro zB s Y H Q I hq;refine wpAny_List_spliced (thn (h pos zB s Y H _ I hq) λus s1 ⟨xs,H1,I1,r,z,q⟩=>⟨by rw[<-r.length];calc z,?_⟩);let hf:H1 ⇑s1=none:=I1.hok.fresh (AF _);refine ⟨.ref ⇑s1,upd H1 ⇑s1 (.lst xs),I1.laid (t':=s1.toks) (λb u e=>AH _ e) (AF _) ?_,rfl,q _ hf⟩;calc ⟨z,us,0,r,AN _ rfl⟩
end
abbrev Sp:=List V->Hp->VK->XK->Prop
abbrev CXT:=List Env->Hp->Shared->XK->Value->Shared->Prop
structure Env0 (P:Ym) (w:Yo) (K:Yb) (mg:Yh) (base:Heap) (A:Yn) (outer:List Env) (s:Yl) (H:Hp):Prop where
 frames:A.frames=some outer
 mod:Mod K mg base
 bs:∀ b o,base.get? b=some o->s.heap.get? b=some o/\H b=none
 bsz:base.objs.size<=⇑s
 funs:s.heap.FunFrames base outer
 frf:∀ b∈frs outer,H b=none
 hok:HOk P w H s.heap
 bare:AllBare s.gens
def CE (outer:List Env) (P:Ym) (w:Yo) (H:Hp) (s:Yl) (Q:VK) (u:Yu) (s':Yl):Prop :=
 ∃ v H',s'.os=s.os/\AllBare s'.gens/\Un (frs outer) [] H H' s.heap s'.heap/\HOk P w H' s'.heap/\za v u/\Q v H'
def CR (CX:CXT) (outer:List Env) (P:Ym) (w:Yo) (H:Hp) (s:Yl) (Q:VK) (E:XK) (r:Result) (s':Yl):Prop :=
 match r with
 |.ok (.ret u)=>CE outer P w H s Q u s'
 |.ok _=>False
 |.error e=>CX outer H s E e s'
structure FnOk (P:Ym) (w:Yo) (K:Yb) (mg:Yh) (base:Heap) (CX:CXT) (k:Nat) (f:Yt) (fd:Yz) (ps:Yk) (sp:Sp):Prop where
 len:∀ vs H Q E,sp vs H Q E->vs.length=ps.length
 run:∀ (A:Yn) (outer:List Env) (s:Yl) (H:Hp) (args:Args) (us:Yf) (vs:List V) (Q:VK) (E:XK),Room k A->Env0 P w K mg base A outer s H->BindsTo s fd args (ps.zip us)->zU vs us->sp vs H Q E ->
  codeAny (model P w) A (.call (.ref f) args) (CR CX outer P w H s Q E) s
def FnOk.imp {P:Ym} {w:Yo} {K:Yb} {mg:Yh} {base:Heap} {CX:CXT} {k:Nat} {f:Yt} {fd:Yz} {ps:Yk} {sp sp':Sp} (F:FnOk P w K mg base CX k f fd ps sp)
  (h:∀ vs H Q E,sp' vs H Q E->sp vs H Q E):FnOk P w K mg base CX k f fd ps sp' :=
 ⟨λvs H Q E q=>F.len vs H Q E (h _ _ _ _ q),λA outer s H args us vs Q E hr he hb hv hs=>F.run A outer s H args us vs Q E hr he hb hv (h _ _ _ _ hs)⟩
section
variable {X:Cx} {zB:Yd} {Y:St} {H:Hp} {s s':Yl}
def Inv.env0 (I:Inv X zB Y H s):Env0 X.prog X.w X.K X.mg X.base X.A X.stack s H :=
 ⟨I.ok.frames,I.ok.mod,I.bs,An I.ok.bsz I.sz,I.stack,I.stkFree,I.hok,I.bare⟩
def Inv.after {Q:VK} {u:Yu} (I:Inv X zB Y H s) (h:CE X.stack X.prog X.w H s Q u s'):EP X zB Y Q u s':=by
 let⟨v,H',os,bare,un,hok,r,q⟩:=h;let⟨hh,g,d,t,os'⟩:=s';obtain rfl:os'=s.os:=os;calc ⟨v,H',I.call (h':=hh) (g':=g) (d':=d) (t':=t) (ch:=[]) un hok bare (λb z=>absurd z (by simp)),r,q⟩
end
def SA (sp:Sp) (dvs:List V) (E:XK) (t:TA):TE:=λY H Q=>t Y H λvs H1=>sp (vs++dvs) H1 Q E
def E5 (K:Yb) (fd:Yz) (ps:Yk) (ds:Yf):Prop :=
 ∀ (s:Yl) (us:Yf),K.In s.heap->(us++ds).length=ps.length->BindsTo s fd ⟨us,[]⟩ (ps.zip (us++ds))
def E5.all {K:Yb} {fd:Yz} {ps:Yk} (h:∀ us:List Value,us.length=ps.length->bindArgs fd ⟨us,[]⟩=pure (ps.zip us)):E5 K fd ps []:=λs us _ hl=>by
 rw[C1]at hl ⊢;calc .of_eq (h us hl)
def J9 (CX:CXT) (X:Cx) (E:XK):Prop:=∀ (zB:Yd) (Y:St) (H:Hp) (s:Yl) (e:Yu) (s':Yl),Inv X zB Y H s->CX X.stack H s E e s'->X.xe e s'
section
variable {X:Cx} {CX:CXT} {k:Nat} {f C:Yt} {fd:Yz} {ps:Yk} {sp:Sp} {dvs:List V} {ds:Yf} {E:XK} {x m:Str} {p pos apos:Pos} {e o:Expr} {es:Yi} {ta:TE} {t:TA}
def Sn {zB:Yd} {Y:St} {H:Hp} {s:Yl} {Q:VK} {us:Yf} {vs:List V} (F:FnOk X.prog X.w X.K X.mg X.base CX k f fd ps sp) (hr:Room k X.A) (hb:E5 X.K fd ps ds) (hd:zU dvs ds) (hx:J9 CX X E)
  (I:Inv X zB Y H s) (r:zU vs us) (h:sp (vs++dvs) H Q E):wpAny (model X.prog X.w) X.A (call (.ref f) us) (EP X zB Y Q) X.xe s:=by
 let r2:zU (vs++dvs) (us++ds):=r.append hd;let hl:(us++ds).length=ps.length:=by rw[<-r2.length];exact F.len _ _ _ _ h
 refine wpAny_call (codeAny_mono (F.run X.A X.stack s H ⟨us,[]⟩ (us++ds) (vs++dvs) Q E hr I.env0 (hb s us I.kIn hl) r2 h) λr s' hq=>?_);cases r with
 |error e=>calc hx zB Y H s e s' I hq
 |ok fl=>
  cases fl with
  |ret u=>calc I.after hq
  |next=>calc False.elim hq
  |brk=>calc False.elim hq
  |cont=>calc False.elim hq
def T5 (F:FnOk X.prog X.w X.K X.mg X.base CX k f fd ps sp) (hr:Room k X.A) (hg:Gl X x) (hm:X.mg x=some (.ref f)) (hk:PySem.W.keepIn X.K (.ref f)=true) (hb:E5 X.K fd ps ds) (hd:zU dvs ds) (hx:J9 CX X E)
  (ha:PA X (e::es) t) (hdb:(x==("__debug__" : Str))=false:=by decide) (he:starEach (e::es) X.env=(false,eval e X.env)::starEach es X.env:=by rfl) (hpl:(backTo pos (starEach es X.env)).any (·.1)=false:=by rfl) :
  PE X (.Call (.Name x p) (e::es) [] pos) (SA sp dvs E t):=by
 intro zB s Y H Q I h;calc wpAny_Call_Name_kw (Y9 I hg hm ?_ hdb);refine PySem.W.callWith_K (h₀:=X.base) I.ok.mod.kin hk (thn (ha pos zB s Y H _ I h) λus s1 ⟨vs,H1,I1,r,q⟩=>⟨I1.kIn,?_⟩) he hpl;calc Sn F hr hb hd hx I1 r q
end
structure FnScope (N P:Yk) (sc:Y0):Prop where
 kind:sc.kind=.function
 co:sc.isCoroutine=false
 gen:sc.isGenerator=false
 nd:N.Nodup
 pre:N.take P.length=P
 par:∀ x∈P,sc.names.lookup x=some .local\/sc.names.lookup x=some .cell
 nofree:∀ y∈sc.names,y.2≠.free
theorem N2 {kindOf:Str->Option NameKind} {x:Str}:∀ {binds:List (Str × Value)} {m:Yh},(∀ v,(x,v)∉binds)->bindL kindOf binds m x=m x
 |[],_,_=>rfl
 | (n,v)::r,m,h=>by
  erw[bindL];rw[N2 λw hw=>h w (Ay _ hw)];split
  .have:x≠n:=by rintro rfl;exact h v Az
   simp[this]
  .rfl
theorem Lq {kindOf:Str->Option NameKind} {x:Str}:∀ {binds:List (Str × Value)} {m:Yh},(∀ v,(x,v)∉binds)->bindC kindOf binds m x=m x
 |[],_,_=>rfl
 | (n,v)::r,m,h=>by
  erw[bindC];rw[Lq λw hw=>h w (Ay _ hw)];split
  .rfl
  .have:x≠n:=by rintro rfl;exact h v Az
   simp[this]
theorem NU {kindOf:Str->Option NameKind} {x:Str} {v:Yu}:∀ {P:Yk} {vs:Yf} {i:Nat} {m:Yh},P.Nodup->P[i]?=some x->vs[i]?=some v->kindOf x=some .local ->
  bindL kindOf (P.zip vs) m x=some v
 |[],_,_,_,_,h,_,_=>by simp at h
 |_::_,[],_,_,_,_,h,_=>by simp at h
 |p::P,w::vs,0,m,nd,h1,h2,hk=>by
  simp at h1 h2;subst h1;subst h2;show bindL kindOf ((p,w)::P.zip vs) m p=_;erw[bindL];rw[N2 λv hv=>(List.nodup_cons.mp nd).1 (List.of_mem_zip hv).1,AD hk];simp
 |p::P,w::vs,i+1,m,nd,h1,h2,hk=>by
  show bindL kindOf ((p,w)::P.zip vs) m x=_;erw[bindL];calc NU (i:=i) (List.nodup_cons.mp nd).2 (~~~h1) (~~~h2) hk
theorem MS {kindOf:Str->Option NameKind} {x:Str} {v:Yu}:∀ {P:Yk} {vs:Yf} {i:Nat} {m:Yh},P.Nodup->P[i]?=some x->vs[i]?=some v->kindOf x≠some .local ->
  bindC kindOf (P.zip vs) m x=some v
 |[],_,_,_,_,h,_,_=>by simp at h
 |_::_,[],_,_,_,_,h,_=>by simp at h
 |p::P,w::vs,0,m,nd,h1,h2,hk=>by
  simp at h1 h2;subst h1;subst h2;show bindC kindOf ((p,w)::P.zip vs) m p=_;erw[bindC];rw[Lq λv hv=>(List.nodup_cons.mp nd).1 (List.of_mem_zip hv).1,AE hk];simp
 |p::P,w::vs,i+1,m,nd,h1,h2,hk=>by
  show bindC kindOf ((p,w)::P.zip vs) m x=_;erw[bindC];calc MS (i:=i) (List.nodup_cons.mp nd).2 (~~~h1) (~~~h2) hk
def start (N:Yk) (vs:List V):St:=vs.map some++List.replicate (N.length-vs.length) none
def Et (CX:CXT) (P:Ym) (w:Yo) (K:Yb) (mg:Yh) (base:Heap) (N:Yk) (qual:Str) (scope:Y0) (f:Yt) (cd:Yu) (A:Yn) (outer:List Env) (s:Yl) (H:Hp) (E:XK):Cx where
 prog:=P
 w:=w
 K:=K
 mg:=mg
 base:=base
 A:=A.deeper (envOfC qual scope ⇑s f cd)
 N:=N
 s₀:=s
 H₀:=H
 env:=envOfC qual scope ⇑s f cd
 outer:=outer
 stack:=envOfC qual scope ⇑s f cd::outer
 ex:=[]
 calm:=true
 fn:=λ_=>true
 pn:=[]
 xe:=λe s'=>wpAny (model P w) (A.deeper (envOfC qual scope ⇑s f cd)) (leaving (envOfC qual scope ⇑s f cd) e) (λ_ s''=>CX outer H s E e s'') (λe' s''=>CX outer H s E e' s'') s'
def JX {sc:Y0} {n:Nat} {x:Str} (h:sc.names.lookup x=some .cell):∃ c,(cellsFrom n sc.names []).lookup x=some c:=by
 let q:=PySem.W.cellsFrom_some sc.names n [] (.inl h);calc Option.isSome_iff_exists.mp q
def X9 {CX:CXT} {P:Ym} {w:Yo} {K:Yb} {mg:Yh} {base:Heap} {N ps:Yk} {qual:Str} {scope:Y0} {f:Yt} {cd:Yu} {A:Yn} {outer:List Env} {s s1:Yl} {H:Hp} {E:XK} {us:Yf} {vs:List V}
  (S:FnScope N ps scope) (hd:A.handled=none) (e0:Env0 P w K mg base A outer s H) (hl:vs.length=ps.length) (r:zU vs us)
  (x:InCallC s ⇑s (bindL (envOfC qual scope ⇑s f cd).kindOf (ps.zip us) λ_=>none) (cellsFrom (⇑s+1) scope.names []) (bindC (envOfC qual scope ⇑s f cd).kindOf (ps.zip us) λ_=>none) s1) :
  Inv (Et CX P w K mg base N qual scope f cd A outer s H E) [] (start N vs) H s1:=by
 let hpl:ps.length<=N.length:=by have:=BC List.length S.pre;rw[BY]at this;omega
 let⟨h1,tk,rfl,hk⟩:=x.done;let noA:∀ b:Addr,b∉(Et CX P w K mg base N qual scope f cd A outer s H E).ex:=λb z=>absurd (show b∈([]:List Addr)from z) (by simp)
 refine ⟨⟨e0.mod,S.kind,rfl,rfl,AF _,λy z c h1 h2=>?_,λy hy=>?_,λy c _ h=>?_,λ_=>hd,Around.frames_deeper e0.frames,.inr ⟨rfl,rfl⟩,λb z=>absurd z (noA b),e0.bs,e0.bsz,λb _ _=>noA b,λb z=>absurd z (noA b),e0.funs,e0.frf⟩,
  rfl,e0.bare,Un.kept hk,⟨_,x.toInCall.ns,λi y v h1 h2 h3=>?_⟩,λy c h=>⟨_,x.cell y c h⟩,e0.hok.fresh (AF _),λy c h=>?_,λp hp=>absurd (show p∈([]:List (Addr × Obj))from hp) (by simp),e0.hok.kept hk,?_⟩
 .exact name_of_addr x.apart (Ct h1) (Ct h2)
 .have hy:scope.names.lookup y=some .cell\/scope.names.lookup y=some .free:=hy;rcases hy with hy|hy
  .exact JX hy
  .exact absurd rfl (S.nofree _ (Ct hy))
 .exact CH (x.above y c (Ct h))
 .have hi:i<vs.length:=by
   erw[start]at h2;by_cases hi:i<vs.length
   .exact hi
   .rw[Dk (~~~hi)]at h2;rw[List.getElem?_replicate]at h2;split at h2 <;> ext h2
  let ha:vs[i]?=some v:=by
   erw[start]at h2;rw[BI (~~~hi),AQ]at h2;cases e:vs[i]? with
   |none=>rw[e]at h2;ext h2
   |some a=>rw[e]at h2;ext h2;rfl
  let⟨u,hu,rv⟩:=r.get ha;let hp:ps[i]?=some y:=by
   rw[<-S.pre,List.getElem?_take_of_lt ()];exact h1
  let ndP:ps.Nodup:=by rw[<-S.pre];exact S.nd.sublist (List.take_sublist _ _)
  calc ⟨u,rv,?_⟩;rcases S.par y (Ax hp)with k|k
  .exact .inl ⟨k,NU ndP hp hu k⟩
  .obtain ⟨c,e⟩:=JX (n:=⇑s+1) k;calc .inr ⟨.inl k,c,e,?_⟩;let q:=x.cell y c e;rw[MS ndP hp hu (by show scope.names.lookup y≠_;rw[k];decide)]at q;exact q
 .exact e0.hok.fresh (CH (x.above y c (Ct h)))
 .unfold start;show _=N.length;rw[BK,AI,List.length_replicate];omega
def V7 {CX:CXT} {P:Ym} {w:Yo} {K:Yb} {mg:Yh} {base:Heap} {k:Nat} {f:Yt} {name qual:Str} {params:Arguments} {body:Yy} {scope:Y0} {dV kV doc pm cdv ct oc:Yu} {an od:Option Addr}
  {osl:Array (Option Value)} {N ps:Yk} {sp:Sp} (lk:K.lookup f=some ⟨oc,od,.func (PySem.W.fnOf name qual params body scope dV kV doc pm an cdv ct),osl⟩) (hcd:PySem.W.codeIn K cdv qual=true) (S:FnScope N ps scope)
  (len:∀ vs H Q E,sp vs H Q E->vs.length=ps.length)
  (hbody:∀ (A:Yn) (outer:List Env) (s:Yl) (H:Hp) (vs:List V) (Q:VK) (E:XK),Room k (A.deeper (envOfC qual scope ⇑s f cdv))->sp vs H Q E ->
   ∃ t,PSs (Et CX P w K mg base N qual scope f cdv A outer s H E) body t/\t { nx:=λ_ H'=>Q .non H',rt:=Q } (start N vs) H) :
  FnOk P w K mg base CX (k+1) f (PySem.W.fnOf name qual params body scope dV kV doc pm an cdv ct) ps sp:=by
 refine ⟨len,λA outer s H args us vs Q E hr e0 hb r hsp=>?_⟩;let hl:=len _ _ _ _ hsp;let KX:K.In s.heap:=e0.mod.kin.keeps λb o e=>(e0.bs b o e).1;let lim:s.heap.NoLimit:=e0.mod.nolimit.keeps λb o e=>(e0.bs b o e).1;let hkind:∀ y∈ps.zip us,scope.names.lookup y.1=some .local\/(scope.names.lookup y.1=some .cell/\((cellsFrom (⇑s+1) scope.names []).lookup y.1).isSome=true):=λ⟨n,v⟩ hy=>by
  rcases S.par n (List.of_mem_zip hy).1 with q|q
  .exact .inl q
  .exact .inr ⟨q,PySem.W.cellsFrom_some _ _ _ (.inl q)⟩
 refine codeAny_call_function hr.depth (KX _ _ lk) rfl S.co S.gen rfl (PySem.W.codeRec_of KX hcd) (hb _ _ _ _ ?_);refine wpAny_newFunctionEnv_cells S.kind hkind λenv he s1 x=>?_;subst he;refine ⟨lim.keeps x.toInCall.keep,codeAny_func ?_⟩;let⟨t,ht,hq⟩:=hbody A outer s H vs Q E (hr.deeper _) hsp;let I:Inv (Et CX P w K mg base N qual scope f cdv A outer s H E) [] (start N vs) H s1:=X9 S hr.hd e0 hl r x;refine Aq (ht [] s1 (start N vs) H _ I hq) (λfl s' hs=>?_) λe s' hs=>hs;let fin:∀ {Y':St} {H':Hp} {v:V} {u:Yu},Inv (Et CX P w K mg base N qual scope f cdv A outer s H E) [] Y' H' s'->za v u->Q v H'->CE outer P w H s Q u s' :=
  λ{Y' H' v u} J rv q=>⟨v,H',J.os,J.bare,J.base,J.hok,rv,q⟩
 cases fl with
 |ret u=>
  let⟨v,Y',H',J,rv,q⟩:=hs;calc fin J rv q
 |next=>
  let⟨Y',H',J,q⟩:=hs;calc fin (v:=V.non) (u:=Value.none) J rfl q
 |brk=>
  let⟨_,_,_,q⟩:=hs;calc False.elim q
 |cont=>
  let⟨_,_,_,q⟩:=hs;calc False.elim q
section
variable {X:Cx} {x:Str} {p pos:Pos} {e:Expr} {es:Yi} {t:TA} {id T:String} {r:List V->Hp->VK->Prop}
def tCB (r:List V->Hp->VK->Prop) (t:TA):TE:=λY H Q=>t Y H λvs H1=>r vs H1 Q
def OB (hc:Cp X (.builtin id) r) (hg:Gl X x) (hm:X.mg x=none) (hv:bootBuiltins x=some (.builtin id)) (ha:PA X (e::es) t) (hn:x ≠ "__name__" := by decide) (hdb:(x==("__debug__" : Str))=false:=by decide)
  (he:starEach (e::es) X.env=(false,eval e X.env)::starEach es X.env:=by rfl) (hpl:(backTo pos (starEach es X.env)).any (·.1)=false:=by rfl):PE X (.Call (.Name x p) (e::es) [] pos) (tCB r t):=by
 intro zB s Y H Q I h;calc wpAny_Call_Name_kw (D5 I hg hm hv ?_ hn hdb);calc PyProof.Rows.callWith_builtin1 (thn (ha pos zB s Y H _ I h) λus s1 ⟨vs,H1,I1,r1,q1⟩=>hc zB s1 Y H1 vs us Q I1 r1 q1) he hpl
def Wq (hc:Cp X (.type T) r) (hg:Gl X x) (hm:X.mg x=none) (hv:bootBuiltins x=some (.type T)) (ha:PA X (e::es) t) (hn:x ≠ "__name__" := by decide) (hdb:(x==("__debug__" : Str))=false:=by decide)
  (he:starEach (e::es) X.env=(false,eval e X.env)::starEach es X.env:=by rfl) (hpl:(backTo pos (starEach es X.env)).any (·.1)=false:=by rfl):PE X (.Call (.Name x p) (e::es) [] pos) (tCB r t):=by
 intro zB s Y H Q I h;calc wpAny_Call_Name_kw (D5 I hg hm hv ?_ hn hdb);calc PyProof.Rows.callWith_type1 (thn (ha pos zB s Y H _ I h) λus s1 ⟨vs,H1,I1,r1,q1⟩=>hc zB s1 Y H1 vs us Q I1 r1 q1) he hpl
end
end L2
namespace HT
open PySem PyProof.Rows
section
variable {prog:Ym} {w:Yo} {A:Yn} {E:Yc} {s:Yl}
def R3 {t b:Yt} {vs ws:Yf} {Q:Yc} (ht:IsTup s.heap t vs.toArray) (hb:IsTup s.heap b ws.toArray) (hv:vs≠[])
  (h1:ws=[]->Q (.ref t) s) (h2:ws≠[]->Q (.ref ⇑s) { s with heap:=s.heap.push { cls:=.type "tuple", data:=.seq (vs++ws).toArray } })
  (hsz:vs.length+ws.length<=sizeLine):wpAny (model prog w) A (binaryOp .Add (.ref t) (.ref b)) Q E s:=by
 let⟨⟨cls,dd,data,sl⟩,ho,hc,n,hd⟩:=id ht;let⟨⟨cls2,dd2,data2,sl2⟩,ho2,hc2,n2,hd2⟩:=id hb;simp only at hc hd hc2 hd2;subst hc hd hc2 hd2;let e:vs.toArray++ws.toArray=(vs++ws).toArray:=by simp
 by_cases hw:ws=[]
 .exact concat_meets ⟨_,ho,rfl⟩ ⟨_,ho2,rfl⟩ noFill_tuple_add seq_tuple_add PySem.F.slot_tuple_add PySem.F.entry_tuple_add (PySem.F.args_tuple_add_2 _ _)
   (tuple_addW1 t b vs.toArray ws.toArray n n2 dd dd2 sl sl2 (~~~hv) (by simp[hw])) ⟨ho,ho2,h1 hw⟩
 .refine concat_meets ⟨_,ho,rfl⟩ ⟨_,ho2,rfl⟩ noFill_tuple_add seq_tuple_add PySem.F.slot_tuple_add PySem.F.entry_tuple_add (PySem.F.args_tuple_add_2 _ _)
   (tuple_addW2 t b vs.toArray ws.toArray n n2 dd dd2 sl sl2 (~~~hv) (~~~hw) (by rw[AS,AS];calc hsz)) ⟨ho,ho2,?_⟩
  rw[e];calc h2 hw
def sIx (n d:Nat):Option Int->Nat
 |none=>d
 |some v=>if v<0 then (v+(n:Int)).toNat else min v.toNat n
def V8 (n d:Nat) (hd:d<=n) (o:Ys):sIx n d o<=n:=by
 cases o with
 |none=>calc hd
 |some v=>
  show (if v<0 then (v+(n:Int)).toNat else min v.toNat n)<=n;by_cases hv:v<0
  .rw[AD hv];omega
  .rw[AE hv];calc Nat.min_le_right _ _
def Lr (v:Int) (n d:Nat):(if v<0 then max (v+(n:Int)) 0 else min v (n:Int))=((sIx n d (some v):Nat):Int):=by
 show (if v<0 then max (v+(n:Int)) 0 else min v (n:Int))=(((if v<0 then (v+(n:Int)).toNat else min v.toNat n):Nat):Int);by_cases hv:v<0
 .simp only[AD hv];omega
 .simp only[AE hv];omega
def TU (lo hi:Ys) (n:Nat):Builtin.Slice.sliceAdjust lo hi 1 (n:Int)=(((sIx n 0 lo:Nat):Int),((sIx n n hi:Nat):Int)):=by
 let h1:¬ ((1:Int)<0):=()
 erw[Builtin.Slice.sliceAdjust];simp only[h1,Ah];refine Prod.ext ?_ ?_
 .cases lo with
  |none=>rfl
  |some v=>exact Lr v n 0
 .cases hi with
  |none=>rfl
  |some v=>calc Lr v n n
def YT (i j:Nat):Builtin.Slice.slicePlaces (i:Int) (j:Int) 1=j-i:=by
 erw[Builtin.Slice.slicePlaces];let h1:(1:Int)>0:=()
 simp only[h1,A4,Int.ediv_one];split <;> omega
def Oy {v:Yu} {o:Ys} {Q:Option Int->Shared->Prop} (p:IsPart v o) (h:Q o s):wpAny (model prog w) A (Builtin.Slice.slicePartIndex v) Q E s:=by
 cases p with
 |none=>calc slicePart_none h
 |int i t=>calc slicePart_int h
def L7 {sl:Yt} {vl vu:Yu} {lo hi:Ys} {n:Nat} {Q:Int × Int × Nat->Shared->Prop} (hs:s.heap.IsSliceOf sl vl vu .none) (pl:IsPart vl lo) (pu:IsPart vu hi)
  (h:Q (((sIx n 0 lo:Nat):Int),1,sIx n n hi-sIx n 0 lo) s):wpAny (model prog w) A (Builtin.Slice.sliceApplied (.ref sl) (pure (n:Int))) Q E s:=by
 let⟨os,hos,hcs,hds⟩:=id hs;erw[Builtin.Slice.sliceApplied,Builtin.Slice.sliceFields];calc AA (AA (CI hos hds (x:=vl) rfl (AA (CI hos hds (x:=vu) rfl (AA (CI hos hds (x:=.none) rfl (AB ?_)))))));calc AA (slicePart_none ?_);show wpAny _ _ (if ((1:Int)==0)=true then _ else _) _ _ s;rw[AE ()];calc AA (Oy pl (AA (Oy pu (AA (AB ?_)))));show wpAny _ _ (match Builtin.Slice.sliceAdjust lo hi 1 (n:Int) with|(lo,hi)=>pure (lo,(1:Int),Builtin.Slice.slicePlaces lo hi 1)) _ _ s;rw[TU lo hi n];show wpAny _ _ (pure (((sIx n 0 lo:Nat):Int),(1:Int),Builtin.Slice.slicePlaces ((sIx n 0 lo:Nat):Int) ((sIx n n hi:Nat):Int) 1)) _ _ s;rw[YT];calc AB h
def YV (xs:Yp) (i k:Nat):((List.range k).filterMap λ(m:Nat)=>xs[((i:Int)+(m:Int)*1).toNat]?).toArray=((xs.toList.drop i).take k).toArray:=by
 let e:(λ(m:Nat)=>xs[((i:Int)+(m:Int)*1).toNat]?)=λm=>xs[i+m]?:=by
  funext m;have:((i:Int)+(m:Int)*1).toNat=i+m:=()
  rw[this]
 rw[e];have:=pick_run xs i k;rw[List.filterMap_map]at this;let e2:((λx=>xs[x]?)∘λx=>i+x)=λm=>xs[i+m]?:=rfl;rw[e2]at this;rw[this]
def T4 {t sl:Yt} {items:Yp} {vl vu:Yu} {lo hi:Ys} {Q:Yc} (ht:IsTup s.heap t items) (hs:s.heap.IsSliceOf sl vl vu .none) (pl:IsPart vl lo) (pu:IsPart vu hi)
  (hw:¬ (sIx items.size 0 lo=0/\sIx items.size items.size hi=items.size))
  (h:Q (.ref ⇑s) { s with heap:=s.heap.push { cls:=.type "tuple", data:=.seq ((items.toList.drop (sIx items.size 0 lo)).take (sIx items.size items.size hi-sIx items.size 0 lo)).toArray } })
  (hsz:items.size<=sizeLine):wpAny (model prog w) A (getItem (.ref t) (.ref sl)) Q E s:=by
 let htake:sizeOk (.seq ((items.toList.drop (sIx items.size 0 lo)).take (sIx items.size items.size hi-sIx items.size 0 lo)).toArray):=by
  show ((items.toList.drop (sIx items.size 0 lo)).take (sIx items.size items.size hi-sIx items.size 0 lo)).toArray.size<=sizeLine;rw[AS,BY,D0,AU];omega
 let hj:sIx items.size items.size hi<=items.size:=V8 _ _ (AF _) hi;let⟨os,hos,hcs,hds⟩:=id hs;let hTs:s.TypeIs (.ref sl) "slice" := ⟨os,hos,hcs⟩;erw[getItem];try with_reducible refine Bl ?_
 first|refine AA (AB ?_)|skip
 refine AA (wpAny_sequenceKey ht.typeIs () ?_)
 refine AA (B6 (name:=Str.ofString "__getitem__") ht.typeIs GR
  (A9 GR ht.typeIs entry_tuple_getitem ?_ (args_tuple_getitem _ _)))
 show wpAny _ _ (Builtin.Tuple.tupleItemsOf (.ref t) >>= _) _ _ s;refine AA (tupleItemsOf_ ht ?_);refine AA (wpAny_typeOf hTs ?_);rw[AD ()];refine AA (L7 hs pl pu ?_);let hno:¬ ((((sIx items.size 0 lo:Nat):Int)==0&&(1:Int)==1&&(sIx items.size items.size hi-sIx items.size 0 lo)==items.size)=true):=by
  intro q;rw[A8,A8]at q;let q1:((sIx items.size 0 lo:Nat):Int)=0:=eq_of_beq q.1.1;let q2:sIx items.size items.size hi-sIx items.size 0 lo=items.size:=eq_of_beq q.2;exact hw ⟨(),()⟩
 show wpAny _ _ (if (((sIx items.size 0 lo:Nat):Int)==0&&(1:Int)==1&&(sIx items.size items.size hi-sIx items.size 0 lo)==items.size)=true then _ else _) _ _ s;rw[AE hno,YV]
 first
  |calc AA (m:=Builtin.Tuple.tupleExact _) (Aw (AB ⟨_,rfl,AB h⟩) htake)
  |calc AA (m:=Builtin.Tuple.tupleExact _) (Aw (AA (AB (AB ⟨_,rfl,AB h⟩))) htake)
  |calc AA (AA (m:=Builtin.Tuple.tupleExact _) (Aw (AB (AB ⟨_,rfl,AB h⟩)) htake))
  |calc AA (AA (m:=Builtin.Tuple.tupleExact _) (Aw (AB ⟨_,rfl,AB h⟩) htake))
end
end HT
namespace L2
abbrev TO:=St->Hp->(Option Int->Hp->Prop)->Prop
def PO (X:Cx) (e:Option Expr) (t:TO):Prop :=
 ∀ (zB:Yd) (s:Yl) (Y:St) (H:Hp) (Q:Option Int->Hp->Prop),Inv X zB Y H s->t Y H Q ->
  wpAny (model X.prog X.w) X.A (evalPart e X.env) (λu s'=>∃ o H',Inv X zB Y H' s'/\IsPart u o/\Q o H') X.xe s
def Q6:TO:=λ_ H Q=>Q none H
def Zg (t:TE):TO:=λY H Q=>t Y H λx H1=>∃ i,x=.int i/\Q (some i) H1
section
variable {X:Cx} {e:Expr} {te:TE} {lo hi:Option Expr} {tl th:TO} {pos p2:Pos}
def RB:PO X none Q6:=by
 intro zB s Y H Q I h;rw[evalPart_none];calc AB ⟨none,H,I,.none,h⟩
def Vt (h:PE X e te):PO X (some e) (Zg te):=by
 intro zB s Y H Q I hw;rw[evalPart_some];refine thn (h zB s Y H _ I hw) λu s1 ⟨x,H1,I1,r1,q1⟩=>?_;let⟨i,rfl,q⟩:=q1;let⟨t,rfl⟩:=r1;calc ⟨some i,H1,I1,.int i t,q⟩
def SlR (X:Cx) (r:V->Option Int->Option Int->Hp->VK->Prop):Prop :=
 ∀ (zB:Yd) (s:Yl) (Y:St) (H:Hp) (x:V) (v vl vu:Yu) (lo hi:Ys) (sl:Yt) (Q:VK),Inv X zB Y H s->za x v->s.heap.IsSliceOf sl vl vu .none->IsPart vl lo->IsPart vu hi->r x lo hi H Q ->
  ∃ T id,typeLookup (.type T) "__getitem__" = pure (some (.builtin id))/\s.TypeIs v T/\wpAny (model X.prog X.w) X.A (getItem v (.ref sl)) (EP X zB Y Q) X.xe s
def SlR.or {r r':V->Option Int->Option Int->Hp->VK->Prop} (h:SlR X r) (h':SlR X r'):SlR X (λx lo hi H Q=>r x lo hi H Q\/r' x lo hi H Q):=by
 intro zB s Y H x v vl vu lo hi sl Q I rx hs pl pu q;rcases q with q|q
 .exact h zB s Y H x v vl vu lo hi sl Q I rx hs pl pu q
 .exact h' zB s Y H x v vl vu lo hi sl Q I rx hs pl pu q
def tSl (r:V->Option Int->Option Int->Hp->VK->Prop) (te:TE) (tl th:TO):TE:=λY H Q=>te Y H λx H1=>tl Y H1 λl H2=>th Y H2 λu H3=>r x l u H3 Q
def WI {r:V->Option Int->Option Int->Hp->VK->Prop} (hr:SlR X r) (he:PE X e te) (hl:PO X lo tl) (hu:PO X hi th):PE X (.Subscript e (.Slice lo hi none p2) pos) (tSl r te tl th):=by
 intro zB s Y H Q I h;refine Subscript_ (thn (he zB s Y H _ I h) λv s1 ⟨x,H1,I1,r1,q1⟩=>?_);refine wpAny_Slice (thn (hl zB s1 Y H1 _ I1 q1) λvl s2 ⟨l,H2,I2,pl,q2⟩=>thn (hu zB s2 Y H2 _ I2 q2) λvu s3 ⟨u,H3,I3,pu,q3⟩=>?_);rw[evalPart_none];calc AB ?_;let I4:Inv X zB Y H3 { s3 with heap:=s3.heap.push { cls:=.type "slice", data:=.fields #[vl,vu,.none] } }:=I3.kept (t':=s3.toks) λb ob q=>AH _ q;let⟨T,id,hT,ht,hg⟩:=hr zB { s3 with heap:=s3.heap.push { cls:=.type "slice", data:=.fields #[vl,vu,.none] } } Y H3 x v vl vu l u ⇑s3 Q I4 r1 (Heap.IsSliceOf.new ..) pl pu q3;show wpAny (model X.prog X.w) X.A (subscriptTail e (.Slice lo hi none p2) v (.ref ⇑s3)) (EP X zB Y Q) X.xe { s3 with heap:=s3.heap.push { cls:=.type "slice", data:=.fields #[vl,vu,.none] } };calc tail_any (ops:=[.ref ⇑s3,v]) ht hT hg (by with_unfolding_all rfl)
def Ee (xs:List V) (lo hi:Ys):List V:=(xs.drop (HT.sIx xs.length 0 lo)).take (HT.sIx xs.length xs.length hi-HT.sIx xs.length 0 lo)
def MA (xs:List V) (lo hi:Ys):(Ee xs lo hi).length<=xs.length:=by
 erw[Ee];rw[BY,D0];omega
def VG (K:Yb):V->Option Int->Option Int->Hp->VK->Prop:=λx lo hi H Q=>∃ a xs,x=.ref a/\SqT K H a xs /\
 ¬ (HT.sIx xs.length 0 lo=0/\HT.sIx xs.length xs.length hi=xs.length) /\ ∀ p,H p=none->Q (.ref p) (upd H p (.tup (Ee xs lo hi)))
def Vw:SlR X (VG X.K):=by
 intro zB s Y H x v vl vu lo hi sl Q I rx hs pl pu h;let⟨a,xs,rfl,hx,hw,q⟩:=h;ext rx;let⟨its,r,ht,hz⟩:=I.tuple hx;let hlen:its.toArray.size=xs.length:=by rw[AS];exact r.length.symm
 calc ⟨"tuple", _,GR.lookup,ht.typeIs,?_⟩;calc HT.T4 ht hs pl pu (by rw[hlen];calc hw) ?_ (by rw[hlen];calc hz);rw[hlen];refine ⟨.ref ⇑s,_,I.laid (t':=s.toks) (o:=.tup (Ee xs lo hi)) (λb ob q=>AH _ q) (AF _) ?_,rfl,q _ (I.hok.fresh (AF _))⟩;calc ⟨An (MA xs lo hi) hz,_,(r.drop (HT.sIx xs.length 0 lo)).take (HT.sIx xs.length xs.length hi-HT.sIx xs.length 0 lo),Dl.new _ _⟩
def Pq (K:Yb):R2:=λx y H Q=>∃ a b xs ys,x=.ref a/\y=.ref b/\SqT K H a xs/\SqT K H b ys/\xs≠[]/\xs.length+ys.length<=sizeLine /\
 (ys=[]->Q (.ref a) H)/\(ys≠[] -> ∀ p,H p=none->Q (.ref p) (upd H p (.tup (xs++ys))))
def zU.nil_iff {xs:List V} {us:Yf} (r:zU xs us):us=[] ↔ xs=[]:=by
 cases r with
 |nil=>simp
 |cons _ _=>simp
def VZ:OpR X (binaryOp .Add) (Pq X.K):=by
 intro zB s Y H x y v u Q I rx ry h;let⟨a,b,xs,ys,rfl,rfl,ha,hb,hx,hz,q1,q2⟩:=h;ext rx;ext ry;let⟨its,r1,p1,_⟩:=I.tuple ha;let⟨its2,r2,p2,_⟩:=I.tuple hb;refine HT.R3 p1 p2 (λz=>hx (r1.nil_iff.mp z)) (λz=>⟨.ref a,H,I,rfl,q1 (r2.nil_iff.mp z)⟩) (λz=>?_) (by rw[<-r1.length,<-r2.length];calc hz);refine ⟨.ref ⇑s,_,I.laid (t':=s.toks) (o:=.tup (xs++ys)) (λb ob q=>AH _ q) (AF _) ?_,rfl,q2 (λw=>z (r2.nil_iff.mpr w)) _ (I.hok.fresh (AF _))⟩;calc ⟨by rw[BK];calc hz,_,r1.append r2,Dl.new _ _⟩
end
def ixN (n:Nat) (i:Int):Option Nat:=if 0<=i then (if i<n then some i.toNat else none) else if -(n:Int)<=i then some (i+n).toNat else none
def atI {α:Type} (xs:List α) (i:Int):Option α:=(ixN xs.length i).bind λj=>xs[j]?
def Jm {n:Nat} {i:Int} {j:Nat} (h:ixN n i=some j):seqIndex? i n=some j/\j<n /\ -(n:Int)<=i/\i<n:=by
 erw[ixN]at h;by_cases h0:0<=i
 .rw[AD h0]at h;by_cases h1:i<n
  .rw[AD h1]at h;let e:i.toNat=j:=BG h;exact ⟨by rw[seqIndex_of h0 h1,e],(),(),h1⟩
  .rw[AE h1]at h;ext h
 .rw[AE h0]at h;by_cases h1 : -(n:Int)<=i
  .rw[AD h1]at h;let e:(i+n).toNat=j:=BG h;exact ⟨by rw[seqIndex_neg () h1,e],(),h1,()⟩
  .rw[AE h1]at h;ext h
def Jb {α:Type} {xs:List α} {i:Int} {v:α} (h:atI xs i=some v):∃ j,seqIndex? i xs.length=some j/\xs[j]?=some v/\j<xs.length /\ -(xs.length:Int)<=i/\i<xs.length:=by
 erw[atI]at h;cases e:ixN xs.length i with
 |none=>rw[e]at h;ext h
 |some j=>
  rw[e]at h;let⟨h1,h2,h3,h4⟩:=Jm e;calc ⟨j,h1,h,h2,h3,h4⟩
def GN {α:Type} {xs:List α} {j:Nat} {v:α} (h:xs[j]?=some v):atI xs (j:Int)=some v:=by
 let hj:j<xs.length:=(AK.mp h).1;let e:ixN xs.length (j:Int)=some j:=by
  erw[ixN];rw[AD (),AD ()];simp
 erw[atI];rw[e];calc h
def N0 (b:Expr):Prop:=∀ o i,subscripted b false o i=operate [o,i] (getItem o i)
def IxR (X:Cx) (r:R2):Prop :=
 ∀ (value slice:Expr) (zB:Yd) (s:Yl) (Y:St) (H:Hp) (x y:V) (v u:Yu) (Q:VK),Inv X zB Y H s->za x v->za y u->r x y H Q ->
  subscripted slice false v u=operate [v,u] (getItem v u)->wpAny (model X.prog X.w) X.A (subscriptTail value slice v u) (EP X zB Y Q) X.xe s
def MtR (X:Cx) (id:String) (r:V->List V->Hp->VK->Prop):Prop :=
 ∀ (zB:Yd) (s:Yl) (Y:St) (H:Hp) (x:V) (xs:List V) (v:Yu) (us:Yf) (Q:VK),Inv X zB Y H s->za x v->zU xs us->r x xs H Q ->
  wpAny (model X.prog X.w) X.A (call (.builtin id) (v::us)) (EP X zB Y Q) X.xe s
section
variable {X:Cx} {a b:Expr} {ta tb:TE} {pos:Pos}
def IxR.or {r r':R2} (h:IxR X r) (h':IxR X r'):IxR X (λx y H Q=>r x y H Q\/r' x y H Q):=by
 intro value slice zB s Y H x y v u Q I rx ry q hs;rcases q with q|q
 .exact h value slice zB s Y H x y v u Q I rx ry q hs
 .exact h' value slice zB s Y H x y v u Q I rx ry q hs
def Xi {r:R2} (hr:IxR X r) (ha:PE X a ta) (hb:PE X b tb) (hs:N0 b):PE X (.Subscript a b pos) (tOp r ta tb):=by
 intro zB s Y H Q I h;calc Subscript_ (LK ha hb I h λv u s2 x y H2 I2 rx ry q=>hr a b zB s2 Y H2 x y v u Q I2 rx ry q (hs _ _))
def LZ (K:Yb):R2:=λx y H Q=>∃ p xs i v,x=.ref p/\y=.int i/\SqL K H p xs/\atI xs i=some v/\Q v H
def Pf (K:Yb):R2:=λx y H Q=>∃ p xs i v,x=.ref p/\y=.int i/\SqT K H p xs/\atI xs i=some v/\Q v H
def La:R2:=λx y H Q=>∃ z i c,x=.str z/\y=.int i/\z.length<=sizeLine/\atI z.cps.toList i=some c/\Q (.str ⟨#[c]⟩) H
def Td:IxR X (LZ X.K):=by
 intro value slice zB s Y H x y v u Q I rx ry h hs;let⟨p,xs,i,z,rfl,rfl,hq,he,q⟩:=h;ext rx;let⟨t,rfl⟩:=ry;let⟨its,r,pl,hz⟩:=I.list hq;let⟨j,h1,h2,h3,h4,h5⟩:=Jb he;let⟨w,ew,rw'⟩:=r.get h2;let hl:=r.length;let hn:=Fy;let fin:EP X zB Y Q w s:=⟨z,H,I,rw',q⟩;by_cases h0:0<=i
 .have hj:i.toNat=j:=by
   rw[seqIndex_of h0 h5]at h1;exact BG h1
  exact item_listR pl.isList h0 () (by rw[hj];simpa using ew) fin hs
 .have hj:(i+(its.toArray.size:Int)).toNat=j:=by
   rw[seqIndex_neg () h4]at h1;rw[AS,<-hl];exact BG h1
  exact subscriptTail_builtinR (x:=w) pl.isList.typeIs slot_list_getitem.lookup
   (wpAny_getItem_list_neg (Q:=λr s'=>r=w/\EP X zB Y Q r s') pl.isList () (by rw[AS] <;> omega) () (by rw[hj];simpa using ew) ⟨rfl,fin⟩) hs
def RL:IxR X (Pf X.K):=by
 intro value slice zB s Y H x y v u Q I rx ry h hs;let⟨p,xs,i,z,rfl,rfl,hq,he,q⟩:=h;ext rx;let⟨t,rfl⟩:=ry;let⟨its,r,pl,hz⟩:=I.tuple hq;let⟨j,h1,h2,h3,h4,h5⟩:=Jb he;let⟨w,ew,rw'⟩:=r.get h2;let hl:=r.length;let hn:=Fy;let fin:EP X zB Y Q w s:=⟨z,H,I,rw',q⟩
 exact subscriptTail_builtinR (x:=w) pl.typeIs slot_tuple_getitem.lookup
  (getItem_tuple (j:=j) (Q:=λr s'=>r=w/\EP X zB Y Q r s') pl () () (by rw[AS,<-hl];calc h1) (~~~ew) ⟨rfl,fin⟩) hs
def YF:IxR X La:=by
 intro value slice zB s Y H x y v u Q I rx ry h hs;let⟨z,i,c,rfl,rfl,hz,he,q⟩:=h;let⟨t,rfl⟩:=rx;let⟨t',rfl⟩:=ry;let⟨j,h1,h2,h3,h4,h5⟩:=Jb he;let hl:z.cps.toList.length=z.length:=by simp[Str.length]
 rw[hl]at h1 h4 h5;let hn:=Fy;exact tail_any (typeIs_str s z t) slot_str_getitem.lookup (getItem_str (c:=c) (by
  let e1:decide (i < -(2 ^ 63:Int))=false:=A6 ();let e2:decide (i≥2 ^ 63)=false:=A6 ();rw[e1,e2,Bool.or_false]) (by rw[h1];simpa using h2) ⟨.str ⟨#[c]⟩,H,I.tok _,⟨_,rfl⟩,q⟩) hs
def rIx (K:Yb):R2:=λx y H Q=>LZ K x y H Q\/Pf K x y H Q\/La x y H Q
def YU:IxR X (rIx X.K):=Td.or (RL.or YF)
def Ro (its:List Value) (n j:Nat) (u:Value):Obj.mapSeq (·.setIfInBounds j u) { cls:=.type "list", data:=.seq its.toArray n }={ cls:=.type "list", data:=.seq (its.set j u).toArray n }:=by
 simp[Obj.mapSeq]
def Inv.lst {zB:Yd} {Y:St} {H:Hp} {s:Yl} {p:Yt} {xs:List V} (I:Inv X zB Y H s) (h:H p=some (.lst xs)) :
  ∃ (its:List Value) (n:Nat),zU xs its/\s.heap.get? p=some { cls:=.type "list", data:=.seq its.toArray n }/\xs.length<=sizeLine:=by
 let⟨z,its,n,r,e⟩:=I.hok p _ h;calc ⟨its,n,r,e,z⟩
def Inv.lstUpd {zB:Yd} {Y:St} {H:Hp} {s:Yl} {p:Yt} {xs ys:List V} {its its':Yf} {n n':Nat} {f:Obj->Obj} (I:Inv X zB Y H s) (h:H p=some (.lst xs))
  (ho:s.heap.get? p=some { cls:=.type "list", data:=.seq its.toArray n }) (hf:f { cls:=.type "list", data:=.seq its.toArray n }={ cls:=.type "list", data:=.seq its'.toArray n' }) (r:zU ys its') (hz:ys.length<=sizeLine) (t:Nat) :
  Inv X zB Y (upd H p (.lst ys)) { s with heap:=s.heap.update p f,toks:=t }:=by
 let e:(s.heap.update p f).get? p=some { cls:=.type "list", data:=.seq its'.toArray n' }:=by
  rw[B8 f ho (by rw[hf] <;> rfl),hf]
 refine I.write (x:=p) (e:=p) (by rw[h];trivial) (.inl rfl) (λb u hb q=>(CG _ _ (Ne.symm hb)).trans q) ⟨_,e⟩ ?_;calc ⟨hz,its',n',r,e⟩
def RJ:V->V->V->Hp->(Hp->Prop)->Prop:=λo i v H Q=>∃ p xs k j,o=.ref p/\i=.int k/\H p=some (.lst xs)/\ixN xs.length k=some j/\Q (upd H p (.lst (xs.set j v)))
def W9:NH X RJ:=by
 intro zB s Y H o i v ov iv u Q I ro ri rv h;let⟨p,xs,k,j,rfl,rfl,hp,hj,q⟩:=h;ext ro;let⟨t,rfl⟩:=ri;let⟨its,n,r,ho,hz⟩:=I.lst hp;let⟨h1,h2,h3,h4⟩:=Jm hj;let hl:=r.length;let hn:=Fy;let I':Inv X zB Y (upd H p (.lst (xs.set j v))) { s with heap:=s.heap.update p (Obj.mapSeq (·.setIfInBounds j u)) } :=
  I.lstUpd hp ho (Ro its n j u) (r.set rv j) (by rw[Ck];calc hz) s.toks
 by_cases h0:0<=k
 .have hk:k.toNat=j:=by
   rw[seqIndex_of h0 h4]at h1;exact BG h1
  exact PySem.W.ki_setAt ho h0 () (by rw[AS,<-hl];calc h4) (by rw[hk];calc ⟨_,I',q⟩)
 .have hk:(k+(its.toArray.size:Int)).toNat=j:=by
   rw[seqIndex_neg () h3]at h1;rw[AS,<-hl];exact BG h1
  calc PySem.W.ki_setBack ho () (by rw[AS,<-hl];calc h3) () (by rw[hk];calc ⟨_,I',q⟩)
def Th (lo hi:Ys) (n:Nat):(sliceBounds lo hi none n).1=((HT.sIx n 0 lo:Nat):Int)/\(sliceBounds lo hi none n).2.1=((HT.sIx n n hi:Nat):Int)/\(sliceBounds lo hi none n).2.2=1:=by
 refine ⟨?_,?_,rfl⟩
 .cases lo with
  |none=>simp[sliceBounds,HT.sIx]
  |some i=>
   simp only[sliceBounds,HT.sIx,Option.getD_none,show (1:Int)>0 by decide,A4];by_cases h:i<0
   .simp only[h,A4] <;> omega
   .simp only[h,Ah] <;> omega
 .cases hi with
  |none=>simp[sliceBounds,HT.sIx]
  |some i=>
   simp only[sliceBounds,HT.sIx,Option.getD_none,show (1:Int)>0 by decide,A4];by_cases h:i<0
   .simp only[h,A4] <;> omega
   .simp only[h,Ah] <;> omega
def ZI (its:Yf) (lo hi:Ys):slicePick its.toArray lo hi none=((its.drop (HT.sIx its.length 0 lo)).take (HT.sIx its.length its.length hi-HT.sIx its.length 0 lo)).toArray:=by
 let⟨h1,h2,h3⟩:=Th lo hi its.toArray.size;erw[slicePick];rw[h1,h2,h3];simp only[sliceRange_one,pick_run,AS] <;> rfl
def YJ (K:Yb):V->Option Int->Option Int->Hp->VK->Prop:=λx lo hi H Q=>∃ a xs,x=.ref a/\SqL K H a xs /\ ∀ p,H p=none->Q (.ref p) (upd H p (.lst (Ee xs lo hi)))
def SI:SlR X (YJ X.K):=by
 intro zB s Y H x v vl vu lo hi sl Q I rx hs pl pu h;let⟨a,xs,rfl,hx,q⟩:=h;ext rx;let⟨its,r,ht,hz⟩:=I.list hx;let hlen:=r.length;calc ⟨"list", _,slot_list_getitem.lookup,ht.isList.typeIs,?_⟩;refine wpAny_getItem_list_slice ht.isList hs pl pu .none (by simp) ?_ (by rw[AS] <;> omega);rw[ZI,<-hlen];refine ⟨.ref ⇑s,_,I.laid (t':=s.toks) (o:=.lst (Ee xs lo hi)) (λb ob q=>AH _ q) (AF _) ?_,rfl,q _ (I.hok.fresh (AF _))⟩;calc ⟨An (MA xs lo hi) hz,_,0,(r.drop (HT.sIx xs.length 0 lo)).take (HT.sIx xs.length xs.length hi-HT.sIx xs.length 0 lo),AN _ rfl⟩
def Ds:V->Bool
 |.non=>true
 |.bl _=>true
 |.int _=>true
 |.str _=>true
 |_=>false
def eqV:V->V->Bool
 |.non,.non=>true
 |.bl a,.bl b=>a==b
 |.bl a,.int b=>(if a then 1 else 0)==b
 |.int a,.bl b=>a==(if b then 1 else 0)
 |.int a,.int b=>a==b
 |.str a,.str b=>a==b
 |_,_=>false
def Tc {A:Yn} {s:Yl} {y x:V} {u v:Yu} (ry:za y u) (rx:za x v) (fy:Ds y=true) (fx:Ds x=true):SeqAt.EqAt A s u v (eqV y x):=by
 cases y with
 |non=>
  ext ry;cases x with
  |non=>ext rx;calc SeqAt.EqAt.same _
  |bl b=>ext rx;calc SeqAt.EqAt.none_bool b
  |int b=>let⟨t,rfl⟩:=rx;calc SeqAt.EqAt.none_int b t
  |str b=>let⟨t,rfl⟩:=rx;calc SeqAt.EqAt.none_str b t
  |_=>calc absurd (show false=true from fx) Av
 |bl a=>
  ext ry;cases x with
  |non=>ext rx;calc SeqAt.EqAt.bool_none a
  |bl b=>ext rx;calc SeqAt.EqAt.bool_bool a b
  |int b=>let⟨t,rfl⟩:=rx;calc SeqAt.EqAt.bool_int a b t
  |str b=>let⟨t,rfl⟩:=rx;calc SeqAt.EqAt.bool_str a b t
  |_=>calc absurd (show false=true from fx) Av
 |int a=>
  let⟨t',rfl⟩:=ry;cases x with
  |non=>ext rx;calc SeqAt.EqAt.int_none a t'
  |bl b=>ext rx;calc SeqAt.EqAt.int_bool a t' b
  |int b=>let⟨t,rfl⟩:=rx;calc SeqAt.EqAt.int_int a t' b t
  |str b=>let⟨t,rfl⟩:=rx;calc SeqAt.EqAt.int_str a t' b t
  |_=>calc absurd (show false=true from fx) Av
 |str a=>
  let⟨t',rfl⟩:=ry;cases x with
  |non=>ext rx;calc SeqAt.EqAt.str_none a t'
  |bl b=>ext rx;calc SeqAt.EqAt.str_bool a t' b
  |int b=>let⟨t,rfl⟩:=rx;calc SeqAt.EqAt.str_int a t' b t
  |str b=>let⟨t,rfl⟩:=rx;calc SeqAt.EqAt.str_str a t' b t
  |_=>calc absurd (show false=true from fx) Av
 |_=>calc absurd (show false=true from fy) Av
def eqU (x:V) (u:Yu):Bool:=match u with
 |.none=>eqV .non x
 |.bool b=>eqV (.bl b) x
 |.int i _=>eqV (.int i) x
 |.str z _=>eqV (.str z) x
 |_=>false
def Lx {x y:V} {u:Yu} (r:za y u) (f:Ds y=true):eqU x u=eqV y x:=by
 cases y with
 |non=>ext r;rfl
 |bl b=>ext r;rfl
 |int i=>let⟨t,rfl⟩:=r;rfl
 |str z=>let⟨t,rfl⟩:=r;rfl
 |_=>calc absurd (show false=true from f) Av
theorem HC {x:V}:∀ {xs:List V} {us:Yf},zU xs us->xs.all Ds=true->us.any (eqU x)=xs.any λy=>eqV y x
 |_,_,.nil,_=>rfl
 |y::xs,u::us,.cons r t,f=>by
  rw[List.all_cons,A8]at f;rw[List.any_cons,List.any_cons,Lx r f.1,HC t f.2]
theorem Gb {A:Yn} {s:Yl} {x:V} {v:Yu} (rx:za x v) (fx:Ds x=true):∀ {xs:List V} {us:Yf},zU xs us->xs.all Ds=true -> ∀ u∈us,SeqAt.EqAt A s u v (eqU x u)
 |_,_,.nil,_=>λu hu=>by ext hu
 |y::xs,u::us,.cons r t,f=>λu' hu=>by
  rw[List.all_cons,A8]at f;rcases AL.mp hu with rfl|hu
  .rw[Lx r f.1];exact Tc r rx f.1 fx
  .exact Gb rx fx t f.2 u' hu
def inV (x:V) (xs:List V):Bool:=xs.any λy=>eqV y x
def rIn (K:Yb) (neg:Bool):R2:=λx y H Q=>∃ p xs,y=.ref p/\(SqL K H p xs\/SqT K H p xs)/\Ds x=true/\xs.all Ds=true/\Q (.bl (if neg then !inV x xs else inV x xs)) H
def L5:OpR X (compareOp .In) (rIn X.K false):=by
 intro zB s Y H x y v u Q I rx ry h;let⟨p,xs,rfl,hq,fx,fs,q⟩:=h;ext ry;rcases hq with hq|hq
 .obtain ⟨its,r,pl,hz⟩:=I.list hq;refine SeqAt.in_listAt (eqU x) pl.isList (λw hw=>Gb rx fx r fs w (~~~hw)) ⟨.bl _,H,I,rfl,?_⟩;rw[show its.toArray.any (eqU x)=its.any (eqU x) by simp,HC r fs];exact q
 .obtain ⟨its,r,pl,hz⟩:=I.tuple hq;refine SeqAt.in_tupleAt (eqU x) pl (λw hw=>Gb rx fx r fs w (~~~hw)) ⟨.bl _,H,I,rfl,?_⟩;rw[show its.toArray.any (eqU x)=its.any (eqU x) by simp,HC r fs];calc q
def Wz:OpR X (compareOp .NotIn) (rIn X.K true):=by
 intro zB s Y H x y v u Q I rx ry h;let⟨p,xs,rfl,hq,fx,fs,q⟩:=h;ext ry;rcases hq with hq|hq
 .obtain ⟨its,r,pl,hz⟩:=I.list hq;refine SeqAt.notIn_listAt (eqU x) pl.isList (λw hw=>Gb rx fx r fs w (~~~hw)) ⟨.bl _,H,I,rfl,?_⟩;rw[show its.toArray.any (eqU x)=its.any (eqU x) by simp,HC r fs];exact q
 .obtain ⟨its,r,pl,hz⟩:=I.tuple hq;refine SeqAt.notIn_tupleAt (eqU x) pl (λw hw=>Gb rx fx r fs w (~~~hw)) ⟨.bl _,H,I,rfl,?_⟩;rw[show its.toArray.any (eqU x)=its.any (eqU x) by simp,HC r fs];calc q
def Ra:Cp X (.builtin "len") (λxs H Q=>∃ p ys,xs=[.ref p]/\(SqL X.K H p ys\/SqT X.K H p ys)/\Q (.int ys.length) H):=by
 intro zB s Y H xs us Q I r h;let⟨p,ys,rfl,hq,q⟩:=h;let⟨u,rfl,rx⟩:=F5 r;ext rx;let hn:=Fy;rcases hq with hq|hq
 .obtain ⟨its,r',pl,hz⟩:=I.list hq;let hlen:=r'.length;exact Calls.call_len_list pl.isList (by simp only[AS] <;> omega) ⟨.int ys.length,H,I.tok _,⟨s.toks+1,by rw[AS,hlen]⟩,q⟩
 .obtain ⟨its,r',pl,hz⟩:=I.tuple hq;let hlen:=r'.length;exact len_tuple pl (by simp only[AS] <;> omega) ⟨.int ys.length,H,I.tok _,⟨s.toks+1,by rw[AS,hlen]⟩,q⟩
def Vq:Cp X (.type "tuple") (λxs H Q=>∃ p ys,xs=[.ref p]/\((SqL X.K H p ys /\ ∀ l,H l=none->Q (.ref l) (upd H l (.tup ys)))\/(SqT X.K H p ys/\Q (.ref p) H))):=by
 intro zB s Y H xs us Q I r h;let⟨p,ys,rfl,h⟩:=h;let⟨u,rfl,rx⟩:=F5 r;ext rx;rcases h with ⟨hq,q⟩|⟨hq,q⟩
 .obtain ⟨its,r',pl,hz⟩:=I.list hq;let hlen:=r'.length;refine call_tuple_list pl.isList (λh' kp=>?_) (by simp only[AS] <;> omega);let I1:Inv X zB Y H { s with heap:=h' }:=I.kept (t':=s.toks) kp;let I2:Inv X zB Y (upd H h'.objs.size (.tup ys)) { s with heap:=h'.push { cls:=.type "tuple", data:=.seq its.toArray } } :=
   I1.laid (t':=s.toks) (λb o e=>AH _ e) (AF _) (show Ag X.prog X.w _ _ _ (.tup ys)from ⟨hz,its,r',Dl.new _ _⟩)
  exact ⟨.ref h'.objs.size,_,I2,rfl,q _ (I1.hok.fresh (AF _))⟩
 .obtain ⟨its,r',pl,hz⟩:=I.tuple hq;calc call_tuple_same pl ⟨.ref p,H,I,rfl,q⟩
def tyV (K:Yb) (T:String) (x:V) (H:Hp):Prop:=match x with
 |.str _=>T = "str"
 |.int _=>T = "int"
 |.ref p=>(T = "list" /\ ∃ xs,SqL K H p xs)\/(T = "tuple" /\ ((∃ o,K.lookup p=some o/\o.cls=.type "tuple" /\ o.dict=none) \/ ∃ xs,H p=some (.tup xs))) \/
   (T = "dict" /\ ((∃ kvs,H p=some (.dK kvs)) \/ ∃ kvs,H p=some (.dT kvs)))\/(T = "set" /\ ∃ S n,H p=some (.set S n))
 |_=>False
def X8 {zB:Yd} {Y:St} {H:Hp} {s:Yl} {T:String} {x:V} {v:Yu} (I:Inv X zB Y H s) (r:za x v) (ty:tyV X.K T x H) :
  s.TypeIs v T /\ ∀ a,v=.ref a -> ∃ ob,s.heap.get? a=some ob/\ob.dict=none:=by
 cases x with
 |str z=>
  let⟨t,rfl⟩:=r;cases (show T = "str" from ty);exact ⟨typeIs_str s z t,λ_ e=>nomatch e⟩
 |int i=>
  let⟨t,rfl⟩:=r;cases (show T = "int" from ty);exact ⟨typeIs_int s i t,λ_ e=>nomatch e⟩
 |ref p=>
  ext r;rcases ty with ⟨rfl,xs,hq⟩|⟨rfl,⟨o,hk,hc,hd⟩|⟨xs,hq⟩⟩|⟨rfl,hk⟩|⟨rfl,S,n,hk⟩
  .obtain ⟨its,_,pl,_⟩:=I.list hq;refine ⟨pl.isList.typeIs,λa e=>?_⟩;ext e;let⟨o,n,e,c,hd,_⟩:=pl;exact ⟨o,e,hd⟩
  .refine ⟨⟨o,I.kIn p o hk,hc⟩,λa e=>?_⟩;ext e;exact ⟨o,I.kIn _ o hk,hd⟩
  .obtain ⟨_,its,_,o,e,c,_,hd⟩:=I.hok p _ hq;refine ⟨⟨o,e,c⟩,λa e2=>?_⟩;ext e2;exact ⟨o,e,hd⟩
  .have z:∃ o,s.heap.get? p=some o/\o.ExactDict:=by
    rcases hk with ⟨kvs,hk⟩|⟨kvs,hk⟩
    .obtain ⟨_,_,_,_,o,_,_,e,ex,_⟩:=I.hok p _ hk;exact ⟨o,e,ex⟩
    .obtain ⟨_,_,_,_,o,_,_,e,ex,_⟩:=I.hok p _ hk;exact ⟨o,e,ex⟩
   let⟨o,e,ex⟩:=z;refine ⟨⟨o,e,ex.1⟩,λa e2=>?_⟩;ext e2;exact ⟨o,e,ex.2.1⟩
  .obtain ⟨o,_,_,_,e,ex,_⟩:=I.hok p _ hk;refine ⟨⟨o,e,ex.1⟩,λa e2=>?_⟩;ext e2;calc ⟨o,e,ex.2.1⟩
 |_=>calc False.elim ty
def tBM (K:Yb) (T:String) (r:V->List V->Hp->VK->Prop) (to:TE) (t:TA):TE:=λY H Q=>to Y H λx H1=>tyV K T x H1/\t Y H1 λxs H2=>r x xs H2 Q
variable {o e:Expr} {es:Yi} {to:TE} {t:TA} {name:Str} {apos cpos:Pos} {T id:String} {r:V->List V->Hp->VK->Prop}
def Pc (pa:PlainAttrs T) (slot:Slot T name id) (hty:typeOf (.builtin id)=pure (.type "method_descriptor")) (hm:MtR X id r) (ho:PE X o to) (ha:PA X (e::es) t)
  (hbase:attributeBase o name X.env (eval o X.env)=eval o X.env:=by rfl)
  (hfew:((backTo cpos (starEach (e::es) X.env)).all (λx=> !x.1)&&(backToKw cpos (keywordEach [] X.env)).all (λx=>x.1.isSome)
   && decide ((e::es).length+([]:List Keyword).length+(if ([]:List Keyword).isEmpty then 0 else 1)<30))=true:=by rfl)
  (hline:(apos.endLine==cpos.line)=true:=by rfl) (hs:starEach (e::es) X.env=(false,eval e X.env)::starEach es X.env:=by rfl) (hplain:(backTo cpos (starEach es X.env)).any (·.1)=false:=by rfl) :
  PE X (.Call (.Attribute o name apos) (e::es) [] cpos) (tBM X.K T r to t):=by
 intro zB s Y H Q I h;refine wpAny_Call_method_late hbase hfew hline rfl (thn (ho zB s Y H _ I h) λv s1 ⟨x,H1,I1,r1,ty,q1⟩=>?_);let⟨h1,h2⟩:=X8 I1 r1 ty;calc ⟨T,id,pa,slot,hty,h1,h2,?_⟩;let hA:=ha cpos zB s1 Y H1 _ I1 q1;rw[hs]at hA ⊢;refine Calls.callWith_builtin (by show (false||(backTo cpos (starEach es X.env)).any (·.1))=false;rw[hplain] <;> rfl) (Calls.evalArgs_plain ?_);calc thn hA λus s2 ⟨vs,H2,I2,r2,q2⟩=>hm zB s2 Y H2 x vs v us Q I2 r1 r2 q2
end
def MtM (X:Cx) (id:String) (r:V->List V->Hp->VK->Prop):Prop :=
 ∀ (zB:Yd) (s:Yl) (Y:St) (H:Hp) (x:V) (xs:List V) (v:Yu) (us:Yf) (Q:VK),Inv X zB Y H s->za x v->zU xs us->r x xs H Q ->
  wpAny (model X.prog X.w) X.A (call (.builtin id) (v::us)) (EP X zB Y Q) X.xe s
def zU.one:∀ {x:V} {us:Yf},zU [x] us -> ∃ u,us=[u]/\za x u:=by rintro x _ (_|⟨r,_|_⟩);exact⟨_,rfl,r⟩
def zU.eraseIdx:∀ {xs:List V} {us:Yf} (i:Nat),zU xs us->zU (xs.eraseIdx i) (us.eraseIdx i)
 |_,_,_,.nil=> .nil
 |_,_,0,.cons _ t=>t
 |_,_,i+1,.cons r t=> .cons r (zU.eraseIdx i t)
theorem Mo {α:Type}:∀ (l:List α) (i:Nat),(l.eraseIdx i).length<=l.length
 |[],_=>AF _
 |_::_,0=>Cq _
 |_::r,i+1=>Nat.succ_le_succ (Mo r i)
section
variable {X:Cx} {zB:Yd} {Y:St} {H:Hp} {s:Yl} {l b:Yt} {xs ys zs:List V}
def Inv.lset {its its':Yf} {n:Nat} {f:Array Value->Array Value} {t':Nat} (I:Inv X zB Y H s) (hH:H l=some (.lst xs))
  (e:s.heap.get? l=some { cls:=.type "list", data:=.seq its.toArray n }) (hf:f its.toArray=its'.toArray) (hv:zU ys its') (hz:ys.length<=sizeLine) :
  Inv X zB Y (upd H l (.lst ys)) { s with heap:=s.heap.update l (Obj.mapSeq f),toks:=t' }:=by
 let q:=PySem.IsL.update e f;rw[hf]at q;refine I.write (x:=l) (e:=l) (by rw[hH];calc trivial) (.inl rfl) (λb' u hb hu=>(CG s.heap (Obj.mapSeq f) (Ne.symm hb)).trans hu) ⟨_,q⟩ ?_;calc ⟨hz,its',_,hv,q⟩
def Inv.lnew {its:Yf} {t':Nat} (I:Inv X zB Y H s) (hv:zU ys its) (hz:ys.length<=sizeLine) :
  Inv X zB Y (upd H ⇑s (.lst ys)) { s with heap:=s.heap.push { cls:=.type "list", data:=.seq its.toArray },toks:=t' } :=
 I.laid (λ_ _ q=>AH _ q) (AF _) ⟨hz,its,0,hv,AN _ rfl⟩
def Inv.fresh (I:Inv X zB Y H s):H ⇑s=none:=I.hok.fresh (AF _)
def Inv.lstM (I:Inv X zB Y H s) (hH:H l=some (.lst xs)):xs.length<=sizeLine /\ ∃ (its:List Value) (n:Nat),zU xs its/\xs.length=its.length/\s.heap.get? l=some { cls:=.type "list", data:=.seq its.toArray n }:=by
 let⟨z,its,n,r,e⟩:=I.hok l _ hH;calc ⟨z,its,n,r,r.length,e⟩
end
section
variable {X:Cx}
def OM:V->List V->Hp->VK->Prop:=λx vs H Q=>∃ l xs y,x=.ref l/\vs=[y]/\H l=some (.lst xs)/\xs.length<sizeLine/\Q .non (upd H l (.lst (xs++[y])))
def RG:MtM X "list.append" OM:=by
 intro zB s Y H x vs v us Q I rx rv h;let⟨l,xs,y,rfl,rfl,hH,hz,q⟩:=h;ext rx;let⟨u,rfl,ru⟩:=rv.one;let⟨z,its,n,r,hl,e⟩:=I.lstM hH;calc call_meets F.slot_list_append ⟨_,e,rfl⟩ F.entry_list_append (F.args_list_append_2 _ _) (PySem.list_append l its.toArray n u (by rw[AS];omega)) ⟨e,?_⟩;calc ⟨.non,_,I.lset (its':=its++[u]) hH e (by simp) (r.append (.cons ru .nil)) ?_,rfl,q⟩;rw[BK,List.length_singleton];omega
def NY:V->List V->Hp->VK->Prop:=λx vs H Q=>∃ l xs i k y,x=.ref l/\vs=[.int i]/\H l=some (.lst xs) /\ -(2 ^ 63)<=i/\i<2 ^ 63/\seqIndex? i xs.length=some k/\xs[k]?=some y/\Q y (upd H l (.lst (xs.eraseIdx k)))
def R4:MtM X "list.pop" NY:=by
 intro zB s Y H x vs v us Q I rx rv h;let⟨l,xs,i,k,y,rfl,rfl,hH,h1,h2,hk,hy,q⟩:=h;ext rx;let⟨u,rfl,ru⟩:=rv.one;let⟨t,rfl⟩:=ru;let⟨z,its,n,r,hl,e⟩:=I.lstM hH;let⟨w,hw,rw'⟩:=r.get hy
 refine call_meets F.slot_list_pop ⟨_,e,rfl⟩ F.entry_list_pop (F.args_list_pop_2 _ _)
  (MeetsSeq.list_pop_at l its.toArray n i t k w (fitsIndex_both h1 h2) (by rw[AS,<-hl];calc hk) (by rw[<-Am];calc hw) (by rw[AS];omega)) ⟨e,?_⟩
 refine ⟨y,_,I.lset (its':=its.eraseIdx k) hH e ?_ (r.eraseIdx k) ?_,rw',q⟩
 .show its.toArray.eraseIdxIfInBounds k=(its.eraseIdx k).toArray;rw[List.eraseIdxIfInBounds_toArray]
 .have:=Mo xs k;omega
def NO:R2:=λx y H Q=>∃ l b xs zs,x=.ref l/\y=.ref b/\H l=some (.lst xs)/\H b=some (.lst zs)/\xs.length+zs.length<=sizeLine /\ ∀ p,H p=none->Q (.ref p) (upd H p (.lst (xs++zs)))
def UX:OpR X (binaryOp .Add) NO:=by
 intro zB s Y H x y v u Q I rx ry h;let⟨l,b,xs,zs,rfl,rfl,hH,hB,hz,q⟩:=h;ext rx;ext ry;let⟨z,its,n,r,hl,e⟩:=I.lstM hH;let⟨z2,its2,n2,r2,hl2,e2⟩:=I.lstM hB;calc PySem.P.add_list e e2 ?_ (by rw[AS,AS];omega);let ea:its.toArray++its2.toArray=(its++its2).toArray:=by simp
 rw[ea];calc ⟨.ref _,_,I.lnew (t':=s.toks) (r.append r2) (by rw[BK];omega),rfl,q _ I.fresh⟩
end
end L2
namespace Att
open PySem PySem.W PySem.Calls PyProof.Rows
def Uo {P:Params} {h:Heap}:∀ (ns:Ye) (vs:Yf),WellAll P h vs (ns.map WData.int)->IntsAre vs ns:=by
 intro ns;induction ns with
 |nil=>
  intro vs w;rw[List.map_nil]at w;ext w;calc .nil
 |cons n ns ih=>
  intro vs w;rw[Ad]at w;cases w with
  |cons a b=>
   ext a;calc .cons _ _ (ih _ b)
def Vg {l:OpenLaw} {n:Nat} (hn:l.most=some n) {P:Params} {h:Heap} {args:List WData} {vals:Yf}
  (hpre:l.row.toRowW.claim.pre args=true) (hwl:WellAll P h vals args) :
  ∃ a vs ns,vals=[Value.ref a]/\args=[WData.list (ns.map WData.int)]/\h.get? a=some { cls:=.type "list", data:=.seq vs.toArray }/\IntsAre vs ns/\ns.length<=n:=by
 let hsh:WShape.hasAll [] args [.list .int]=true:=(pre_splitW hpre).1;let hc:l.pre.holds [] { args:=args }=true:=(pre_splitW hpre).2;let⟨d,r,rfl,h1,h2⟩:=hasAllW_cons hsh;obtain rfl:=hasAllW_nil h2;let⟨xs,rfl,h3⟩:=hasW_list h1;let⟨ns,rfl⟩:=items_int h3;let hlen:ns.length<=n:=by
  erw[OpenLaw.pre]at hc;let h4:(WTm.not (.lt (.lit (.int (n:Int))) (.len (.arg 0)))).holds [] { args:=[.list (ns.map .int)] }=true:=by
   let h4:=(holds_andW hc).1;rw[hn]at h4;exact h4
  let h5:=condW_of h4 (w_not (w_lt w_lit (w_len_list (w_arg rfl))));rw[AI]at h5;refine Nat.le_of_not_lt λq=>?_;let q':(n:Int)<((ns.length:Nat):Int):=()
  first
   | (rw[BF q']at h5;calc absurd h5 ())
   | (simp at h5;omega)
 cases hwl with
 |cons w1 w2=>
  ext w2;cases w1 with
  |list ho hall=>calc ⟨_,_,ns,rfl,rfl,ho,Uo ns _ hall,hlen⟩
def Ud (l:OpenLaw) (args:List WData):l.row.toRowW.claim.post args (.bool true) args=true :=
 postW_of (r:=l.row.toRowW) (X:=(true==true))
  (show WShape.has [] (.bool true) .bool=true by first|rfl|decide|simp[WShape.has,WShape.arms,WShape.armsAll])
  (show (WTm.eq .res (.lit (.bool true))).value [] { args:=args,res:=some (.bool true),after:=args }=some (.bool (true==true))from w_eq_bool (w_res rfl) w_lit) rfl
def SS {l:OpenLaw} {n:Nat} {q:Ym} {loose:Yk} {XP:(Str->Option Value)->Heap->Prop} {YP:World->Heap->Prop} {d:DefRec}
  (hn:l.most=some n) (hdf:d.params.defaults=[])
  (call:∀ (w:Yo) (s₀ s₁:Yl) (mg mb:Yh) (fa:Yt) (o:Obj) (pm cd doc:Yu) (a:Yt) (vs:Yf) (ns:Ye),
   Ground q loose [] XP w s₀ mg mb s₁.heap->YP w s₁.heap ->
   s₁.heap.get? fa=some o->o.data=.func (docDef d.name d.params d.body d.scope pm cd doc)->s₁.heap.CodeRec cd d.name->mg d.name=some (.ref fa) ->
   s₁.heap.get? a=some { cls:=.type "list", data:=.seq vs.toArray }->IntsAre vs ns->ns.length<=n->s₁.gens = #[] ->
   codeAny (model l.prog w) callerA (.call (.ref fa) ⟨[.ref a],[]⟩) (λr s'=>r=.ok (.ret (.bool true))/\OldK s₁.heap s'.heap/\s'.os=s₁.os/\AllBare s'.gens) s₁) :
  WalkO q loose XP YP l.row.toRowW d [] (λf vs=>PySem.call f vs):=by
 intro w s₀ s₁ mg mb G YY fa o pm cd doc dV kV ho hd hcd hD hmg hg args vals as hpre hlay hrd hwl hlo;obtain rfl:dV=.none:=Dflts.none hD hdf;obtain rfl:kV=.none:=Dflts.noKw hD;let⟨a,vs,ns,rfl,rfl,hobj,hints,hlen⟩:=Vg hn hpre hwl;refine enter_call (codeAny_mono (call w s₀ s₁ mg mb fa o pm cd doc a vs ns G YY ho (fd_plain hd) hcd hmg hobj hints hlen hg) λr s' hq=>?_);let⟨rfl,h2,h3,h4⟩:=hq;calc ⟨.inl ⟨.bool true,.bool true,[],rfl,λ_=>rfl,.bool true,Ud l _,λ_=>⟨List.Pairwise.nil,λ_ hm=>(nomatch hm)⟩⟩,h2,h3,h4⟩
end Att
namespace L2
theorem Mr:∀ {vs:Yf} {ns:Ye},IntsAre vs ns->zU (ns.map V.int) vs
 |_,_,.nil=> .nil
 |_,_,.cons n t h=> .cons ⟨t,rfl⟩ (Mr h)
def Ib (H:Hp):Prop:=∀ b,H b=none \/ ∃ o xs,H b=some (.frz o (.lst xs))
def Q4 {P:Ym} {w:Yo} {K:Yb} {mg mb:Yh} {CX:CXT} {k:Nat} {fa a:Yt} {fd:Yz} {x:Str} {sp:Sp} {s₁:Yl} {vs:Yf} {ns:Ye}
  (KX:K.In s₁.heap) (hns:s₁.heap.Ns mainGlobals mg) (hb:s₁.heap.Ns builtinsNs mb) (hbb:∀ x:Str,x ≠ "__name__" -> mb x=bootBuiltins x) (hlim:s₁.heap.NoLimit) (hbm:BMn mg s₁.heap) (hg:s₁.gens = #[])
  (ha:s₁.heap.get? a=some { cls:=.type "list", data:=.seq vs.toArray }) (hi:IntsAre vs ns) (hl:ns.length<=sizeLine) (hr:Room k callerA)
  (F:∀ base:Heap,K.In base->base.Ns mainGlobals mg->FnOk P w K mg base CX k fa fd [x] sp) (hbind:∀ (s:Yl) (u:Yu),BindsTo s fd ⟨[u],[]⟩ [(x,u)])
  (hsp:∀ H:Hp,Ib H->SqL K H a (ns.map V.int)->sp [.ref a] H (λv _=>v=.bl true) λ_ _ _=>False)
  (hCX:∀ H e s',CX [] H s₁ (λ_ _ _=>False) e s'->False) :
  codeAny (model P w) callerA (.call (.ref fa) ⟨[.ref a],[]⟩) (λr s'=>r=.ok (.ret (.bool true))/\OldK s₁.heap s'.heap/\s'.os=s₁.os/\AllBare s'.gens) s₁:=by
 let rv:=Mr hi;let lenV:=hi.length
 let core:∀ H:Hp,Ib H->SqL K H a (ns.map V.int)->HOk P w H s₁.heap->(∀ b,H b≠none->b=a)->(H a≠none->K.lookup a=none) ->
   codeAny (model P w) callerA (.call (.ref fa) ⟨[.ref a],[]⟩) (λr s'=>r=.ok (.ret (.bool true))/\OldK s₁.heap s'.heap/\s'.os=s₁.os/\AllBare s'.gens) s₁:=by
  intro H hO hS hok hA hK;let base_of:∀ {b:Yt} {o:Obj},s₁.heap.get? b=some o->H b=none->(DP s₁.heap H).get? b=some o:=λe n=>TB e n;let noA:∀ {b:Yt} {o:Obj} {es:Array DictEntry} {ep:Nat},s₁.heap.get? b=some o->o.data=.dict es ep->H b=none:=λ{b o es ep} e d=>by
   cases q:H b with
   |none=>rfl
   |some u=>
    let e':b=a:=hA b (by rw[q];simp);subst e';rw[ha]at e;ext e;let d':Data.seq vs.toArray _=Data.dict es ep:=d;ext d'
  let nsK:∀ {b:Yt} {m:Yh},s₁.heap.Ns b m->(DP s₁.heap H).Ns b m:=λ{b m} ⟨o,es,ep,e,d,r⟩=>⟨o,es,ep,base_of e (noA e d),d,r⟩;let hKb:K.In (DP s₁.heap H):=λb o e=>base_of (KX b o e) (by
   cases q:H b with
   |none=>rfl
   |some u=>
    let e':b=a:=hA b (by rw[q];simp);subst e';rw[hK (by rw[q];simp)]at e;ext e)
  let bmK:BMn mg (DP s₁.heap H):=by
   let⟨bm,ob,b1,b2,b3,b4⟩:=hbm;calc ⟨bm,ob,b1,b2,base_of b3 ?_,b4⟩;cases q:H bm with
   |none=>rfl
   |some u=>
    let e':bm=a:=hA bm (by rw[q];simp);subst e';rw[ha]at b3;ext b3;cases b4.2.2
  let hM:Mod K mg (DP s₁.heap H):=⟨hKb,nsK hns,⟨mb,nsK hb,hbb⟩,let ⟨mc,h1,h2⟩:=hlim;⟨mc,nsK h1,h2⟩,bmK⟩;let e0:Env0 P w K mg (DP s₁.heap H) callerA [] s₁ H:=⟨rfl,hM,λb o e=>X7 e,Nat.le_of_eq (Zd _ _),trivial,λb hb=>absurd (show b∈([]:List Addr)from hb) (by simp),hok,.of_eq hg⟩;refine codeAny_mono ((F _ hKb (nsK hns)).run callerA [] s₁ H ⟨[.ref a],[]⟩ [.ref a] [.ref a] _ _ hr e0 (hbind s₁ (.ref a)) (.cons rfl .nil) (hsp H hO hS)) λr s' h=>?_;cases r with
  |error e=>calc (hCX H e s' h).elim
  |ok fl=>
   cases fl with
   |next=>calc False.elim h
   |brk=>calc False.elim h
   |cont=>calc False.elim h
   |ret u=>
    let⟨v,H',os,bare,un,hok',r',q⟩:=h;let q':v=.bl true:=q;subst q';obtain rfl:u=Value.bool true:=r';refine ⟨rfl,OldK.of_keep λb o e=>?_,os,bare⟩;cases q:H b with
    |none=>calc un.keep b o e q (by intro z;calc absurd (show b∈([]:List Addr)from z) (by simp)) (by simp)
    |some u=>
     rcases hO b with z|⟨ob,xs,z⟩
     .rw[q]at z;ext z
     .have z2:=un.frzs b ob _ z;let⟨e1,_⟩:=hok b _ z;let⟨e2,_⟩:=hok' b _ z2;rw[e]at e1;ext e1;exact e2
 cases hk:K.lookup a with
 |some o=>
  let e:=KX a o hk;rw[ha]at e;ext e;refine core (λ_=>none) (λ_=> .inl rfl) (.inr ⟨_,vs.toArray,_,hk,rfl,rfl,rfl,by rw[AS,lenV];calc hl,by simpa using rv⟩) (λb u z=>by have z':(none:Option HO)=some u:=z;ext z') (λb z=>absurd rfl z) λz=>absurd rfl z
 |none=>
  refine core (λb=>if b=a then some (.frz { cls:=.type "list", data:=.seq vs.toArray } (.lst (ns.map V.int))) else none) (λb=>?_) (.inl (.inr ⟨{ cls:=.type "list", data:=.seq vs.toArray },AD rfl⟩)) (λb u z=>?_) (λb z=>?_) λ_=>hk
  .by_cases hb:b=a
   .exact .inr ⟨_,_,AD hb⟩
   .exact .inl (AE hb)
  .by_cases hb:b=a
   .have z':=(AD hb).symm.trans z;ext z';subst hb;exact ⟨ha,by rw[AI];calc hl,vs,_,rv,ha⟩
   .have z':=(AE hb).symm.trans z;ext z'
  .by_cases hb:b=a
   .exact hb
   .exact absurd (AE hb) z
def YA {l:PySem.W.OpenLaw} {n k:Nat} {q:Ym} {loose:Yk} {XP:(Str->Option Value)->Heap->Prop} {YP:World->Heap->Prop} {d:DefRec} {K:Params->PySem.W.Frag} {CX:World->CXT} {sp:World->Sp} {x:Str}
  (hn:l.most=some n) (hn2:n<=sizeLine) (hdf:d.params.defaults=[]) (hr:Room k callerA)
  (hY:∀ (w:Yo) (h:Heap),YP w h->(K w.params).In h)
  (F:∀ (w:Yo) (mg:Yh) (fa:Yt) (h:Heap),(K w.params).In h->h.Ns mainGlobals mg->mg d.name=some (.ref fa) ->
   ∃ fd:FuncData,(∀ (s:Yl) (u:Yu),BindsTo s fd ⟨[u],[]⟩ [(x,u)]) /\
    ∀ base:Heap,(K w.params).In base->base.Ns mainGlobals mg->FnOk l.prog w (K w.params) mg base (CX w) k fa fd [x] (sp w))
  (hsp:∀ (w:Yo) (H:Hp) (a:Yt) (ns:Ye),ns.length<=n->Ib H->SqL (K w.params) H a (ns.map V.int)->sp w [.ref a] H (λv _=>v=.bl true) λ_ _ _=>False)
  (hCX:∀ (w:Yo) (H:Hp) (s:Yl) (e:Yu) (s':Yl),CX w [] H s (λ_ _ _=>False) e s'->False) :
  PySem.W.WalkO q loose XP YP l.row.toRowW d [] (λf vs=>PySem.call f vs):=by
 refine Att.SS hn hdf λw s₀ s₁ mg mb fa o pm cd doc a vs ns G YY ho hd hcd hmg hobj hints hlen hg=>?_;let KX:=hY w _ YY;let⟨fd,hb,hF⟩:=F w mg fa _ KX G.T.g hmg;calc Q4 KX G.T.g G.T.b G.T.builtins G.T.nolimit G.T.bmain hg hobj hints (An hlen hn2) hr hF hb (λH hO hS=>hsp w H a ns hlen hO hS) λH e s'=>hCX w H s₁ e s'
def GD (s:Stmt):Arguments:=match s with
 |.FunctionDef _ a _ _ _ _ _ _ _ _=>a
 |_=>{ posonlyargs:=[],args:=[],vararg:=none,kwonlyargs:=[],kw_defaults:=[],kwarg:=none,defaults:=[] }
def EF (s:Stmt):List Stmt:=match s with
 |.FunctionDef _ _ b _ _ _ _ _ _ _=>b
 |_=>[]
def zO (s:Stmt):Scope:=match s with
 |.FunctionDef _ _ _ _ _ _ sc _ _ _=>sc
 |_=>{ kind:=.function,names:=[],isGenerator:=false,isCoroutine:=false }
abbrev CX0:CXT:=λ_ _ _ _ _ _=>False
abbrev E0:XK:=λ_ _ _=>False
def Zq {X:Cx}:J9 CX0 X E0:=λ_ _ _ _ _ _ _ h=>h.elim
structure Fun (K:Yb) (x qual:Str) (st:Stmt) (f:Yt) (fd:Yz):Prop where
 ex:∃ (oc:Yu) (od:Option Addr) (kV doc pm:Yu) (an:Option Addr) (cdv ct:Yu) (osl:Array (Option Value)),
  fd=PySem.W.fnOf x qual (GD st) (EF st) (zO st) .none kV doc pm an cdv ct/\K.lookup f=some ⟨oc,od,.func fd,osl⟩/\PySem.W.codeIn K cdv qual=true
 kp:PySem.W.keepIn K (.ref f)=true
section
variable {P:Ym} {w:Yo} {K:Yb} {mg:Yh} {base:Heap}
def Fun.ok {x qual:Str} {st:Stmt} {f:Yt} {fd:Yz} {N ps:Yk} {k:Nat} {sp:Sp} (F:Fun K x qual st f fd) (S:FnScope N ps (zO st)) (len:∀ vs H Q E,sp vs H Q E->vs.length=ps.length)
  (hbody:∀ (cdv:Yu) (A:Yn) (outer:List Env) (s:Yl) (H:Hp) (vs:List V) (Q:VK) (E:XK),Room k (A.deeper (envOfC qual (zO st) ⇑s f cdv))->sp vs H Q E ->
   ∃ t,PSs (Et CX0 P w K mg base N qual (zO st) f cdv A outer s H E).nox (EF st) t/\t { nx:=λ_ H'=>Q .non H',rt:=Q } (start N vs) H):FnOk P w K mg base CX0 (k+1) f fd ps sp:=by
 let⟨oc,od,kV,doc,pm,an,cdv,ct,osl,rfl,lk,hcd⟩:=F.ex;refine V7 lk hcd S len λA outer s H vs Q E hr hsp=>?_;let⟨t,h,q⟩:=hbody cdv A outer s H vs Q E hr hsp;calc ⟨t,h.nox,q⟩
def Fun.binds {x qual:Str} {st:Stmt} {f:Yt} {fd:Yz} {ps:Yk} (F:Fun K x qual st f fd)
  (h:∀ (kV doc pm:Yu) (an:Option Addr) (cdv ct:Yu) (us:Yf),us.length=ps.length->bindArgs (PySem.W.fnOf x qual (GD st) (EF st) (zO st) .none kV doc pm an cdv ct) ⟨us,[]⟩=pure (ps.zip us)):E5 K fd ps []:=by
 let⟨oc,od,kV,doc,pm,an,cdv,ct,osl,rfl,lk,hcd⟩:=F.ex;calc .all (h kV doc pm an cdv ct)
def MG {x qual:Str} {st:Stmt} {f:Yt} {oc:Yu} {od an:Option Addr} {osl:Array (Option Value)} {kV doc pm cdv ct:Yu} (l:K.lookup f=some ⟨oc,od,.func (PySem.W.fnOf x qual (GD st) (EF st) (zO st) .none kV doc pm an cdv ct),osl⟩)
  (c:PySem.W.codeIn K cdv qual=true) (k:PySem.W.keepIn K (.ref f)=true):Fun K x qual st f (PySem.W.fnOf x qual (GD st) (EF st) (zO st) .none kV doc pm an cdv ct):=⟨⟨oc,od,kV,doc,pm,an,cdv,ct,osl,rfl,l,c⟩,k⟩
end
def IK {A:Yn} {k:Nat} (hr:Room k A):A.units+1<cLine:=Nat.lt_of_le_of_lt (Nat.add_le_add_left (by decide:1<=64) _) hr.units
section
variable {X:Cx}
def pv (i:Nat) {x:Str} {pos:Pos} (hN:X.N[i]?=some x:=by rfl) (hv:Vis X.env.scope x:=by first|exact Or.inl rfl|exact Or.inr (Or.inl rfl)|exact Or.inr (Or.inr rfl)) (hd:(x==("__debug__" : Str))=false:=by decide)
  (hcd:(x==("__classdict__" : Str))=false:=by decide):PE X (.Name x pos) (Ku i):=Qx hN hv hd hcd
end
def Ez {A B:Prop} (h:B):if false=true then A else B:=by
 rw[AE Av];calc h
def Fc {A B:Prop} (h:A):if true=true then A else B:=by
 rw[AD rfl];calc h
section
variable {κ:Type} [DecidableEq κ]
def Bk (kvs:List (κ × V)) (k:κ):Option V:=(kvs.find? λkv=>decide (kv.1=k)).map (·.2)
def BV (kvs:List (κ × V)) (k:κ) (v:V):List (κ × V) :=
 if (kvs.any λkv=>decide (kv.1=k))=true then kvs.map (λkv=>if kv.1=k then (kv.1,v) else kv) else kvs++[(k,v)]
def IX {p:κ × V} {r:List (κ × V)} {k:κ} (e:p.1=k):Bk (p::r) k=some p.2:=by simp[Bk,Dr,e]
def Hc {p:κ × V} {r:List (κ × V)} {k:κ} (e:¬ p.1=k):Bk (p::r) k=Bk r k:=by simp[Bk,Dr,e]
theorem NG (k:κ):∀ kvs:List (κ × V),(kvs.any λkv=>decide (kv.1=k))=(Bk kvs k).isSome
 |[]=>rfl
 |p::r=>by
  rw[List.any_cons];by_cases e:p.1=k
  .simp only[IX e,BF e,Bool.true_or,Option.isSome_some]
  .rw[Hc e,A6 e,Bool.false_or];calc NG k r
def Jf (kvs:List (κ × V)) (k:κ) (v:V):(BV kvs k v).length<=kvs.length+1:=by
 erw[BV];split
 .rw[AI];omega
 .rw[BK,Cu,Bq];omega
def DF.isSome_eq (r:DF o u):o.isSome=u.isSome:=by
 cases o with
 |none=>cases u with
  |none=>rfl
  |some _=>calc (show False from r).elim
 |some _=>cases u with
  |none=>calc (show False from r).elim
  |some _=>rfl
def KV.val {kvs:List (κ × V)} {vs:List (κ × Value)} (r:KV kvs vs) (k:κ):DF (Bk kvs k) (valueAt vs k):=by
 erw[KV]at r;induction r with
 |nil=>calc True.intro
 | @cons p q ps qs h t ih=>
  let⟨h1,h2⟩:=h;by_cases e:p.1=k
  .have e':q.1=k:=h1.symm.trans e;let b:valueAt (q::qs) k=some q.2:=by simp[valueAt,Dr,e']
   rw[IX e,b];exact h2
  .have e':¬ q.1=k:=λz=>e (h1.trans z);let b:valueAt (q::qs) k=valueAt qs k:=by simp[valueAt,Dr,e']
   rw[Hc e,b];calc ih
def KV.any (r:KV kvs vs) (k:κ):(kvs.any λkv=>decide (kv.1=k))=vs.any λkv=>decide (kv.1=k):=by
 erw[KV]at r;induction r with
 |nil=>rfl
 |cons h t ih=>rw[List.any_cons,List.any_cons,ih,h.1]
def KV.repl (r:KV kvs vs) (k:κ) (ry:za y u) :
  KV (kvs.map λkv=>if kv.1=k then (kv.1,y) else kv) (vs.map λkv=>if kv.1=k then (kv.1,u) else kv):=by
 unfold KV at r ⊢;induction r with
 |nil=>calc .nil
 | @cons p q ps qs h t ih=>
  rw[Ad,Ad];calc .cons ?_ ih;let⟨h1,h2⟩:=h;by_cases e:p.1=k
  .rw[AD e,AD (h1.symm.trans e)];exact ⟨h1,ry⟩
  .rw[AE e,AE (λz=>e (h1.trans z))];calc ⟨h1,h2⟩
def KV.put (r:KV kvs vs) (k:κ) (ry:za y u):KV (BV kvs k y) (stored vs k u):=by
 erw[BV,stored];rw[r.any k];by_cases e:(vs.any λkv=>decide (kv.1=k))=true
 .rw[AD e,AD e];exact r.repl k ry
 .rw[AE e,AE e];calc Paired.snoc r ⟨rfl,ry⟩
def KV.length (r:KV kvs vs):kvs.length=vs.length:=Paired.length r
end
def G2 (r:za (kV k) u):(ze P w).is k u=true:=by
 cases k with
 |inl i=>let⟨t,e⟩:=(show ∃ t,u=Value.int i t from r);subst e;calc Qw P w i t
 |inr x=>let⟨t,e⟩:=(show ∃ t,u=Value.str x t from r);subst e;calc W8 P w x t
theorem OE:∀ {ks:List Key} {us:Yf},zU (ks.map kV) us->ItemsAre (ze P w) ks us
 |[],_,r=>by rw[List.map_nil]at r;ext r;calc .nil
 |k::ks,_,r=>by
  rw[Ad]at r;cases r with
  |cons h t=>calc .cons (G2 h) (OE t)
abbrev KT (H:Hp):List (List Key × V)->List (List Key × Addr × Value)->Prop:=Paired λp q=>p.1=q.1/\H q.2.1=some (.tup (p.1.map kV))/\za p.2 q.2.2
def KT.val {H:Hp} {kvs:List (List Key × V)} {xs:List (List Key × Addr × Value)} (r:KT H kvs xs) (k:List Key):DF (Bk kvs k) ((atKey xs k).map (·.2)):=by
 induction r with
 |nil=>calc True.intro
 | @cons p q ps qs h t ih=>
  let⟨h1,_,h2⟩:=h;by_cases e:p.1=k
  .have e':q.1=k:=h1.symm.trans e;let b:atKey (q::qs) k=some q.2:=by simp[atKey,Dr,e']
   rw[IX e,b];exact h2
  .have e':¬ q.1=k:=λz=>e (h1.trans z);let b:atKey (q::qs) k=atKey qs k:=by simp[atKey,Dr,e']
   rw[Hc e,b];calc ih
def KT.repl (r:KT H kvs xs) (k:List Key) (ry:za y u) :
  KT H (kvs.map λkv=>if kv.1=k then (kv.1,y) else kv) (xs.map (putAt k u)):=by
 induction r with
 |nil=>calc .nil
 | @cons p q ps qs h t ih=>
  rw[Ad,Ad];calc .cons ?_ ih;let⟨h1,h2,h3⟩:=h;erw[putAt];by_cases e:p.1=k
  .rw[AD e,AD (h1.symm.trans e)];exact ⟨h1,h2,ry⟩
  .rw[AE e,AE (λz=>e (h1.trans z))];calc ⟨h1,h2,h3⟩
def KT.put (r:KT H kvs xs) (k:List Key) (hb:H b=some (.tup (k.map kV))) (ry:za y u) :
  KT H (BV kvs k y) (storedH xs k b u):=by
 let e:(kvs.any λkv=>decide (kv.1=k))=(atKey xs k).isSome:=by
  rw[NG,(r.val k).isSome_eq,Option.isSome_map]
 erw[BV,storedH];rw[e];by_cases q:(atKey xs k).isSome=true
 .rw[AD q,AD q];exact r.repl k ry
 .rw[AE q,AE q];calc Paired.snoc r ⟨rfl,hb,ry⟩
def KT.keeps (r:KT H kvs xs) (ht:∀ b ys,H b=some (.tup ys)->H' b=some (.tup ys)):KT H' kvs xs :=
 Paired.mapP r λ_ _ z=>⟨z.1,ht _ _ z.2.1,z.2.2⟩
section
variable {P:Ym} {w:Yo} {H:Hp} {h:Heap} {a:Yt}
def OD (ok:HOk P w H h) (e:Rd H a u):Ag P w H h a u:=e.ok ok
def Hb (ok:HOk P w H h) (e:Rd H a (.dK kvs)):kvs.length<=sizeLine/\(a==sysModules)=false /\ ∃ vs,KV kvs vs/\h.DictOf (ze P w) a vs :=
 show Ag P w H h a (.dK kvs)from OD ok e
def OC (ok:HOk P w H h) (e:H a=some (.dK kvs)):kvs.length<=sizeLine/\(a==sysModules)=false /\ ∃ vs,KV kvs vs/\h.DictOf (ze P w) a vs:=Hb ok (.inl e)
def HS (ok:HOk P w H h) (e:H a=some (.tup (ks.map kV))):(tupleKind (ze P w)).is h ks a:=by
 let⟨_,its,r,o,h1,h2,⟨n,h3⟩,_⟩:=(show Ag P w H h a (.tup (ks.map kV))from ok a _ e);calc ⟨o,its.toArray,n,h1,h2,h3,by simpa using OE r⟩
def IF (ok:HOk P w H h) (e:Rd H a (.dT kvs)):kvs.length<=sizeLine/\(a==sysModules)=false /\
  ∃ xs,KT H kvs xs/\h.DictOfH (tupleKind (ze P w)) a xs:=by
 let⟨z,y,xs,r,o,es,ep,h1,h2,h3,h4,h5⟩:=(show Ag P w H h a (.dT kvs)from OD ok e);refine ⟨z,y,xs,r,o,es,ep,h1,h2,h3,h4,λx hx=>?_,h5⟩;let all:∀ {l:List (List Key × V)} {m:List (List Key × Addr × Value)},KT H l m -> ∀ x∈m,(tupleKind (ze P w)).is h x.1 x.2.1:=by
  intro l m q;induction q with
  |nil=>intro x hx;calc nomatch hx
  | @cons p q ps qs hq t ih=>
   intro x hx;rcases AL.mp hx with e|hx
   .subst e;exact HS ok (by rw[<-hq.1];calc hq.2.1)
   .exact ih x hx
 calc all r x hx
def Xs (ok:HOk P w H h) (e:H a=some (.dT kvs)):kvs.length<=sizeLine/\(a==sysModules)=false /\
  ∃ xs,KT H kvs xs/\h.DictOfH (tupleKind (ze P w)) a xs:=IF ok (.inl e)
end
def CZ (H:Hp) (a:Yt) (y:V) (r:Option V):Prop :=
 (∃ kvs k,Rd H a (.dK kvs)/\y=kV k/\r=Bk kvs k) \/ ∃ kvs k b,Rd H a (.dT kvs)/\y=.ref b/\H b=some (.tup (k.map kV))/\r=Bk kvs k
def D3 (H:Hp) (a:Yt) (y v:V) (H':Hp):Prop :=
 (∃ kvs k,H a=some (.dK kvs)/\y=kV k/\kvs.length<sizeLine/\H'=upd H a (.dK (BV kvs k v))) \/
 ∃ kvs k b,H a=some (.dT kvs)/\y=.ref b/\H b=some (.tup (k.map kV))/\kvs.length<sizeLine/\H'=upd H a (.dT (BV kvs k v))
theorem CZ.k {H:Hp} {a:Yt} {kvs:List (Key × V)} {k:Key} (e:H a=some (.dK kvs)):CZ H a (kV k) (Bk kvs k):=.inl ⟨kvs,k,.inl e,rfl,rfl⟩
def CZ.t {k:List Key} (e:H a=some (.dT kvs)) (eb:H b=some (.tup (k.map kV))):CZ H a (.ref b) (Bk kvs k):=.inr ⟨kvs,k,b,.inl e,rfl,eb,rfl⟩
theorem D3.k {H:Hp} {a:Yt} {kvs:List (Key × V)} {k:Key} {v:V} (e:H a=some (.dK kvs)) (hl:kvs.length<sizeLine):D3 H a (kV k) v (upd H a (.dK (BV kvs k v))):=.inl ⟨kvs,k,e,rfl,hl,rfl⟩
def D3.t {kvs:List (List Key × V)} {k:List Key} (e:H a=some (.dT kvs)) (eb:H b=some (.tup (k.map kV))) (hl:kvs.length<sizeLine) :
  D3 H a (.ref b) v (upd H a (.dT (BV kvs k v))):=.inr ⟨kvs,k,b,e,rfl,eb,hl,rfl⟩
section
variable {X:Cx} {zB:Yd} {Y:St} {H:Hp} {s:Yl} {a:Yt} {y v:V} {u r:Yu} {o:Option V} {A:Yn} {E:Yc}
def Inv.big (I:Inv X zB Y H s):sysModules<⇑s:=by
 let h:mainGlobals<⇑s:=(I.mod.glob.keeps I.bk).lt;calc Nat.lt_trans () h
def Ul (hu:A.units+1<cLine) (I:Inv X zB Y H s) (g:CZ H a y (some v)) (ry:za y u) (h:∀ w' s',Inv X zB Y H s'->za v w'->Q w' s') :
  wpAny (model X.prog X.w) A (getItem (.ref a) u) Q E s:=by
 rcases g with ⟨kvs,k,e,ey,l⟩|⟨kvs,k,b,e,ey,eb,l⟩
 .subst ey;let⟨z,hd,vs,rel,dd⟩:=Hb I.hok e;let⟨w',hw,rw'⟩:=DF.some_of (by rw[l];calc rel.val k);exact wpAny_getItem_of (G2 ry) dd.mapOf hw (h w' _ (I.tok _) rw')
 .subst ey;cases (show u=Value.ref b from ry);let⟨z,hd,xs,rel,dd⟩:=IF I.hok e;let⟨w',hw,rw'⟩:=DF.some_of (by rw[l];calc rel.val k);let⟨p,hp,hp2⟩:=Option.map_eq_some_iff.mp hw;calc wpAny_getItem_heap (tupleKind_room_in1 hu) (HS I.hok eb) dd hp ?_;rw[hp2];calc h w' _ (I.tok _) rw'
def Rh (hu:A.units+1<cLine) (I:Inv X zB Y H s) (g:CZ H a y o) (ry:za y u) (h:∀ s',Inv X zB Y H s'->Q (.bool (!o.isSome)) s') :
  wpAny (model X.prog X.w) A (compareOp .NotIn u (.ref a)) Q E s:=by
 rcases g with ⟨kvs,k,e,ey,l⟩|⟨kvs,k,b,e,ey,eb,l⟩
 .subst ey;let⟨z,hd,vs,rel,dd⟩:=Hb I.hok e;calc wpAny_notIn_of (G2 ry) hd dd.mapOf ?_;rw[<-(rel.val k).isSome_eq,<-l];exact h _ (I.tok _)
 .subst ey;cases (show u=Value.ref b from ry);let⟨z,hd,xs,rel,dd⟩:=IF I.hok e;calc wpAny_notIn_heap (tupleKind_room_in1 hu) (HS I.hok eb) hd dd ?_;let q:=(rel.val k).isSome_eq;rw[Option.isSome_map]at q;rw[<-q,<-l];calc h _ (I.tok _)
def Kx (I:Inv X zB Y H s) (mu:Mut (H a)) (hs:Heap.SameBut a s.heap h') (he:∃ q,h'.get? a=some q) (new:Ag X.prog X.w (upd H a ob) h' a ob) :
  Inv X zB Y (upd H a ob) { s with heap:=h',toks:=t' } :=
 I.write mu (.inl rfl) (λb q hb z=>(hs.2 b hb).trans z) he new
def Nj (z:kvs.length<=sizeLine) (hd:(a==sysModules)=false) (rel:KV kvs vs) (dd:h'.DictOf (ze P w) a vs) :
  Ag P w H' h' a (.dK kvs):=⟨z,hd,vs,rel,dd⟩
def ZL (hu:A.units+1<cLine) (I:Inv X zB Y H s) (g:D3 H a y v H') (ry:za y u) (rv:za v r) (h:∀ s',Inv X zB Y H' s'->Q Unit.unit s') :
  wpAny (model X.prog X.w) A (setItem (.ref a) u r) Q E s:=by
 rcases g with ⟨kvs,k,e,ey,l,eH⟩|⟨kvs,k,b,e,ey,eb,l,eH⟩
 .subst ey eH;let⟨z,hd,vs,rel,dd⟩:=OC I.hok e;let hz:vs.length<=sizeLine:=by rw[<-rel.length];exact z
  let hl:(BV kvs k v).length<=sizeLine:=by have:=Jf kvs k v;omega
  refine wpAny_setItem_pairs (G2 ry) dd λh' dd' hs=>h _ ?_;let he:∃ q,h'.get? a=some q:=let ⟨q,_,_,hq,_⟩:=dd';⟨q,hq⟩;exact Kx I (by rw[e];calc True.intro) hs he (Nj hl hd (rel.put k rv) dd')
 .subst ey eH;cases (show u=Value.ref b from ry);let⟨z,hd,xs,rel,dd⟩:=Xs I.hok e;let hz:xs.length<=sizeLine:=by rw[<-Paired.length rel];exact z
  let hl:(BV kvs k v).length<=sizeLine:=by have:=Jf kvs k v;omega
  refine wpAny_setItem_heap (tupleKind_room_in1 hu) (HS I.hok eb) dd λh' dd' hs=>h _ ?_;let⟨q,es,ep,hq,h2,h3,h4,_,h5⟩:=dd';refine Kx I (by rw[e];calc True.intro) hs ⟨q,hq⟩ ⟨hl,hd,_,(rel.put k eb rv).keeps λc ys ec=>?_,q,es,ep,hq,h2,h3,h4,h5⟩;rw[zT (GC ec e (λz=>nomatch z))];calc ec
end
def Jr (i:Expr):Prop:=∀ ov iv,subscripted i false ov iv=operate [ov,iv] (getItem ov iv)
def RY {prog:Ym} {w:Yo} {A:Yn} {E:Yc} {s:Yl} {env:Env} {value slice:Expr} {pos:Pos} {T id:String} {Q:Yc}
  (hl:typeLookup (.type T) "__getitem__" = pure (some (.builtin id))) (hs:Jr slice)
  (h:wpAny (model prog w) A (eval value env) (λo s₁=>wpAny (model prog w) A (eval slice env) (λi s₂=>s₂.TypeIs o T/\wpAny (model prog w) A (getItem o i) Q E s₂) E s₁) E s) :
  wpAny (model prog w) A (eval (.Subscript value slice pos) env) Q E s:=by
 refine Subscript_ (Aq h (λo s₁ h₁=>Aq h₁ (λi s₂ h₂=>?_) λ_ _ x=>x) λ_ _ x=>x);let⟨hT,h₂⟩:=h₂;erw[subscriptTail];refine AA ?_;rw[getitemInPython_of_ne hT.not_modules];refine AA (wpAny_specialOf hT hl ?_);let fin:wpAny (model prog w) A (subscripted slice false o i) (λr s₃=>wpAny (model prog w) A (letTemporaryGo value o r >>= λ_=>pure r) Q E s₃) E s₂:=by
  rw[hs o i];exact wpAny_operating (Aq h₂ (λr s₃ h₃=>AA (wpAny_letTemporaryGo (AB h₃))) λ_ _ x=>x)
 first
  |calc AB (AA fin)
  |calc AA (AB (AA fin))
  |calc AA fin
def Y4 (I:Inv X zB Y H s) (g:CZ H a y o):s.TypeIs (.ref a) "dict" := by
 rcases g with ⟨kvs,k,e,_,_⟩|⟨kvs,k,b,e,_,_,_⟩
 .obtain ⟨_,_,vs,_,dd⟩:=Hb I.hok e;exact dd.typeIs
 .obtain ⟨_,_,xs,_,dd⟩:=IF I.hok e;calc dd.typeIs
def XG (td ty:TE):TE:=λY H Q=>td Y H λx H1=>ty Y H1 λy H2=>∃ a v,x=.ref a/\CZ H2 a y (some v)/\Q v H2
def VY (ty td:TE):TE:=λY H Q=>ty Y H λy H1=>td Y H1 λx H2=>∃ a o,x=.ref a/\CZ H2 a y o/\Q (.bl (!o.isSome)) H2
def ZX (td ty tv:TE):TS:=λD Y H=>tv Y H λv H1=>td Y H1 λx H2=>ty Y H2 λy H3=>∃ a H4,x=.ref a/\D3 H3 a y v H4/\D.nx Y H4
section
variable {X:Cx} {o i e value:Expr} {pos pos' tpos:Pos} {td ty tv:TE}
def Sx (hu:X.A.units+1<cLine) (ho:PE X o td) (hi:PE X i ty) (hs:Jr i):PE X (.Subscript o i pos) (XG td ty):=by
 intro zB s Y H Q I h;refine RY PySem.F.slot_dict_getitem.lookup hs (thn (ho zB s Y H _ I h) λu s1 ⟨x,H1,I1,rx,q1⟩=>thn (hi zB s1 Y H1 _ I1 q1) λiv s2 ⟨y,H2,I2,ry,a,v,ex,g,q2⟩=>?_);subst ex;obtain rfl:u=Value.ref a:=rx;calc ⟨Y4 I2 g,Ul hu I2 g ry λw' s3 I3 rw'=>⟨v,H2,I3,rw',q2⟩⟩
def S7 (hu:X.A.units+1<cLine) (hi:PE X i ty) (ho:PE X o td):PC X .NotIn i o (VY ty td):=by
 intro zB s Y H Q I h;refine thn (hi zB s Y H _ I h) λiv s1 ⟨y,H1,I1,ry,q1⟩=>thn (ho zB s1 Y H1 _ I1 q1) λu s2 ⟨x,H2,I2,rx,a,ov,ex,g,q2⟩=>?_;subst ex;obtain rfl:u=Value.ref a:=rx;calc Rh hu I2 g ry λs3 I3=>⟨.bl (!ov.isSome),H2,I3,rfl,q2⟩
def VI (hu:X.A.units+1<cLine) (ho:PE X o td) (hi:PE X i ty) (hv:PE X value tv) (hs:swapsWith value (some (.Subscript o i pos')) pos.line X.env=pure false) :
  PS X (.Assign [.Subscript o i pos'] value pos) (ZX td ty tv):=by
 intro zB s Y H D I h;refine wpAny_Assign_Subscript (thn (hv zB s Y H _ I h) λr s1 ⟨v,H1,I1,rv,q1⟩=>thn (ho zB s1 Y H1 _ I1 q1) λu s2 ⟨x,H2,I2,rx,q2⟩=>thn (hi zB s2 Y H2 _ I2 q2) λiv s3 ⟨y,H3,I3,ry,a,H4,ex,g,q3⟩=>?_) hs;subst ex;obtain rfl:u=Value.ref a:=rx;calc ZL hu I3 g ry rv λs4 I4=>⟨Y,H4,I4,q3⟩
end
def Wd (h:Heap) (hb:sysModules<h.objs.size):Ag P w H (h.push { cls:=.type "dict", data:=.dict #[] }) h.objs.size (.dK []) :=
 ⟨Bh _,beq_eq_false_iff_ne.mpr (Ne.symm (AY hb)),[],.nil,Heap.DictOf.new h⟩
def KW:List (TE × TE)->St->Hp->(List (V × V)->Hp->Prop)->Prop
 |[],_,H,Q=>Q [] H
 | (tk,tv)::r,Y,H,Q=>tk Y H λx H1=>tv Y H1 λy H2=>KW r Y H2 λps H3=>Q ((x,y)::ps) H3
abbrev VV:List (V × V)->List (Value × Value)->Prop:=Paired λp q=>za p.1 q.1/\za p.2 q.2
def PPs (X:Cx) (pos:Pos) (keys:List (Option Expr)) (values:Yi) (trs:List (TE × TE)):Prop :=
 ∀ (zB:Yd) (s:Yl) (Y:St) (H:Hp) (Q:List (V × V)->Hp->Prop),Inv X zB Y H s->KW trs Y H Q ->
  wpAny (model X.prog X.w) X.A (evalPairs (pairTrees keys values X.env pos)) (λvs s'=>∃ ps H',Inv X zB Y H' s'/\VV ps vs/\Q ps H') X.xe s
def Ve:PPs X pos [] [] []:=λzB s Y H Q I h=>pairTrees_nil_walk ⟨[],H,I,.nil,h⟩
def X1 (hk:PE X k tk) (hv:PE X v tv) (hr:PPs X pos ks vs trs) :
  PPs X pos (some k::ks) (v::vs) ((tk,tv)::trs):=λzB s Y H Q I h=>
 pairTrees_cons_walk (thn (hk zB s Y H _ I h) λu s1 ⟨x,H1,I1,rx,q1⟩=>thn (hv zB s1 Y H1 _ I1 q1) λw2 s2 ⟨y,H2,I2,ry,q2⟩=>
  thn (hr zB s2 Y H2 _ I2 q2) λws s3 ⟨ps,H3,I3,rel,q3⟩=>⟨(x,y)::ps,H3,I3,.cons ⟨rx,ry⟩ rel,q3⟩)
def Gh (kvs more:List (Key × V)):List (Key × V):=more.foldl (λacc kv=>BV acc kv.1 kv.2) kvs
def KV.merge:∀ {more:List (Key × V)} {rs:List (Key × Value)} {kvs:List (Key × V)} {vs:List (Key × Value)},KV more rs->KV kvs vs->KV (Gh kvs more) (merged vs rs):=by
 intro more rs kvs vs r;erw[KV]at r;induction r generalizing kvs vs with
 |nil=>intro q;calc q
 | @cons p q ps qs h t ih=>
  intro r0;let e:KV (BV kvs p.1 p.2) (stored vs q.1 q.2):=by
   have:=r0.put p.1 h.2;rw[<-h.1];exact this
  calc ih e
theorem N9:∀ (more kvs:List (Key × V)),(Gh kvs more).length<=kvs.length+more.length
 |[],kvs=>by show kvs.length<=kvs.length+0;omega
 |p::r,kvs=>by
  let h1:=N9 r (BV kvs p.1 p.2);let h2:=Jf kvs p.1 p.2;show (Gh (BV kvs p.1 p.2) r).length<=_;rw[Cu];omega
theorem Py:∀ {kvs:List (Key × V)} {ws:List (Value × Value)},VV (kvs.map λkv=>(kV kv.1,kv.2)) ws -> ∃ rs,Carries (ze P w) ws rs/\KV kvs rs
 |[],_,r=>by rw[List.map_nil]at r;ext r;calc ⟨[],True.intro,.nil⟩
 |p::kvs,_,r=>by
  rw[Ad]at r;cases r with
  | @cons a b as bs h t=>
   let⟨rs,c,q⟩:=Py t;let⟨b1,b2⟩:=b;calc ⟨(p.1,b2)::rs,⟨G2 h.1,rfl,c⟩,.cons ⟨rfl,h.2⟩ q⟩
def Wx (trs:List (TE × TE)):TE:=λY H Q=>∀ p,H p=none->KW trs Y (upd H p (.dK [])) λps H2=>H2 p=some (.dK []) /\ ∃ kvs:List (Key × V),ps=kvs.map (λkv=>(kV kv.1,kv.2))/\kvs.length<=15/\Q (.ref p) (upd H2 p (.dK (Gh [] kvs)))
def Qd (h:PPs X pos keys values trs) (hall:keys.all (·.isSome)=true) (hl:keys.length=values.length) (h0:keys≠[])
  (h15:keys.length<=15):PE X (.Dict keys values pos) (Wx trs):=by
 intro zB s Y H Q I q;let hn:=I.hok.fresh (AF ⇑s);let I1:=I.laid (t':=s.toks) (λ_ _ q=>AH _ q) (AF _) (Wd s.heap I.big);refine wpAny_Dict_walk (knd:=ze X.prog X.w) hall hl h0 h15 (thn (h zB _ Y _ _ I1 (q _ hn)) λws s2 ⟨ps,H2,I2,rel,e,kvs,ep,lk,q2⟩=>?_);subst ep;let⟨rs,c,rk⟩:=Py rel;let⟨z,hd,vs0,r0,dd⟩:=OC I2.hok e;ext r0;refine ⟨rs,c,dd,λh' dd' hs=>⟨.ref ⇑s,_,?_,rfl,q2⟩⟩;let hz:(Gh [] kvs).length<=sizeLine:=by
  let h1:=N9 kvs [];rw[Bq]at h1;rw[Cd];omega
 let he:∃ q,h'.get? ⇑s=some q:=let ⟨q,_,_,hq,_⟩:=dd';⟨q,hq⟩;calc Kx I2 (by rw[e];calc True.intro) hs he (Nj hz hd (rk.merge .nil) dd')
theorem Fi:∀ (names:List (Str × NameKind)) (n:Nat) (acc:Yv),cellsFrom n names acc=cellsFrom n names []++acc
 |[],_,_=>rfl
 | (name,kind)::r,n,acc=>by
  erw[cellsFrom];split
  .rw[Fi r (n+1) ((name,n)::acc),Fi r (n+1) [(name,n)],CS];rfl
  .exact Fi r n acc
theorem Gn {α:Type} (x:Str):∀ (l r:List (Str × α)),(l++r).lookup x=(match l.lookup x with|some c=>some c|none=>r.lookup x)
 |[],r=>rfl
 | (k,v)::l,r=>by
  rw[List.cons_append,EK,EK];cases hb:x==k with
  |true=>rfl
  |false=>calc Gn x l r
theorem Jj:∀ (names:List (Str × NameKind)) (acc:Yv),
  (∀ y∈names,y.2=.free -> ∃ c,env.cells.lookup y.1=some c) ->
  (∀ x c,acc.lookup x=some c->env.cells.lookup x=some c) ->
  ∃ cl:List (Str × Addr),(forIn names acc (λ(p:Str × NameKind) (cs:Yv)=>(do
    if p.2 == .free then
     let a <- cellOf env p.1;pure (ForInStep.yield ((p.1,a)::cs))
    else pure (ForInStep.yield cs):Sem (ForInStep (List (Str × Addr))))))=pure cl /\
   (∀ x c,cl.lookup x=some c->env.cells.lookup x=some c) /\
   (∀ x,(acc.lookup x).isSome=true->(cl.lookup x).isSome=true) /\ ∀ y∈names,y.2=.free->(cl.lookup y.1).isSome=true
 |[],acc,_,ha=>⟨acc,by rw[List.forIn_nil],ha,λ_ h=>h,λ_ h=>nomatch h⟩
 | (n,k)::r,acc,hf,ha=>by
  rw[List.forIn_cons];by_cases hk:k=.free
  .subst hk;let⟨c,hc⟩:=hf (n,.free) Az rfl;let hco:cellOf env n=pure c:=by erw[cellOf];rw[hc]
   let⟨cl,e,h1,h2,h3⟩:=Jj r ((n,c)::acc) (λy hy=>hf y (Ay _ hy)) (λx d hx=>by
    rw[EK]at hx;cases hb:x==n with
    |true=>rw[hb]at hx;ext hx;rw[beq_iff_eq.mp hb];calc hc
    |false=>rw[hb]at hx;calc ha x d hx)
   refine ⟨cl,?_,h1,λx hx=>h2 x ?_,λy hy hk=>?_⟩
   .rw[<-e];simp only[beq_self_eq_true,A4,hco];rfl
   .rw[EK];cases hb:x==n with
    |true=>rfl
    |false=>exact hx
   .rcases AL.mp hy with z|z
    .subst z;exact h2 n (by rw[EK];simp)
    .exact h3 y z hk
  .obtain ⟨cl,e,h1,h2,h3⟩:=Jj r acc (λy hy=>hf y (Ay _ hy)) ha;refine ⟨cl,?_,h1,h2,λy hy hk'=>?_⟩
   .rw[<-e];have:(k==NameKind.free)=false:=by simpa using hk
    simp only[this,AZ,Ah];rfl
   .rcases AL.mp hy with z|z
    .subst z;exact absurd hk' hk
    .exact h3 y z hk'
def V6 (hf:∀ y∈scope.names,y.2=.free -> ∃ c,env.cells.lookup y.1=some c) :
  ∃ cl,closureFor scope env=pure cl/\(∀ x c,cl.lookup x=some c->env.cells.lookup x=some c) /\ ∀ y∈scope.names,y.2=.free->(cl.lookup y.1).isSome=true:=by
 let⟨cl,e,h1,_,h3⟩:=Jj scope.names [] hf (λx c h=>nomatch h);calc ⟨cl,?_,h1,h3⟩;erw[closureFor];rw[show (pure cl:Sem _)=pure cl >>= pure from rfl,<-e]
def NJ
  (hQ:Q (newEnv scope ⇑s globals (cellsFrom (⇑s+1) scope.names cl) qual none .none (some env) builtinsNs)
   { s with heap:=pushCells (s.heap.push { cls:=.type "dict", data:=.dict #[] }) scope.names }) :
  wpAny M A (newFunctionEnv scope globals cl [] qual none .none (some env)) Q E s:=by
 simp only[newFunctionEnv,Option.isSome_some,A4];calc AA (wpAny_alloc ?_);refine AA (wpAny_layCells _ (λname kind cells=>by cases hkc:kind==NameKind.cell <;> simp[hkc]) _ _ _ _ ?_);rw[show ({ s with heap:=s.heap.push { cls:=.type "dict", data:=.dict #[] } }:Shared).heap.objs.size=⇑s+1 from BR ..];calc AA (AB (AB hQ))
def zd (X:Cx) (zB:Yd) (scope:Y0) (cl:Yv) (s:Yl) (H:Hp) (fp:Yg):Cx where
 prog:=X.prog
 w:=X.w
 K:=X.K
 mg:=X.mg
 base:=X.base
 A:=X.A
 N:=X.N
 s₀:=s
 H₀:=H
 env:={ scope:=relabel scope X.env,locals:=⇑s+1,globals:=X.env.globals,cells:=cellsFrom (⇑s+1+1) scope.names cl,qual:=X.env.qual,func:=none,code:=X.env.code,frame:=X.env.frame,builtins:=X.env.builtins }
 outer:=X.stack
 stack:=X.stack
 ex:=fp
 fn:=λx=>decide (scope.names.lookup x=some .cell)
 calm:=X.calm
 pn:=X.pn++zB
 xe:=λ_ _=>False
theorem F4 {scope:Y0} {env:Env} (x:Str):∀ {names:List (Str × NameKind)} {k:NameKind},
  (names.map λ(n,k)=>if (k==NameKind.free&&env.scope.kind == .function&&env.kindOf n==some .cell) then (n,NameKind.cell) else (n,k)).lookup x=some k ->
  names.lookup x=some k\/(names.lookup x=some .free/\k=.cell)
 |[],_,h=>by simp at h
 | (n,k')::r,k,h=>by
  rw[Ad]at h;by_cases hc:(k'==NameKind.free&&env.scope.kind == .function&&env.kindOf n==some .cell)=true
  .simp only[hc,A4]at h;rw[EK]at h ⊢;cases hb:x==n with
   |true=>
    rw[hb]at h;simp only[A8,beq_iff_eq]at hc;calc .inr ⟨by rw[hc.1.1],(BG h).symm⟩
   |false=>rw[hb]at h;exact F4 (scope:=scope) x h
  .simp only[hc,AZ,Ah]at h;rw[EK]at h ⊢;cases hb:x==n with
   |true=>rw[hb]at h;calc .inl h
   |false=>rw[hb]at h;calc F4 (scope:=scope) x h
theorem Kd:∀ (names:List (Str × NameKind)) (n:Nat) (acc:Yv) (x:Str) (c:Yt),(x,c)∈cellsFrom n names acc->(x,c)∉acc->(x,NameKind.cell)∈names
 |[],_,_,_,_,h,h'=>absurd h h'
 | (name,kind)::r,n,acc,x,c,h,h'=>by
  erw[cellsFrom]at h;cbv at h
  .rename_i hk;by_cases e:(x,c)=(name,n)
   .cases e;rw[beq_iff_eq]at hk;subst hk;exact Az
   .exact Ay _ (Kd r _ _ x c h λz=>(AL.mp z).elim e h')
  .exact Ay _ (Kd r _ _ x c h h')
structure CompScope (X:Cx) (scope:Y0):Prop where
 kind:scope.kind=.function
 names:∀ y∈scope.names,y.2=.local->scope.names.lookup y.1=some .local
 cells:∀ y∈scope.names,y.2=.cell->scope.names.lookup y.1=some .cell
 free:∀ y∈scope.names,y.2=.free->X.env.kindOf y.1=some .cell\/X.env.kindOf y.1=some .free
def MK (S:CompScope X scope) (I:Inv X zB Y H s) (hf:∀ b∈fp,Br X zB H b) (ho:∀ b:Nat,b∈fp->b<⇑s)
  (c1:∀ x c,cl.lookup x=some c->X.env.cells.lookup x=some c) (c2:∀ y∈scope.names,y.2=.free->(cl.lookup y.1).isSome=true)
  (hl:σc.length=Y.length) (hσ:∀ (i:Nat) x v,X.N[i]?=some x->σc[i]?=some (some v)->(relabel scope X.env).names.lookup x≠none->scope.names.lookup x=some .free/\Y[i]?=some (some v))
  (lo:Obj) (hlo:∀ v,lo.data≠.cell v) (hfr:lo.isFreed=false)
  (h4:s4={ s with heap:=pushCells ((s.heap.push lo).push { cls:=.type "dict", data:=.dict #[] }) scope.names }) :
  Inv (zd X zB scope cl s H fp) [(⇑s,lo)] σc H s4:=by
 subst h4;let sz1:(s.heap.push lo).objs.size=⇑s+1:=BR ..;let sz2:((s.heap.push lo).push { cls:=.type "dict", data:=.dict #[] }).objs.size=⇑s+1+1:=by rw[BR,sz1]
 let hk:∀ b o,s.heap.get? b=some o->(pushCells ((s.heap.push lo).push { cls:=.type "dict", data:=.dict #[] }) scope.names).get? b=some o:=λb o e=>
  pushCells_keeps _ _ b o (AH _ (AH _ e))
 let ok:=cellsFrom_ok scope.names ((s.heap.push lo).push { cls:=.type "dict", data:=.dict #[] }) (⇑s+1+1) [] ⟨λ_ _ hm=>(nomatch hm),List.Pairwise.nil⟩ (by rw[sz2];exact AF _);rw[sz2]at ok;let look:∀ x c,(cellsFrom (⇑s+1+1) scope.names cl).lookup x=some c->((cellsFrom (⇑s+1+1) scope.names []).lookup x=some c)\/((cellsFrom (⇑s+1+1) scope.names []).lookup x=none/\X.env.cells.lookup x=some c):=λx c e=>by
  rw[Fi,Gn]at e;cases q:(cellsFrom (⇑s+1+1) scope.names []).lookup x with
  |some d=>rw[q]at e;calc .inl e
  |none=>rw[q]at e;exact .inr ⟨rfl,c1 x c e⟩
 let old:∀ x (c:Nat),X.env.cells.lookup x=some c->c<⇑s:=λx c e=>let ⟨_,q⟩:=I.cell x c e;q.lt;let new:∀ x (c:Nat),(cellsFrom (⇑s+1+1) scope.names []).lookup x=some c->⇑s+1+1<=c:=λx c e=>(ok.empty x c (Ct e)).2;let own:∀ x,scope.names.lookup x=some .cell -> ∃ c,(cellsFrom (⇑s+1+1) scope.names []).lookup x=some c:=λx e=>JX e;let cne:∀ x (c:Nat),(cellsFrom (⇑s+1+1) scope.names cl).lookup x=some c->c<⇑s\/⇑s+1+1<=c:=λx c e=>by
  rcases look x c e with q|⟨_,q⟩
  .exact .inr (new x c q)
  .exact .inl (old x c q)
 refine ⟨⟨I.ok.mod,S.kind,I.ok.glob,I.ok.blt,Cq _,λx y c h1 h2=>?_,λx hx=>?_,λx c hx h=>?_,I.ok.hd,I.ok.frames,.inl rfl,λb hb=>⟨?_,λx c e z=>?_⟩,I.bs,An I.ok.bsz I.sz,λb o e hb=>?_,λb hb z=>?_,I.stack,I.stkFree⟩,
  rfl,I.bare,Un.kept hk,⟨λ_=>none,?_,λi x v h1 h2 h3=>?_⟩,λx c e=>?_,I.hok.fresh (Cq _),λx c e=>?_,λp hp=>?_,I.hok.kept hk,hl.trans I.len⟩
 .rcases look x c h1 with a|⟨_,a⟩ <;> rcases look y c h2 with b|⟨_,b⟩
  .exact name_of_addr ok.apart (Ct a) (Ct b)
  .exact absurd (Nat.lt_of_le_of_lt (new x c a) (old y c b)) ()
  .exact absurd (Nat.lt_of_le_of_lt (new y c b) (old x c a)) ()
  .exact I.ok.inj x y c a b
 .have hx':(relabel scope X.env).names.lookup x=some .cell\/(relabel scope X.env).names.lookup x=some .free:=hx;let go:scope.names.lookup x=some .cell\/scope.names.lookup x=some .free:=by
   rcases hx' with q|q
   .rcases F4 (scope:=scope) x q with z|z
    .exact .inl z
    .exact .inr z.1
   .rcases F4 (scope:=scope) x q with z|z
    .exact .inr z
    .exact .inr z.1
  show ∃ c,(cellsFrom (⇑s+1+1) scope.names cl).lookup x=some c;rw[Fi,Gn];rcases go with q|q
  .obtain ⟨c,e⟩:=own x q;exact ⟨c,by rw[e]⟩
  .cases e:(cellsFrom (⇑s+1+1) scope.names []).lookup x with
   |some d=>calc ⟨d,rfl⟩
   |none=>exact Option.isSome_iff_exists.mp (c2 (x,.free) (Ct q) rfl)
 .obtain ⟨d,e⟩:=own x (By hx);let h':(cellsFrom (⇑s+1+1) scope.names cl).lookup x=some c:=h;rw[Fi,Gn,e]at h';ext h';exact An (An (Cq _) (Cq _)) (new x _ e)
 .exact AY (Ce (ho b hb))
 .rcases look x c e with q|⟨_,q⟩
  .have a:=new x c q;rw[z]at a;exact absurd (Nat.lt_of_le_of_lt a (ho b hb)) ()
  .exact (hf b hb).2.2.2.2.1 x c q z
 .rcases (hf b hb).2.2.2.1 with z|z
  .exact I.ok.noex b o e z
  .exact absurd (Ao (AG e) (An I.ok.bsz z)) (A7 _)
 .rcases AL.mp (I.stkSub b z)with q|q
  .exact (hf b hb).2.1 q
  .exact (hf b hb).2.2.1 q
 .have q:((s.heap.push lo).push { cls:=.type "dict", data:=.dict #[] }).Ns (s.heap.push lo).objs.size (λ_=>none):=Heap.Ns.new ..;rw[sz1]at q;exact q.keeps (pushCells_keeps _ _)
 .have h3':(relabel scope X.env).names.lookup x≠none:=by
   rcases h3 with z|z|z <;> (intro q;let z':(relabel scope X.env).names.lookup x=_:=z;rw[q]at z';ext z')
  let⟨fr,hv⟩:=hσ i x v h1 h2 h3';let⟨m,hn,hlk⟩:=I.loc;let kx:=S.free (x,.free) (Ct fr) rfl;let⟨u,rv,lk⟩:=hlk i x v h1 hv (by rcases kx with z|z;calc .inr (.inl z);calc .inr (.inr z));calc ⟨u,rv,?_⟩;rcases lk with ⟨z,_⟩|⟨_,c,e,ic⟩
  .rcases kx with k|k <;> (rw[k]at z;ext z)
  .have kind:(relabel scope X.env).names.lookup x=some .cell\/(relabel scope X.env).names.lookup x=some .free:=by
    cases q:(relabel scope X.env).names.lookup x with
    |none=>calc absurd q h3'
    |some k=>
     rcases F4 (scope:=scope) x q with z|z
     .rw[fr]at z;ext z;exact .inr rfl
     .rw[z.2];exact .inl rfl
   refine .inr ⟨kind,c,?_,ic.keeps hk⟩;show (cellsFrom (⇑s+1+1) scope.names cl).lookup x=some c;rw[Fi,Gn];let⟨d,hd⟩:=Option.isSome_iff_exists.mp (c2 (x,.free) (Ct fr) rfl);have:=c1 x d hd;rw[e]at this;ext this;let nn:(cellsFrom (⇑s+1+1) scope.names []).lookup x=none:=by
    cases q:(cellsFrom (⇑s+1+1) scope.names []).lookup x with
    |none=>rfl
    |some d'=>
     let z:=S.cells (x,.cell) (Kd scope.names _ [] x d' (Ct q) λz=>nomatch z) rfl;rw[fr]at z;ext z
   rw[nn];exact hd
 .rcases look x c e with q|⟨_,q⟩
  .exact ⟨none,(ok.empty x c (Ct q)).1⟩
  .obtain ⟨v,z⟩:=I.cell x c q;exact ⟨v,z.keeps hk⟩
 .rcases look x c e with q|⟨_,q⟩
  .exact I.hok.fresh (by have:=new x c q;omega)
  .exact I.freeC x c q
 .have hp':p∈X.pn++zB\/p=(⇑s,lo):=by
   rcases Ab.mp hp with z|z
   .exact .inl z
   .exact .inr (~~~z)
  rcases hp' with z|z
  .obtain ⟨e,n,ne,nf,d⟩:=I.pin p z;let lt:(p.1:Nat)<⇑s:=AG e;refine ⟨hk _ _ e,n,?_,λq=>?_,d⟩
   .exact AY (Ce lt)
   .rcases AL.mp (I.stkSub _ q)with r|r
    .exact ne r
    .exact nf r
  .subst z;refine ⟨pushCells_keeps _ _ _ _ (AH _ (AN _ hfr)),I.hok.fresh (AF _),?_,λq=>?_,hlo⟩
   .show ⇑s≠⇑s+1;omega
   .rcases AL.mp (I.stkSub _ q)with r|r
    .exact absurd I.lt (by rw[<-r];calc A7 _)
    .exact I.nofs (AF _) r
def clr (own:Yj) (Y:St):St:=own.foldl (λY i=>Y.set i none) Y
theorem KI:∀ (own:Yj) (Y:St),(clr own Y).length=Y.length
 |[],_=>rfl
 |i::r,Y=>by
  show (clr r (Y.set i none)).length=_;rw[KI r,Ck]
theorem Hv:∀ (own:Yj) (Y:St) (j:Nat) (v:V),(clr own Y)[j]?=some (some v)->Y[j]?=some (some v)/\j∉own
 |[],_,_,_,h=>⟨h,λz=>nomatch z⟩
 |i::r,Y,j,v,h=>by
  let h':(clr r (Y.set i none))[j]?=some (some v):=h;let⟨a,b⟩:=Hv r _ j v h';rw[CJ]at a;cbv at a
  .split at a <;> ext a
  .rename_i hne;calc ⟨a,λz=>(AL.mp z).elim (λe=>hne e.symm) b⟩
def Ext (a b:St):Prop:=b.length=a.length /\ ∀ (i:Nat) v,a[i]?=some (some v)->b[i]?=some (some v)
def Ext.refl (a:St):Ext a a:=⟨rfl,λ_ _ h=>h⟩
def Ext.set (e:Ext (clr own Y) a) (h:i∈own):Ext (clr own Y) (a.set i (some v)):=by
 refine ⟨by rw[Ck];exact e.1,λj u q=>?_⟩;rw[CJ];split
 .rename_i z;exact absurd (z▸h) (Hv own Y j u q).2
 .exact e.2 j u q
def Fx (X:Cx) (ifs:Yi) (t:TT):Prop :=
 ∀ (zB:Yd) (s:Yl) (Y:St) (H:Hp) (Q:Bool->Hp->Prop),Inv X zB Y H s->t Y H Q ->
  wpAny (model X.prog X.w) X.A (forIn ifs true λc r=>if r=true then do let ok <- isTrue c X.env (eval c X.env);pure (ForInStep.yield ok) else pure (ForInStep.yield r)) (TP X zB Y Q) X.xe s
def YR:TT:=λ_ H Q=>Q true H
def Tq:Fx X [] YR:=λ_ _ _ H _ I h=>wpAny_tests_nil ⟨H,I,h⟩
def VF (h:PT X c t):Fx X [c] t:=λzB s Y H Q I hq=>wpAny_tests_one (h zB s Y H Q I hq)
def SX (I:Nat->Shared->Prop)
  (turn:∀ n s,I n s->wpAny (model prog w) A (pyNext it) (λr s₁=>match r with
   |none=>R (.ok .next) s₁
   |some v=>wpAny (model prog w) A (letOwnedTupleGo target it v) (λ_ s₁'=>wpAny (model prog w) A (assign target env v) (λ_ s₂=>
     wpAny (model prog w) A (forIn ifs true λc r=>if r=true then do let ok <- isTrue c env (eval c env);pure (ForInStep.yield ok) else pure (ForInStep.yield r)) (λok s₃=>
      if ok=true then wpAny (model prog w) A (eval elt env) (λx s₄=>
       wpAny (model prog w) A (call (.builtin "list.append") [acc,x]) (λ_ s₅=>∃ m,m<n/\I m s₅) (λ_ _=>False) s₄) (λ_ _=>False) s₃
      else ∃ m,m<n/\I m s₃) (λ_ _=>False) s₂) (λ_ _=>False) s₁') (λ_ _=>False) s₁) (λ_ _=>False) s)
  (n:Nat) (h:I n s) :
  codeAny (model prog w) A (.compLoop (.ListComp elt [⟨target,iter,ifs,0⟩] scope pos) 0 it acc env) R s:=by
 refine codeAny_loop rfl I (λn s hI=>?_) n h;show wpAny _ A ((compTurn (.ListComp elt [⟨target,iter,ifs,0⟩] scope pos) 0 it acc env).onRaise (λx=>do noteFrame x env;theTreesLotGoes x)) _ _ s;calc wpAny_noted ?_;rw[compTurn_list];refine AA (wpAny_standAt (AA (Aq (turn n s hI) (λr s₁ h₁=>?_) λ_ _ h'=>h'.elim)));cases r with
 |none=>calc AB h₁
 |some v=>
  refine AA (Aq h₁ (λ_ s₁' h₁'=>?_) λ_ _ h'=>h'.elim);refine AA (Aq h₁' (λ_ s₂ h₂=>AA (Aq h₂ (λok s₃ h₃=>?_) λ_ _ h'=>h'.elim)) λ_ _ h'=>h'.elim);cases ok with
  |false=>calc AB ⟨rfl,h₃⟩
  |true=>
   calc AA (AA (Aq h₃ (λx s₄ h₄=>AA (Aq h₄ (λ_ s₅ h₅=>AB (AB ⟨rfl,h₅⟩)) λ_ _ h'=>h'.elim)) λ_ _ h'=>h'.elim))
def KC (own:Yj) (wi:TI) (g:TG) (tc:TT) (te:TE):TE:=λY H Q=>wi Y H λJ H1=>∃ W:Nat->Nat->List V->Hp->Prop,(∃ m,W 0 m [] H1) /\ ∀ i m ys H,W i m ys H ->
 (J.stop i H/\ys.length<=sizeLine /\ ∀ D,H D=none->Q (.ref D) (upd H D (.lst ys))) \/
 (J.go i H /\ ∀ x H',J.yld i H x H'->g x (clr own Y) H' λσ2 H2=>Ext (clr own Y) σ2/\tc σ2 H2 λb H3=>
  if b=true then te σ2 H3 λv H4=>ys.length<sizeLine /\ ∃ m',m'<m/\W (i+1) m' (ys++[v]) H4 else ∃ m',m'<m/\W (i+1) m' ys H3)
abbrev B7 (its:List Value) (n:Nat):Obj:={ cls:=.type "list", data:=.seq its.toArray n }
def Inv.repin (I:Inv X (pl++[(D,o)]) Y H s) (hpl:∀ p∈X.pn++pl,p.1≠D) (hs:Heap.SameBut D s.heap h') (hD:⇑X.s₀<=D) (hc:∀ x c,X.env.cells.lookup x=some c->c≠D)
  (e:h'.get? D=some o') (hn:∀ v,o'.data≠.cell v):Inv X (pl++[(D,o')]) Y H { s with heap:=h' }:=by
 let⟨e0,n0,ne0,nf0,d0⟩:=I.pin (D,o) (by simp);let I1:Inv X pl Y H s:=I.pins_of λp hp=>I.pin p (by simp[hp]);let I2:Inv X pl Y H { s with heap:=h' }:=I1.turned (λb u hb q=>hs.extBut b u hb q) n0 ne0 (.inr hD) hc hpl;exact I2.pins_of λp hp=>by
  rcases Ab.mp hp with z|z
  .exact I2.pin p (Bb _ z)
  .have:p=(D,o'):=by simpa using z
   subst this;calc ⟨e,n0,ne0,nf0,hn⟩
section
variable {pos:Pos}
 {own:Yj} {g:TG} {tc:TT} {te:TE} {E:Yc}
structure CompIn (X:Cx) (scope:Y0) (own:Yj):Prop where
 sc:CompScope X scope
 nm:∀ (i:Nat) x,X.N[i]?=some x->i∈own\/scope.names.lookup x=none\/scope.names.lookup x=some .free
def NQ (x:Str) (h:scope.names.lookup x=none):(relabel scope env).names.lookup x=none:=by
 cases q:(relabel scope env).names.lookup x with
 |none=>rfl
 |some k=>
  rcases F4 (scope:=scope) x q with z|z
  .rw[h]at z;ext z
  .rw[h]at z;cases z.1
def N6 (C:CompIn X scope own) (hcalm:X.calm=true) (I:Inv X zB Y H s) (T:Turn X.prog X.w X.K tg J fp it tn) (st:tn 0 s.heap) (hf:∀ b∈fp,Br X zB H b)
  (c1:∀ x c,cl.lookup x=some c->X.env.cells.lookup x=some c) (c2:∀ y∈scope.names,y.2=.free->(cl.lookup y.1).isSome=true)
  (hg:PG (zd X zB scope cl s H fp) tg g) (hi:Fx (zd X zB scope cl s H fp) ifs tc) (he:PE (zd X zB scope cl s H fp) elt te)
  {RR:Value->Addr->Result->Shared->Prop} {QQ:List V->Hp->Prop} {W:Nat->Nat->List V->Hp->Prop} {m0:Nat} (w0:W 0 m0 [] H)
  (turn:∀ i m ys H,W i m ys H->(J.stop i H/\ys.length<=sizeLine/\QQ ys H) \/
   (J.go i H /\ ∀ x H',J.yld i H x H'->g x (clr own Y) H' λσ2 H2=>Ext (clr own Y) σ2/\tc σ2 H2 λb H3=>
    if b=true then te σ2 H3 λv H4=>ys.length<sizeLine /\ ∃ m',m'<m/\W (i+1) m' (ys++[v]) H4 else ∃ m',m'<m/\W (i+1) m' ys H3))
  (fin:∀ σc H' s' its n ys,Inv (zd X zB scope cl s H fp) [(⇑s,B7 its n)] σc H' s'->zU ys its->ys.length<=sizeLine->QQ ys H'->RR (.ref ⇑s) (⇑s+1) (.ok .next) s') :
  wpAny (model X.prog X.w) X.A (newList []) (λacc s₃=>wpAny (model X.prog X.w) X.A (newFunctionEnv scope X.env.globals cl [] X.env.qual none .none (some X.env)) (λcenv s₄=>
   codeAny (model X.prog X.w) X.A (.compStart (.ListComp elt [⟨tg,iter,ifs,0⟩] scope pos) 0 (.ref it) acc { cenv with scope:=relabel scope X.env }) (RR acc cenv.locals) s₄) E s₃) E s:=by
 let ob:∀ b:Nat,b∈fp->b<⇑s:=λb hb=>let ⟨_,e,_⟩:=T.obj 0 _ st b hb;AG e;refine Aw (NJ ?_);let sz1:(s.heap.push (B7 [] 0)).objs.size=⇑s+1:=BR ..;let I4:=MK C.sc I hf ob c1 c2 (KI own Y) (λi x v h1 h2 h3=>by
  let⟨a,b⟩:=Hv own Y i v h2;rcases C.nm i x h1 with z|z|z
  .exact absurd z b
  .exact absurd (NQ x z) h3
  .exact ⟨z,a⟩) (B7 [] 0) (by intro v z;ext z) rfl rfl
 let st4:tn 0 (pushCells ((s.heap.push (B7 [] 0)).push { cls:=.type "dict", data:=.dict #[] }) scope.names):=T.keep 0 _ _ st λb _ o e=>pushCells_keeps _ _ b o (AH _ (AH _ e));erw[newEnv];rw[sz1];let hDfp:⇑s∉fp:=λz=>A7 _ (ob _ z);let hcD:∀ x c,(zd X zB scope cl s H fp).env.cells.lookup x=some c->c≠⇑s:=λx c e z=>by
  let⟨v,o,ho,hd⟩:=I4.cell x c e;let⟨q,_⟩:=I4.pin (⇑s,B7 [] 0) (by simp);rw[z,q]at ho;ext ho;ext hd
 let fpk:∀ {H':Hp} {pl:Yd},(∀ b∈fp,H' b=none)->(∀ p∈pl,p.1=⇑s) -> ∀ b∈fp,Br (zd X zB scope cl s H fp) pl H' b:=λ{H' pl} hn hp b hb=>
  ⟨hn b hb,(I4.ok.exf b hb).1,I4.ok.exfs b hb,.inl hb,(I4.ok.exf b hb).2,λp hq=>by
   rcases Ab.mp hq with z|z
   .exact (hf b hb).2.2.2.2.2 p z
   .intro e;let e2:=hp p z;rw[e]at e2;calc hDfp (e2▸hb)⟩
 let loop:codeAny (model X.prog X.w) X.A (.compLoop (.ListComp elt [⟨tg,iter,ifs,0⟩] scope pos) 0 (.ref it) (.ref ⇑s) (zd X zB scope cl s H fp).env) (RR (.ref ⇑s) (⇑s+1))
   { s with heap:=pushCells ((s.heap.push (B7 [] 0)).push { cls:=.type "dict", data:=.dict #[] }) scope.names }:=by
  refine SX (λn s'=>∃ i H' ys its k,Inv (zd X zB scope cl s H fp) [(⇑s,B7 its k)] (clr own Y) H' s'/\zU ys its/\tn i s'.heap/\(∀ b∈fp,H' b=none)/\W i n ys H') ?_ m0
   ⟨0,H,[],[],0,I4,.nil,st4,λb hb=>(hf b hb).1,w0⟩
  rintro n s5 ⟨i,H5,ys,its,k,I5,r5,st5,f5,w5⟩;let pinD:∀ p∈[(⇑s,B7 its k)],p.1=⇑s:=λp hp=>by
   have:p=(⇑s,B7 its k):=by simpa using hp
   rw[this]
  rcases turn i n ys H5 w5 with ⟨stop,hz,qq⟩|⟨go,step⟩
  .refine thn (T.done (zd X zB scope cl s H fp) rfl rfl rfl hcalm i _ s5 _ H5 _ I5 (fpk f5 pinD) st5 stop) λr s6 ⟨hr,I6⟩=>?_;subst hr;exact fin _ H5 s6 its k ys I6 r5 hz qq
  .refine thn (T.item (zd X zB scope cl s H fp) rfl rfl rfl hcalm i _ s5 _ H5 _ I5 (fpk f5 pinD) st5 go) λr s6 ⟨u,hr,h6⟩=>?_;subst hr;refine thn h6 λ_ s7 ⟨x,H7,I7,r7,y7,st7,f7⟩=>?_;let I7':=I7.pinned (fpk f7 pinD) (T.obj _ _ st7);refine thn (hg _ s7 _ H7 x u _ I7' r7 (step x H7 y7)) λ_ s8 ⟨σ8,H8,I8,x8,q8⟩=>?_;refine thn (hi _ s8 σ8 H8 _ I8 q8) λok s9 ⟨H9,I9,q9⟩=>?_;let back:∀ {s':Yl} {Hx:Hp},Inv (zd X zB scope cl s H fp) ([(⇑s,B7 its k)]++GP fp s7.heap) σ8 Hx s'->tn (i+1) s'.heap /\ ∀ b∈fp,Hx b=none:=λ{s' Hx} Ix=>
    ⟨T.keep _ _ _ st7 λb hb o e=>(Ix.pin (b,o) (Bb _ (Bb _ (F8 hb e)))).1,λb hb=>by
     let⟨o,e,d⟩:=T.obj _ _ st7 b hb;calc (Ix.pin (b,o) (Bb _ (Bb _ (F8 hb e)))).2.1⟩
   cases ok with
   |false=>
    let⟨m',hm,w'⟩:=q9;let⟨b1,b2⟩:=back I9;calc ⟨m',hm,i+1,H9,ys,its,k,(I9.weak (by rw[x8.1]) x8.2).unpinned,r5,b1,b2,w'⟩
   |true=>
    refine thn (he _ s9 σ8 H9 _ I9 q9) λv s10 ⟨y,H10,I10,r10,hlt,m',hm,w'⟩=>?_;let⟨b1,b2⟩:=back I10;let J10:=(I10.weak (by rw[x8.1]) x8.2).unpinned;let⟨e10,n10,ne10,nf10,d10⟩:=J10.pin (⇑s,B7 its k) (by simp);let hlen:its.toArray.size<=sizeLine:=by
     have:=r5.length;rw[AS,<-this];exact CH hlt
    refine wpAny_list_append_plain (show s10.heap.PlainList ⇑s its.toArray from ⟨k,e10⟩) λh' hl' hs'=>?_;let⟨k',e'⟩:=hl';let e'':h'.get? ⇑s=some (B7 (its++[v]) k'):=by rw[e'];simp[B7]
    refine ⟨m',hm,i+1,H10,ys++[y],its++[v],k',?_,r5.append (.cons r10 .nil),T.keep _ _ _ b1 λb hb o e=>hs'.extBut b o (λz=>hDfp (z▸hb)) e,b2,w'⟩;refine Inv.repin (pl:=[]) J10 (λp hp=>?_) hs' (AF _) hcD e'' (by intro v z;ext z);rw[C1]at hp;let hp':p∈X.pn++zB:=hp;exact AY (AG (I.pin p hp').1)
 calc codeAny_compStart_list loop (T.self _ 0 _ _ _ st4 loop)
end
def PN (I:Inv X zB Y H s) (hf:∀ b∈fp,Br X zB H b)
  (Ic:Inv (zd X zB scope cl s H fp) [(⇑s,B7 its n)] σc H' s') (rv:zU ys its) (hz:ys.length<=sizeLine) (hs:Heap.SameBut (⇑s+1) s'.heap h') :
  Inv X zB Y (upd H' ⇑s (.lst ys)) { s' with heap:=h' }/\H' ⇑s=none:=by
 let⟨eD,nD,_⟩:=Ic.pin (⇑s,B7 its n) (by simp);let nC:H' (⇑s+1)=none:=Ic.free;let eD':h'.get? ⇑s=some (B7 its n):=hs.extBut _ _ (AY (CL _)) eD;let lt1:∀ {b:Yt} {o:Obj},s.heap.get? b=some o->b≠⇑s+1/\b≠⇑s:=λe=>⟨AY (Ce (AG e)),AY (AG e)⟩;let tr:∀ b u,H' b=some u->b≠⇑s+1/\b≠⇑s:=λb u e=>⟨λz=>(by rw[z,nC]at e;ext e),λz=>(by rw[z,nD]at e;ext e)⟩;refine ⟨?_,nD⟩;let B:=Ic.base;let un:Un (frs X.stack) fp H (upd H' ⇑s (.lst ys)) s.heap h':=by
  refine ⟨λb o e q hb hx=>hs.extBut b o (lt1 e).1 (B.keep b o e q hb hx),λb o e q hb hx=>?_,λb o e q hx=>?_,λb o e hx=>?_,λb xs e=>?_,λb o xs e=>?_,λb ps e=>?_⟩
  .obtain ⟨sl,e1⟩:=B.slot b o e q hb hx;exact ⟨sl,hs.extBut b _ (lt1 e).1 e1⟩
  .rw[zT (lt1 e).2];exact B.free b o e q hx
  .obtain ⟨o',e1⟩:=B.there b o e hx;exact ⟨o',hs.extBut b _ (lt1 e).1 e1⟩
  .have q:=B.tups b xs e;rw[zT (tr b _ q).2];exact q
  .have q:=B.frzs b o xs e;rw[zT (tr b _ q).2];exact q
  .obtain ⟨more,q⟩:=B.tbls b ps e;exact ⟨more,by rw[zT (tr b _ q).2];calc q⟩
 let hok:HOk X.prog X.w (upd H' ⇑s (.lst ys)) h':=λb u e=>by
  by_cases hb:b=⇑s
  .subst hb;rw[DI]at e;ext e;exact ⟨hz,its,n,rv,eD'⟩
  .rw[zT hb]at e;refine (Ic.hok b u e).stay (λc v hc q=>hs.extBut c v ?_ q) (λc q=>by rw[zT (tr c _ q).2];exact q) λc xs q=>by rw[zT (tr c _ q).2];exact q
   rcases hc with z|z
   .rw[z];exact (tr b u e).1
   .exact (tr c _ z).1
 calc I.call' Ic.os un hok Ic.bare λb hb=>⟨(hf b hb).2.2.2.1,(hf b hb).2.1,(hf b hb).2.2.2.2.1,(hf b hb).2.2.2.2.2⟩
structure CompParts (X:Cx) (scope:Y0) (tg:Expr) (ifs:Yi) (elt:Expr) (g:TG) (tc:TT) (te:TE):Prop where
 g:∀ zB cl s H fp,PG (zd X zB scope cl s H fp) tg g
 c:∀ zB cl s H fp,Fx (zd X zB scope cl s H fp) ifs tc
 e:∀ zB cl s H fp,PE (zd X zB scope cl s H fp) elt te
def CompScope.closure (S:CompScope X scope) (I:Inv X zB Y H s) :
  ∃ cl,closureFor scope X.env=pure cl/\(∀ x c,cl.lookup x=some c->X.env.cells.lookup x=some c) /\ ∀ y∈scope.names,y.2=.free->(cl.lookup y.1).isSome=true :=
 V6 λy hy hk=>I.ok.has y.1 (S.free y hy hk)
def VR (C:CompIn X scope own) (hcalm:X.calm=true) (hi:PI X tg iter wi) (p:CompParts X scope tg ifs elt g tc te) (hs:∀ x,foldedSetIterable iter X.env x=pure x:=by intro _;rfl) :
  PE X (.ListComp elt [⟨tg,iter,ifs,0⟩] scope pos) (KC own wi g tc te):=by
 intro zB s Y H Q I h;let⟨cl,hcl,c1,c2⟩:=C.sc.closure I;rw[eval_ListComp];refine wpAny_comprehension_free rfl hs hcl C.sc.kind C.sc.names (thn (hi zB s Y H _ I h) λv s1 h1=>thn h1 λitv s2 h2=>?_);let⟨it,fp,tn,J,H2,e,I2,T,st2,f2,W,⟨m0,w0⟩,turn⟩:=h2;subst e;calc N6 C hcalm I2 T st2 f2 c1 c2 (p.g _ _ _ _ _) (p.c _ _ _ _ _) (p.e _ _ _ _ _) w0 turn ?_;intro σc H' s' its n ys Ic rv hz qq;let⟨m,hn,_⟩:=Ic.loc;refine ⟨m,hn,λh' hs'=>?_⟩;let⟨J',nD⟩:=PN I2 f2 Ic rv hz hs';calc ⟨.ref ⇑s2,_,J',rfl,qq _ nD⟩
def Xl (hN:X.N.Nodup) (hi':X.N[i]?=some x) (hx:Loc X.env.scope x) (hfn:X.fn x=true\/X.env.scope.names.lookup x=some .local)
  (C:CompIn X scope own) (hcalm:X.calm=true) (hi:PI X tg iter wi) (p:CompParts X scope tg ifs elt g tc te)
  (hsw:swapsWith (.ListComp elt [⟨tg,iter,ifs,0⟩] scope pos) (some (.Name x pos')) pos''.line X.env=pure true) (hs:∀ x,foldedSetIterable iter X.env x=pure x:=by intro _;rfl) :
  PS X (.Assign [.Name x pos'] (.ListComp elt [⟨tg,iter,ifs,0⟩] scope pos) pos'') (IZ (KC own wi g tc te) (Dx i)):=by
 intro zB s Y H D I h;let⟨cl,hcl,c1,c2⟩:=C.sc.closure I;rw[exec_Assign_Name_used _ _ _ _ hsw];refine AA (wpAny_standAt (AA ?_))
 refine AA (Aq (wpAny_comprehension_free rfl hs hcl C.sc.kind C.sc.names
  (thn (hi zB s Y H _ I h) λv s1 h1=>thn h1 λitv s2 h2=>?_)) (λ_ s' hq=>AB (AB hq)) λ_ _ e=>e)
 let⟨it,fp,tn,J,H2,e,I2,T,st2,f2,W,⟨m0,w0⟩,turn⟩:=h2;subst e
 refine N6 C hcalm I2 T st2 f2 c1 c2 (p.g _ _ _ _ _) (p.c _ _ _ _ _) (p.e _ _ _ _ _)
  w0 turn ?_
 intro σc H' s' its n ys Ic rv hz qq;let⟨m,hn,_⟩:=Ic.loc;let⟨J',nD⟩:=PN I2 f2 Ic rv hz (.refl ..);let⟨oC,es,ep,hoC,hdC,r1,r2⟩:=id hn;let nC:upd H' ⇑s2 (.lst ys) (⇑s2+1)=none:=by rw[zT (DM (CL _))];exact Ic.free
 let K':Inv X (zB++[(⇑s2+1,oC)]) Y (upd H' ⇑s2 (.lst ys)) s':=J'.pins_of λq hq=>by
  rcases Ab.mp hq with z|z
  .exact J'.pin q (Bb _ z)
  .have e:q=(⇑s2+1,oC):=by simpa using z
   subst e;refine ⟨hoC,nC,DM (Ce I2.lt),I2.nofs (Cq _),λv z=>?_⟩;let z':oC.data=.cell v:=z;rw[hdC]at z';ext z'
 refine thn (PU hN hi' hx hfn _ s' Y _ (.ref ⇑s2) (.ref ⇑s2) _ K' rfl (qq _ nD)) λ_ s'' ⟨Y'',H'',I'',q''⟩=>?_;let⟨eC,_⟩:=I''.pin (⇑s2+1,oC) (by simp);refine ⟨m,⟨oC,es,ep,eC,hdC,r1,r2⟩,λh' hs'=>⟨Y'',H'',?_,q''⟩⟩;let I3:Inv X zB Y'' H'' s'':=I''.unpinned;let⟨_,nC'',neC,_,_⟩:=I''.pin (⇑s2+1,oC) (by simp);refine I3.turned (λb o hb e=>hs'.extBut b o hb e) nC'' neC (.inr (An I2.sz (Cq _))) (λx c e z=>?_) (λq hq z=>?_)
 .obtain ⟨v,o,ho,hd⟩:=I3.cell x c e;rw[z,eC]at ho;ext ho;rw[hdC]at hd;ext hd
 .obtain ⟨e,_⟩:=I2.pin q hq;calc AY (Ce (AG e)) z
end L2
namespace L3
open L2
abbrev Sv:=List (Option V)
def HX (H:Hp) (v:Yu):Prop:=∃ a oc vs q t,v=.ref a/\H a=some (.frz oc (.ext λ_=>True))/\oc.data=.fields vs/\vs[1]?=some (.str q t)
structure Lm where
 f:Addr
 c:Value
 us:List V
set_option genInjectivity true in
inductive D where
 |non|bl (b:Bool)|int (i:Int)|str (x:Str)|tup (xs:List D)|ref (n:Nat)|fn (l:Lm) (ds:List D)
set_option genInjectivity true in
inductive MO where
 |lst (xs:List D)|fro (xs:List D)|dict (kvs:List (D × D))|dicT (kvs:List (D × D))|set (xs:List D)|froT (kvs:List (D × D))|froK (kvs:List (D × D))
mutual
def Rep (L:Yg) (H:Hp):D->V->Prop
 |.non,v=>v=.non
 |.bl b,v=>v=.bl b
 |.int i,v=>v=.int i
 |.str x,v=>v=.str x
 |.tup ds,v=>∃ a vs,v=.ref a/\H a=some (.tup vs)/\zG L H ds vs
 |.ref n,v=>∃ a,v=.ref a/\L[n]?=some a
 |.fn l ds,v=>v=.ref l.f/\HX H l.c/\zG L H ds l.us
def zG (L:Yg) (H:Hp):List D->List V->Prop
 |[],vs=>vs=[]
 |d::ds,vs=>∃ v r,vs=v::r/\Rep L H d v/\zG L H ds r
end
def zG.length:∀ {ds:List D} {vs:List V},zG L H ds vs->vs.length=ds.length
 |[],_,h=>by erw[zG]at h;subst h;rfl
 |d::ds,_,h=>by
  erw[zG]at h;let⟨v,r,rfl,_,h2⟩:=h;simp[zG.length h2]
def zG.nil:zG L H [] []:=by erw[zG];rfl
def zG.cons (h:Rep L H d v) (t:zG L H ds vs):zG L H (d::ds) (v::vs):=by
 erw[zG];calc ⟨v,vs,rfl,h,t⟩
def zG.get:∀ {ds:List D} {vs:List V} {i:Nat} {d:D},zG L H ds vs->ds[i]?=some d -> ∃ v,vs[i]?=some v/\Rep L H d v
 |[],_,_,_,_,e=>by simp at e
 |d::ds,_,0,d',h,e=>by
  erw[zG]at h;let⟨v,r,rfl,h1,h2⟩:=h;simp at e;subst e;calc ⟨v,rfl,h1⟩
 |d::ds,_,i+1,d',h,e=>by
  erw[zG]at h;let⟨v,r,rfl,h1,h2⟩:=h;let⟨u,e1,e2⟩:=zG.get (i:=i) h2 (~~~e);calc ⟨u,by simpa using e1,e2⟩
def zG.app:∀ {ds es:List D} {vs ws:List V},zG L H ds vs->zG L H es ws->zG L H (ds++es) (vs++ws)
 |[],_,_,_,h,t=>by erw[zG]at h;subst h;calc t
 |d::ds,_,_,_,h,t=>by
  erw[zG]at h;let⟨v,r,rfl,h1,h2⟩:=h;calc .cons h1 (zG.app h2 t)
def zG.set (h:Rep L H d v):∀ {ds:List D} {vs:List V} (i:Nat),zG L H ds vs->zG L H (ds.set i d) (vs.set i v)
 |[],_,_,t=>by erw[zG]at t;subst t;calc .nil
 |_::_,_,0,t=>by
  erw[zG]at t;let⟨v',r,rfl,h1,h2⟩:=t;calc .cons h h2
 |_::_,_,i+1,t=>by
  erw[zG]at t;let⟨v',r,rfl,h1,h2⟩:=t;calc .cons h1 (zG.set h i h2)
def zG.drop:∀ {ds:List D} {vs:List V} (n:Nat),zG L H ds vs->zG L H (ds.drop n) (vs.drop n)
 |_,_,0,t=>t
 |[],_,n+1,t=>by erw[zG]at t;subst t;calc .nil
 |_::_,_,n+1,t=>by
  erw[zG]at t;let⟨v',r,rfl,h1,h2⟩:=t;calc zG.drop n h2
def zG.take:∀ {ds:List D} {vs:List V} (n:Nat),zG L H ds vs->zG L H (ds.take n) (vs.take n)
 |_,_,0,t=> .nil
 |[],_,n+1,t=>by erw[zG]at t;subst t;calc .nil
 |_::_,_,n+1,t=>by
  erw[zG]at t;let⟨v',r,rfl,h1,h2⟩:=t;calc .cons h1 (zG.take n h2)
def zG.eraseIdx:∀ {ds:List D} {vs:List V} (n:Nat),zG L H ds vs->zG L H (ds.eraseIdx n) (vs.eraseIdx n)
 |[],_,n,t=>by erw[zG]at t;subst t;calc .nil
 |_::_,_,0,t=>by
  erw[zG]at t;let⟨v',r,rfl,h1,h2⟩:=t;calc h2
 |_::_,_,n+1,t=>by
  erw[zG]at t;let⟨v',r,rfl,h1,h2⟩:=t;calc .cons h1 (zG.eraseIdx n h2)
def HX.keep (h:∀ a o u,H a=some (.frz o u)->H' a=some (.frz o u)) (x:HX H v):HX H' v :=
 let ⟨a,oc,vs,q,t,e1,e2,r⟩:=x;⟨a,oc,vs,q,t,e1,h _ _ _ e2,r⟩
def Eh (H:Hp) (ps:Yp):Prop:=PySem.TriplesOk ps.toList /\ ∀ pos v,codeAmong pos ps.toList=some v->HX H v
def Eh.keep (h:∀ a o u,H a=some (.frz o u)->H' a=some (.frz o u)) (g:Eh H ps):Eh H' ps :=
 ⟨g.1,λpos v e=>(g.2 pos v e).keep h⟩
abbrev NT (o:HO):Prop:=∀ ps,o≠.tbl ps
structure Stp (L:Yg) (H:Hp) (L':Yg) (H':Hp):Prop where
 pre:∃ N,L'=L++N
 new:∀ a∈L',a∈L\/H a=none
 old:∀ a o,H a=some o->a∉L->NT o->H' a=some o
 tup:∀ a xs,H a=some (.tup xs)->H' a=some (.tup xs)
 frz:∀ a o u,H a=some (.frz o u)->H' a=some (.frz o u)
 tbl:∀ a ps,H a=some (.tbl ps) -> ∃ ps',H' a=some (.tbl ps')/\(Eh H ps->Eh H' ps')
def Stp.refl (L:Yg) (H:Hp):Stp L H L H:=⟨⟨[],by simp⟩,λ_ h=> .inl h,λ_ _ h _ _=>h,λ_ _ h=>h,λ_ _ _ h=>h,λ_ ps h=>⟨ps,h,id⟩⟩
def I0 (hf:∀ a o u,H a=some (.frz o u)->H' a=some (.frz o u)) (h:∀ a ps,H a=some (.tbl ps)->H' a=some (.tbl ps)) :
  ∀ a ps,H a=some (.tbl ps) -> ∃ ps',H' a=some (.tbl ps')/\(Eh H ps->Eh H' ps'):=λa ps e=>⟨ps,h a ps e,.keep hf⟩
def Stp.trans (a:Stp L H L1 H1) (b:Stp L1 H1 L2 H2):Stp L H L2 H2:=by
 let⟨N,rfl⟩:=a.pre;let⟨N',rfl⟩:=b.pre;let back:∀ c,c∉L->H1 c=none->H c=none:=λc hc h1=>by
  cases q:H c with
  |none=>rfl
  |some o=>
   by_cases z:NT o
   .rw[a.old c o q hc z]at h1;ext h1
   .obtain ⟨ps,z⟩:=Classical.not_forall.mp z;rw[Classical.not_not.mp z]at q;let⟨ps',e,_⟩:=a.tbl c ps q;rw[e]at h1;ext h1
 refine ⟨⟨N++N',by simp⟩,λc hc=>?_,λc o e hc nt=>?_,λc xs e=>b.tup c xs (a.tup c xs e),λc o u e=>b.frz c o u (a.frz c o u e),λc ps e=>?_⟩
 .by_cases hL:c∈L
  .exact .inl hL
  .rcases b.new c hc with z|z
   .exact a.new c z
   .exact .inr (back c hL z)
 .refine b.old c o (a.old c o e hc nt) (λz=>?_) nt;rcases a.new c z with q|q
  .exact hc q
  .rw[q]at e;ext e
 .obtain ⟨p1,e1,g1⟩:=a.tbl c ps e;let⟨p2,e2,g2⟩:=b.tbl c p1 e1;calc ⟨p2,e2,λg=>g2 (g1 g)⟩
def Stp.grow (h:∀ a o,H a=some o->H' a=some o):Stp L H L H':=⟨⟨[],by simp⟩,λ_ h=> .inl h,λa o e _ _=>h a o e,λa _ e=>h a _ e,λa _ _ e=>h a _ e,I0 (λa _ _ e=>h a _ e) λa _ e=>h a _ e⟩
def Stp.bare (s:Stp [] H N H'):Stp L H L H':=⟨⟨[],by simp⟩,λ_ h=> .inl h,λa o e _ nt=>s.old a o e (by simp) nt,s.tup,s.frz,s.tbl⟩
theorem Stp.upd (h:H p=none):Stp L H L (upd H p o):=.grow λa u e=>by rw[zT (DG e h)];calc e
def HN {L N:Yg} {n:Nat} {a:Yt} (h:L[n]?=some a):(L++N)[n]?=some a:=by
 rw[BI (AK.mp h).1];calc h
mutual
theorem Rep.stp {L L':Yg} {H H':Hp} (s:Stp L H L' H'):∀ {d:D} {v:V},Rep L H d v->Rep L' H' d v
 |.non,_,h=>by unfold Rep at h ⊢;calc h
 |.bl _,_,h=>by unfold Rep at h ⊢;calc h
 |.int _,_,h=>by unfold Rep at h ⊢;calc h
 |.str _,_,h=>by unfold Rep at h ⊢;calc h
 |.tup ds,_,h=>by
  unfold Rep at h ⊢;let⟨a,vs,rfl,e,r⟩:=h;calc ⟨a,vs,rfl,s.tup a vs e,zG.stp s r⟩
 |.ref n,_,h=>by
  unfold Rep at h ⊢;let⟨a,rfl,e⟩:=h;let⟨N,rfl⟩:=s.pre;calc ⟨a,rfl,HN e⟩
 |.fn _ ds,_,h=>by
  unfold Rep at h ⊢;calc ⟨h.1,h.2.1.keep s.frz,zG.stp s h.2.2⟩
theorem zG.stp (s:Stp L H L' H'):∀ {ds:List D} {vs:List V},zG L H ds vs->zG L' H' ds vs
 |[],_,h=>by unfold zG at h ⊢;calc h
 |d::ds,_,h=>by
  unfold zG at h ⊢;let⟨v,r,rfl,h1,h2⟩:=h;calc ⟨v,r,rfl,Rep.stp s h1,zG.stp s h2⟩
end
def Ak:D->Option Key
 |.int i=>some (.inl i)
 |.str x=>some (.inr x)
 |_=>none
def DS:List D->Option (List Key)
 |[]=>some []
 |d::r=>match Ak d,DS r with
  |some k,some ks=>some (k::ks)
  |_,_=>none
def tkD:D->Option (List Key)
 |.tup ds=>DS ds
 |_=>none
def AR {κ:Type} (kf:D->Option κ) (L:Yg) (H:Hp):List (D × D)->List (κ × V)->Prop
 |[],vs=>vs=[]
 |p::r,vs=>∃ k v r',vs=(k,v)::r'/\kf p.1=some k/\Rep L H p.2 v/\AR kf L H r r'
def AR.stp {κ:Type} {kf:D->Option κ} {L L':Yg} {H H':Hp} (s:Stp L H L' H'):∀ {ps:List (D × D)} {vs:List (κ × V)},AR kf L H ps vs->AR kf L' H' ps vs
 |[],_,h=>h
 |p::r,_,h=>by
  let⟨k,v,r',rfl,e,h1,h2⟩:=h;calc ⟨k,v,r',rfl,e,h1.stp s,AR.stp s h2⟩
def AR.length {κ:Type} {kf:D->Option κ} {L:Yg} {H:Hp}:∀ {ps:List (D × D)} {vs:List (κ × V)},AR kf L H ps vs->vs.length=ps.length
 |[],_,h=>by erw[AR]at h;subst h;rfl
 |p::r,_,h=>by
  let⟨k,v,r',rfl,e,h1,h2⟩:=h;simp[AR.length h2]
def Cr (K:Yb) (L:Yg) (H:Hp) (a:Yt):MO->Prop
 |.lst xs=>∃ vs,H a=some (.lst vs)/\zG L H xs vs
 |.fro xs=>∃ o vs,H a=some (.frz o (.lst vs))/\zG L H xs vs
 |.dict ps=>∃ vs,H a=some (.dK vs)/\AR Ak L H ps vs
 |.dicT ps=>∃ vs,H a=some (.dT vs)/\AR tkD L H ps vs
 |.set _=>∃ o u,H a=some (.frz o u)
 |.froT ps=>∃ o vs,H a=some (.frz o (.dT vs))/\AR tkD L H ps vs
 |.froK ps=>∃ o vs,H a=some (.frz o (.dK vs))/\AR Ak L H ps vs
def Cr.there {K:Yb} {L:Yg} {H:Hp} {a:Yt} {m:MO} (h:Cr K L H a m):∃ o,H a=some o:=by
 cases m with
 |lst xs=>let⟨vs,e,_⟩:=h;calc ⟨_,e⟩
 |fro xs=>let⟨o,vs,e,_⟩:=h;calc ⟨_,e⟩
 |dict ps=>let⟨vs,e,_⟩:=h;calc ⟨_,e⟩
 |dicT ps=>let⟨vs,e,_⟩:=h;calc ⟨_,e⟩
 |set _=>let⟨o,u,e⟩:=h;calc ⟨_,e⟩
 |froT ps=>let⟨o,vs,e,_⟩:=h;calc ⟨_,e⟩
 |froK ps=>let⟨o,vs,e,_⟩:=h;calc ⟨_,e⟩
def Cr.stp {K:Yb} {L L':Yg} {H H':Hp} {a:Yt} {m:MO} (s:Stp L H L' H') (hk:∀ o,NT o->H a=some o->H' a=some o) (h:Cr K L H a m):Cr K L' H' a m:=by
 cases m with
 |lst xs=>let⟨vs,e,r⟩:=h;calc ⟨vs,hk _ (by intro _ z;ext z) e,r.stp s⟩
 |fro xs=>let⟨o,vs,e,r⟩:=h;calc ⟨o,vs,hk _ (by intro _ z;ext z) e,r.stp s⟩
 |dict ps=>let⟨vs,e,r⟩:=h;calc ⟨vs,hk _ (by intro _ z;ext z) e,r.stp s⟩
 |dicT ps=>let⟨vs,e,r⟩:=h;calc ⟨vs,hk _ (by intro _ z;ext z) e,r.stp s⟩
 |set _=>let⟨o,u,e⟩:=h;calc ⟨o,u,hk _ (by intro _ z;ext z) e⟩
 |froT ps=>let⟨o,vs,e,r⟩:=h;calc ⟨o,vs,hk _ (by intro _ z;ext z) e,r.stp s⟩
 |froK ps=>let⟨o,vs,e,r⟩:=h;calc ⟨o,vs,hk _ (by intro _ z;ext z) e,r.stp s⟩
def Lp:List Str:=["levels", "least_word", "word_into", "shows_least", "shows_into"]
def Fv (K:Yb) (H:Hp):Prop:=∀ x∈Lp,∀ c P,PySem.W.tabIn K x=some (c,P) -> ∃ ps,H P=some (.tbl ps)/\Eh H ps
def Fv.stp {K:Yb} {L L':Yg} {H H':Hp} (s:Stp L H L' H') (t:Fv K H):Fv K H':=λx hx c P e=>
 let ⟨ps,e1,g⟩:=t x hx c P e;let ⟨ps',e2,g2⟩:=s.tbl P ps e1
 ⟨ps',e2,g2 g⟩
structure Cor (K:Yb) (L:Yg) (M:List MO) (H:Hp):Prop where
 len:L.length=M.length
 nd:L.Nodup
 obj:∀ (n:Nat) a m,L[n]?=some a->M[n]?=some m->Cr K L H a m
 tab:Fv K H
def AX (L:Yg) (H:Hp) (Y:List (Option D)) (τ:Sv):Prop:=τ.length=Y.length /\ ∀ (i:Nat) d,Y[i]?=some (some d) -> ∃ v,τ[i]?=some (some v)/\Rep L H d v
def AX.stp (s:Stp L H L' H') (h:AX L H Y τ):AX L' H' Y τ :=
 ⟨h.1,λi d e=>let ⟨v,e1,r⟩:=h.2 i d e;⟨v,e1,r.stp s⟩⟩
def Cor.tracked {K:Yb} {L:Yg} {M:List MO} {H:Hp} (c:Cor K L M H) {a:Yt} (h:a∈L):∃ o,H a=some o:=by
 let⟨n,hn⟩:=List.getElem?_of_mem h;let hl:n<M.length:=by rw[<-c.len];exact (AK.mp hn).1
 let m:=c.obj n a M[n] hn (AJ hl);calc m.there
def Cor.grow {K:Yb} {L:Yg} {M:List MO} {H H':Hp} (c:Cor K L M H) (h:∀ a o,H a=some o->H' a=some o):Cor K L M H':=by
 calc ⟨c.len,c.nd,λn a m e1 e2=>(c.obj n a m e1 e2).stp (.grow h) λo _ e=>h a o e,c.tab.stp (Stp.grow (L:=L) h)⟩
def Cor.bare {K:Yb} {L N:Yg} {M:List MO} {H H':Hp} (c:Cor K L M H) (s:Stp [] H N H'):Cor K L M H' :=
 ⟨c.len,c.nd,λn a m e1 e2=>(c.obj n a m e1 e2).stp s.bare λo nt e=>s.old a o e (by simp) nt,c.tab.stp s⟩
theorem Cor.upd {K:Yb} {L:Yg} {M:List MO} {H:Hp} {p:Yt} {o:HO} (c:Cor K L M H) (h:H p=none):Cor K L M (upd H p o):=c.grow λa u e=>by rw[zT (DG e h)];calc e
def Cor.write {K:Yb} {L:Yg} {M:List MO} {H:Hp} {n:Nat} {p:Yt} {xs xs':List D} {vs':List V} (c:Cor K L M H) (h1:L[n]?=some p) (h2:M[n]?=some (.lst xs)) (r:zG L H xs' vs') :
  Cor K L (M.set n (.lst xs')) (L2.upd H p (.lst vs'))/\Stp L H L (L2.upd H p (.lst vs')):=by
 let⟨vs,hp,_⟩:=c.obj n p _ h1 h2;let st:Stp L H L (L2.upd H p (.lst vs')):=by
  refine ⟨⟨[],by simp⟩,λa ha=> .inl ha,λa o e ha _=>?_,λa o e=>?_,λa o u e=>?_,I0 (λa o u e=>?_) λa ps e=>?_⟩
  .rw[zT (show a≠p from λz=>ha (by rw[z];calc Ax h1))];exact e
  all_goals (rw[zT (GC e hp (by intro z;ext z))];calc e)
 refine ⟨⟨by simp[c.len],c.nd,λk a m e1 e2=>?_,c.tab.stp st⟩,st⟩;rw[CJ]at e2;cbv at e2
 .rename_i hk;subst hk;rw[h1]at e1;ext e1;cbv at e2
  .cases e2;exact ⟨vs',DI,r.stp st⟩
  .cases e2
 .rename_i hk;let hne:a≠p:=λz=>hk (by
   subst z;calc (List.getElem?_inj (AK.mp h1).1 c.nd).mp (h1.trans e1.symm))
  exact (c.obj k a m e1 e2).stp st λo _ e=>by rw[zT hne];exact e
set_option genInjectivity true in
inductive EV where
 |dat (d:D)|fl (xs:List D)
def zR (H0:Hp) (L:Yg) (H:Hp):EV->V->Prop
 |.dat d,v=>Rep L H d v
 |.fl xs,v=>∃ p vs,v=.ref p/\H0 p=none/\H p=some (.lst vs)/\p∉L/\zG L H xs vs
abbrev Sd:=List (Option D)
abbrev Mem:=List MO
abbrev FE:=Sd->Mem->Option (EV × Mem)
abbrev FD:=Sd->Mem->Option (D × Mem)
abbrev FT:=Sd->Mem->Option (Bool × Mem)
abbrev FA:=Sd->Mem->Option (List D × Mem)
def Stp.there {L L':Yg} {H H':Hp} (s:Stp L H L' H') {p:Yt} {o:HO} (h:H p=some o) (hp:p∉L):∃ o',H' p=some o':=by
  by_cases z:NT o
  .exact ⟨o,s.old p o h hp z⟩
  . let⟨ps,z⟩:=Classical.not_forall.mp z
    rw[Classical.not_not.mp z]at h;let⟨ps',e,_⟩:=s.tbl p ps h;calc ⟨_,e⟩
def Stp.out (s:Stp L H L' H') (h:H p=some o) (hp:p∉L):p∉L':=λz=>by
 rcases s.new p z with q|q
 .exact hp q
 .rw[h]at q;ext q
def zR.stp (s:Stp L H L' H') (h:zR H0 L H e v):zR H0 L' H' e v:=by
 cases e with
 |dat d=>calc Rep.stp s h
 |fl xs=>
  let⟨p,vs,rfl,e0,e1,e2,r⟩:=h;calc ⟨p,vs,rfl,e0,s.old p _ e1 e2 (by intro _ z;ext z),s.out e1 e2,r.stp s⟩
def zR.back {H0 H1:Hp} {L0 L1 L:Yg} {H:Hp} (s:Stp L0 H0 L1 H1) {M:List MO} {K:Yb} (c:Cor K L0 M H0) {e:EV} {v:V} (h:zR H1 L H e v) (hL:∀ a∈L1,a∈L):zR H0 L H e v:=by
 cases e with
 |dat d=>calc h
 |fl xs=>
  let⟨p,vs,rfl,e0,e1,e2,r⟩:=h;calc ⟨p,vs,rfl,?_,e1,e2,r⟩;cases q:H0 p with
  |none=>rfl
  |some o=>
   by_cases hp:p∈L0
   .obtain ⟨N,hN⟩:=s.pre;exact absurd (hL p (by rw[hN];calc BW _ hp)) e2
   .obtain ⟨o',z⟩:=s.there q hp;rw[z]at e0;ext e0
section
variable (K:Yb)
def trE (f:FE):TE:=λτ H Q=>∃ L Y M d M',Cor K L M H/\AX L H Y τ/\f Y M=some (d,M') /\ ∀ L' H' v,Stp L H L' H'->Cor K L' M' H'->zR H L' H' d v->Q v H'
def trD (f:FD):TE:=λτ H Q=>∃ L Y M d M',Cor K L M H/\AX L H Y τ/\f Y M=some (d,M') /\ ∀ L' H' v,Stp L H L' H'->Cor K L' M' H'->Rep L' H' d v->Q v H'
def trT (f:FT):TT:=λτ H Q=>∃ L Y M d M',Cor K L M H/\AX L H Y τ/\f Y M=some (d,M') /\ ∀ L' H',Stp L H L' H'->Cor K L' M' H'->Q d H'
def trA (f:FA):TA:=λτ H Q=>∃ L Y M ds M',Cor K L M H/\AX L H Y τ/\f Y M=some (ds,M') /\ ∀ L' H' vs,Stp L H L' H'->Cor K L' M' H'->zG L' H' ds vs->Q vs H'
end
def mkE {K:Yb} {f:FE} {τ:Sv} {H:Hp} {Q:VK} {Y:Sd} {M M':Mem} {d:EV} (c:Cor K L M H) (r:AX L H Y τ) (e:f Y M=some (d,M')) (q:∀ L' H' v,Stp L H L' H'->Cor K L' M' H'->zR H L' H' d v->Q v H'):trE K f τ H Q:=⟨_,_,_,_,_,c,r,e,q⟩
def mkD {K:Yb} {f:FD} {τ:Sv} {H:Hp} {Q:VK} {Y:Sd} {M M':Mem} {d:D} (c:Cor K L M H) (r:AX L H Y τ) (e:f Y M=some (d,M')) (q:∀ L' H' v,Stp L H L' H'->Cor K L' M' H'->Rep L' H' d v->Q v H'):trD K f τ H Q:=⟨_,_,_,_,_,c,r,e,q⟩
def mkT {K:Yb} {f:FT} {τ:Sv} {H:Hp} {Q} {Y:Sd} {M M':Mem} {d} (c:Cor K L M H) (r:AX L H Y τ) (e:f Y M=some (d,M')) (q:∀ L' H',Stp L H L' H'->Cor K L' M' H'->Q d H'):trT K f τ H Q:=⟨_,_,_,_,_,c,r,e,q⟩
def mkA {K:Yb} {f:FA} {τ:Sv} {H:Hp} {Q} {Y:Sd} {M M':Mem} {ds} (c:Cor K L M H) (r:AX L H Y τ) (e:f Y M=some (ds,M')) (q:∀ L' H' vs,Stp L H L' H'->Cor K L' M' H'->zG L' H' ds vs->Q vs H'):trA K f τ H Q:=⟨_,_,_,_,_,c,r,e,q⟩
def PE.imp (h:PE X e t) (hi:∀ τ H Q,t' τ H Q->t τ H Q):PE X e t':=λzB s Y H Q I q=>h zB s Y H Q I (hi _ _ _ q)
def PT.imp (h:PT X e t) (hi:∀ τ H Q,t' τ H Q->t τ H Q):PT X e t':=λzB s Y H Q I q=>h zB s Y H Q I (hi _ _ _ q)
def PS.imp {st:Stmt} {t t':TS} (h:PS X st t) (hi:∀ D τ H,t' D τ H->t D τ H):PS X st t':=λzB s Y H D I q=>h zB s Y H D I (hi _ _ _ q)
def PSs.imp {st:Yy} {t t':TS} (h:PSs X st t) (hi:∀ D τ H,t' D τ H->t D τ H):PSs X st t':=λzB s Y H D I q=>h zB s Y H D I (hi _ _ _ q)
structure QE (X:Cx) (e:Expr) (f:FE):Prop where
 un:PE X e (trE X.K f)
structure QD (X:Cx) (e:Expr) (f:FD):Prop where
 un:PE X e (trD X.K f)
structure QT (X:Cx) (e:Expr) (f:FT):Prop where
 un:PT X e (trT X.K f)
structure QA (X:Cx) (es:Yi) (f:FA):Prop where
 un:PA X es (trA X.K f)
def toD (f:FE):FD:=λY M=>match f Y M with
 |some (.dat d,M')=>some (d,M')
 |some (.fl xs,M')=>some (.ref M'.length,M'++[.lst xs])
 |none=>none
mutual
theorem Rep.more (N:Yg):∀ {d:D} {v:V},Rep L H d v->Rep (L++N) H d v
 |.non,_,h=>by unfold Rep at h ⊢;calc h
 |.bl _,_,h=>by unfold Rep at h ⊢;calc h
 |.int _,_,h=>by unfold Rep at h ⊢;calc h
 |.str _,_,h=>by unfold Rep at h ⊢;calc h
 |.tup ds,_,h=>by
  unfold Rep at h ⊢;let⟨a,vs,rfl,e,r⟩:=h;calc ⟨a,vs,rfl,e,zG.more N r⟩
 |.ref n,_,h=>by
  unfold Rep at h ⊢;let⟨a,rfl,e⟩:=h;calc ⟨a,rfl,HN e⟩
 |.fn _ ds,_,h=>by
  unfold Rep at h ⊢;calc ⟨h.1,h.2.1,zG.more N h.2.2⟩
theorem zG.more (N:Yg):∀ {ds:List D} {vs:List V},zG L H ds vs->zG (L++N) H ds vs
 |[],_,h=>by unfold zG at h ⊢;calc h
 |d::ds,_,h=>by
  unfold zG at h ⊢;let⟨v,r,rfl,h1,h2⟩:=h;calc ⟨v,r,rfl,Rep.more N h1,zG.more N h2⟩
end
def AR.more {κ:Type} {kf:D->Option κ} {L:Yg} {H:Hp} (N:Yg):∀ {ps:List (D × D)} {vs:List (κ × V)},AR kf L H ps vs->AR kf (L++N) H ps vs
 |[],_,h=>h
 |p::r,_,h=>by
  let⟨k,v,r',rfl,e,h1,h2⟩:=h;calc ⟨k,v,r',rfl,e,h1.more N,AR.more N h2⟩
def Cr.more {K:Yb} {L:Yg} {H:Hp} {a:Yt} {m:MO} (N:Yg) (h:Cr K L H a m):Cr K (L++N) H a m:=by
 cases m with
 |lst xs=>let⟨vs,e,r⟩:=h;calc ⟨vs,e,r.more N⟩
 |fro xs=>let⟨o,vs,e,r⟩:=h;calc ⟨o,vs,e,r.more N⟩
 |dict ps=>let⟨vs,e,r⟩:=h;calc ⟨vs,e,r.more N⟩
 |dicT ps=>let⟨vs,e,r⟩:=h;calc ⟨vs,e,r.more N⟩
 |set _=>calc h
 |froT ps=>let⟨o,vs,e,r⟩:=h;calc ⟨o,vs,e,r.more N⟩
 |froK ps=>let⟨o,vs,e,r⟩:=h;calc ⟨o,vs,e,r.more N⟩
def LY {K:Yb} {L L':Yg} {M':List MO} {H H':Hp} {p:Yt} {xs:List D} {vs:List V} (s:Stp L H L' H') (c:Cor K L' M' H') (h0:H p=none) (h1:H' p=some (.lst vs)) (h2:p∉L') (r:zG L' H' xs vs) :
  Cor K (L'++[p]) (M'++[.lst xs]) H'/\Stp L H (L'++[p]) H':=by
 refine ⟨⟨by simp[c.len],?_,λn a m e1 e2=>?_,c.tab⟩,?_⟩
 .rw[EX];exact ⟨c.nd,by simp,λa ha b hb z=>by
   have:b=p:=by simpa using hb
   subst this;subst z;calc h2 ha⟩
 .by_cases hn:n<L'.length
  .rw[BI hn]at e1;rw[BI (by rw[<-c.len];calc hn)]at e2;exact (c.obj n a m e1 e2).more [p]
  .have hn':n=L'.length:=by
    have:=(AK.mp e1).1;rw[BK]at this;simp at this;omega
   subst hn';simp at e1;rw[c.len]at e2;simp at e2;subst e1;subst e2;exact ⟨vs,h1,r.more [p]⟩
 .obtain ⟨N,hN⟩:=s.pre;refine ⟨⟨N++[p],by rw[hN];simp⟩,λa ha=>?_,s.old,s.tup,s.frz,s.tbl⟩;rcases Ab.mp ha with z|z
  .exact s.new a z
  .have:a=p:=by simpa using z
   subst this;calc .inr h0
def Rep.last {L:Yg} {M:List MO} {H:Hp} {K:Yb} {p:Yt} (c:Cor K L M H):Rep (L++[p]) H (.ref M.length) (.ref p):=by
 erw[Rep];calc ⟨p,rfl,by rw[<-c.len];simp⟩
def CP {f:FE} (h:QE X e f):QD X e (toD f):=.mk <| PE.imp h.un λτ H Q zz=>by
 let⟨L,Y,M,d,M',c,rs,hf,q⟩:=zz;erw[toD]at hf;cbv at hf
 .rename_i d' M1 e1;ext hf;exact ⟨L,Y,M,_,_,c,rs,e1,λL' H' v s c' r=>q L' H' v s c' r⟩
 .rename_i xs M1 e1;ext hf;refine ⟨L,Y,M,_,_,c,rs,e1,λL' H' v s c' r=>?_⟩;let⟨p,vs,rfl,e0,e2,e3,r⟩:=r;let⟨c2,s2⟩:=LY s c' e0 e2 e3 r;exact q _ H' _ s2 c2 (Rep.last c')
 .cases hf
def zC (i:Nat):FE:=λY M=>match Y[i]? with
 |some (some d)=>some (.dat d,M)
 |_=>none
def BH (h:PE X (.Name x pos) (Ku i)):QE X (.Name x pos) (zC i):=.mk <| PE.imp h λτ H Q zz=>by
 let⟨L,Y,M,d,M',c,rs,hf,q⟩:=zz;erw[zC]at hf;cbv at hf
 .rename_i d' e1;ext hf;let⟨v,e2,r⟩:=rs.2 i d' e1;exact ⟨v,e2,q L H v (.refl L H) c r⟩
 .cases hf
def fC (d:D):FE:=λ_ M=>some (.dat d,M)
def J4 (hd:∀ L H,Rep L H d v) (h:PE X e (tC v)):QE X e (fC d):=.mk <| PE.imp h λτ H Q zz=>by
 let⟨L,Y,M,d',M',c,rs,hf,q⟩:=zz;erw[fC]at hf;ext hf;calc q L H v (.refl L H) c (hd L H)
def Rx {i j pos}:QE X (.Constant (.int i) j pos) (fC (.int i)):=J4 (λ_ _=>by erw[Rep];rfl) YB
def Oe {b j pos}:QE X (.Constant (.bool b) j pos) (fC (.bl b)):=J4 (λ_ _=>by erw[Rep];rfl) WK
def LH {j pos}:QE X (.Constant .none j pos) (fC .non):=J4 (λ_ _=>by erw[Rep];rfl) SV
def zS:FA:=λ_ M=>some ([],M)
def zD (f:FD) (g:FA):FA:=λY M=>match f Y M with
 |some (d,M1)=>match g Y M1 with
  |some (ds,M2)=>some (d::ds,M2)
  |none=>none
 |none=>none
def PA.imp (h:PA X es t) (hi:∀ τ H Q,t' τ H Q->t τ H Q):PA X es t':=λpos zB s Y H Q I q=>h pos zB s Y H Q I (hi _ _ _ q)
def LM:QA X [] zS:=.mk <| PA.imp Jd λτ H Q zz=>by
 let⟨L,Y,M,d,M',c,rs,hf,q⟩:=zz;erw[zS]at hf;ext hf;calc q L H [] (.refl L H) c .nil
def Gy (h1:QD X e f) (h2:QA X es g) (hs:starEach (e::es) X.env=(false,eval e X.env)::starEach es X.env:=by rfl):QA X (e::es) (zD f g) :=
 .mk <| PA.imp (IT h1.un h2.un hs) λτ H Q zz=>by
  let⟨L,Y,M,d,M',c,rs,hf,q⟩:=zz;erw[zD]at hf;cbv at hf
  .rename_i d1 M1 e1;cbv at hf
   .rename_i ds M2 e2;ext hf;refine ⟨L,Y,M,_,_,c,rs,e1,λL1 H1 v s1 c1 r1=>⟨L1,Y,M1,_,_,c1,rs.stp s1,e2,λL2 H2 vs s2 c2 r2=>?_⟩⟩;exact q L2 H2 _ (s1.trans s2) c2 (.cons (r1.stp s2) r2)
   .cases hf
  .cases hf
def Cf (g:FA):FE:=λY M=>match g Y M with
 |some (ds,M1)=>if ds.length<=sizeLine then some (.dat (.tup ds),M1) else none
 |none=>none
def Bg (g:FA):FE:=λY M=>match g Y M with
 |some (ds,M1)=>if ds.length<=sizeLine then some (.fl ds,M1) else none
 |none=>none
def Rep.newTup (h:H p=none) (r:zG L H ds vs):Rep L (upd H p (.tup vs)) (.tup ds) (.ref p):=by
 erw[Rep];calc ⟨p,vs,rfl,DI,r.stp (.upd h)⟩
def XW {x1 pos} (h:QA X es g):QE X (.Tuple es x1 pos) (Cf g):=.mk <| PE.imp (X0 h.un) λτ H Q zz=>by
 let⟨L,Y,M,d,M',c,rs,hf,q⟩:=zz;erw[Cf]at hf;cbv at hf
 .rename_i ds M1 e1;cbv at hf
  .rename_i hz;ext hf;refine ⟨L,Y,M,_,_,c,rs,e1,λL1 H1 vs s1 c1 r1=>⟨by rw[r1.length];exact hz,λp hp=>?_⟩⟩;exact q L1 _ _ (s1.trans (.upd hp)) (c1.upd hp) (Rep.newTup hp r1)
  .cases hf
 .cases hf
def QP {L L1:Yg} {H H1:Hp} {K:Yb} {M M1:List MO} (s:Stp L H L1 H1) (c:Cor K L M H) (c1:Cor K L1 M1 H1) {p:Yt} (hp:H1 p=none):H p=none/\p∉L1:=by
 let hp1:p∉L1:=λz=>by let⟨o,e⟩:=c1.tracked z;rw[hp]at e;ext e
 calc ⟨?_,hp1⟩;cases q:H p with
 |none=>rfl
 |some o=>
  have:p∉L:=λz=>hp1 (by let⟨N,hN⟩:=s.pre;rw[hN];calc BW _ z);let⟨o',z⟩:=s.there q this;rw[z]at hp;ext hp
def zR.newLst {L L1:Yg} {H H1:Hp} {K:Yb} {M M1:List MO} {p:Yt} {ds:List D} {vs:List V} (s:Stp L H L1 H1) (c:Cor K L M H) (c1:Cor K L1 M1 H1) (hp:H1 p=none) (r:zG L1 H1 ds vs) :
  zR H L1 (upd H1 p (.lst vs)) (.fl ds) (.ref p):=by
 let⟨a,b⟩:=QP s c c1 hp;calc ⟨p,vs,rfl,a,DI,b,r.stp (.upd hp)⟩
def Zp {pos} (h:QA X es g):QE X (.List es pos) (Bg g):=.mk <| PE.imp (Vy h.un) λτ H Q zz=>by
 let⟨L,Y,M,d,M',c,rs,hf,q⟩:=zz;erw[Bg]at hf;cbv at hf
 .rename_i ds M1 e1;cbv at hf
  .rename_i hz;ext hf;refine ⟨L,Y,M,_,_,c,rs,e1,λL1 H1 vs s1 c1 r1=>⟨by rw[r1.length];exact hz,λp hp=>?_⟩⟩;exact q L1 _ _ (s1.trans (.upd hp)) (c1.upd hp) (zR.newLst s1 c c1 hp r1)
  .cases hf
 .cases hf
abbrev FAE:=Sd->Mem->Option (List EV × Mem)
def Ca (H0:Hp) (L:Yg) (H:Hp):List EV->List V->Prop
 |[],vs=>vs=[]
 |e::es,vs=>∃ v r,vs=v::r/\zR H0 L H e v/\Ca H0 L H es r
def Stp.sub (s:Stp L H L' H'):∀ a∈L,a∈L':=λa h=>by
 let⟨N,hN⟩:=s.pre;rw[hN];calc BW _ h
def Ca.back {H0 H1:Hp} {L0 L1 L:Yg} {H:Hp} (s:Stp L0 H0 L1 H1) {M:List MO} {K:Yb} (c:Cor K L0 M H0) (hL:∀ a∈L1,a∈L):∀ {es:List EV} {vs:List V},Ca H1 L H es vs->Ca H0 L H es vs
 |[],_,h=>h
 |e::es,_,h=>by
  let⟨v,r,rfl,h1,h2⟩:=h;calc ⟨v,r,rfl,h1.back s c hL,Ca.back s c hL h2⟩
def Ob (K:Yb) (f:FAE):TA:=λτ H Q=>∃ L Y M ds M',Cor K L M H/\AX L H Y τ/\f Y M=some (ds,M') /\ ∀ L' H' vs,Stp L H L' H'->Cor K L' M' H'->Ca H L' H' ds vs->Q vs H'
structure QAE (X:Cx) (es:Yi) (f:FAE):Prop where
 un:PA X es (Ob X.K f)
section
variable {X:Cx} {a b e:Expr} {es:Yi} {pos:Pos}
def zn:FAE:=λ_ M=>some ([],M)
def zQ (f:FE) (g:FAE):FAE:=λY M=>match f Y M with
 |some (d,M1)=>match g Y M1 with
  |some (ds,M2)=>some (d::ds,M2)
  |none=>none
 |none=>none
def Hj:QAE X [] zn:=.mk <| PA.imp Jd λτ H Q zz=>by
 let⟨L,Y,M,d,M',c,rs,hf,q⟩:=zz;erw[zn]at hf;ext hf;calc q L H [] (.refl L H) c rfl
def Ha (h1:QE X e f) (h2:QAE X es g) (hs:starEach (e::es) X.env=(false,eval e X.env)::starEach es X.env:=by rfl):QAE X (e::es) (zQ f g) :=
 .mk <| PA.imp (IT h1.un h2.un hs) λτ H Q zz=>by
  let⟨L,Y,M,d,M',c,rs,hf,q⟩:=zz;erw[zQ]at hf;cbv at hf
  .rename_i d1 M1 e1;cbv at hf
   .rename_i ds M2 e2;ext hf;refine ⟨L,Y,M,_,_,c,rs,e1,λL1 H1 v s1 c1 r1=>⟨L1,Y,M1,_,_,c1,rs.stp s1,e2,λL2 H2 vs s2 c2 r2=>?_⟩⟩;exact q L2 H2 _ (s1.trans s2) c2 ⟨v,vs,rfl,r1.stp s2,r2.back s1 c s2.sub⟩
   .cases hf
  .cases hf
abbrev K2:=EV->EV->Mem->Option (EV × Mem)
def BP (K:Yb) (r:R2) (k:K2):Prop:=∀ {L:Yg} {M M':Mem} {H H0:Hp} {x y d:EV} {v w:V} {Q:VK},Cor K L M H->zR H0 L H x v->zR H0 L H y w->k x y M=some (d,M') ->
 (∀ L' H' u,Stp L H L' H'->Cor K L' M' H'->zR H L' H' d u->Q u H')->r v w H Q
def fOp (k:K2) (f g:FE):FE:=λY M=>match f Y M with
 |some (x,M1)=>match g Y M1 with
  |some (y,M2)=>k x y M2
  |none=>none
 |none=>none
def F7 {K:Yb} {r:R2} {k:K2} {f g:FE} (hk:BP K r k) {τ:Sv} {H:Hp} {Q:VK} (h:trE K (fOp k f g) τ H Q):tOp r (trE K f) (trE K g) τ H Q:=by
 let⟨L,Y,M,d,M',c,rs,hf,q⟩:=h;erw[fOp]at hf;cbv at hf
 .rename_i x M1 e1;cbv at hf
  .rename_i y M2 e2;refine (mkE c rs e1 (λL1 H1 v s1 c1 r1=>(mkE c1 (rs.stp s1) e2 (λL2 H2 w s2 c2 r2=>?_))));refine hk (H0:=H) c2 (r1.stp s2) (r2.back s1 c s2.sub) hf λL3 H3 u s3 c3 r3=>?_;exact q L3 H3 u ((s1.trans s2).trans s3) c3 (r3.back (s1.trans s2) c s3.sub)
  .cases hf
 .cases hf
def FN (hk:BP X.K r k) (ho:OpR X (binaryOp op) r) (h1:QE X a f) (h2:QE X b g):QE X (.BinOp a op b pos) (fOp k f g):=.mk <| PE.imp (TK ho h1.un h2.un) λ_ _ _ h=>F7 hk h
def IS (hk:BP X.K r k) (ho:OpR X (compareOp op) r) (h1:QE X a f) (h2:QE X b g) (hm:behindInMarks op b=false):QE X (.Compare a [op] [b] pos) (fOp k f g) :=
 .mk <| PE.imp (RV ho h1.un h2.un hm) λ_ _ _ h=>F7 hk h
def tst (f:FE):FT:=λY M=>match f Y M with
 |some (.dat (.bl c),M')=>some (c,M')
 |_=>none
def Kj {K:Yb} {f:FE} {τ:Sv} {H:Hp} {Q:Bool->Hp->Prop} (h:trT K (tst f) τ H Q):Iz (trE K f) τ H Q:=by
 let⟨L,Y,M,d,M',c,rs,hf,q⟩:=h;erw[tst]at hf;cbv at hf
 .rename_i k M1 e1;ext hf;refine (mkE c rs e1 (λL1 H1 v s1 c1 r1=>?_));have:v=.bl d:=by erw[zR,Rep]at r1;exact r1
  exact ⟨d,this,q L1 H1 s1 c1⟩
 .cases hf
def N5 (h:∀ τ H Q,t τ H Q->t' τ H Q) (q:Iz t τ H Q):Iz t' τ H Q:=h _ _ _ q
def Dz {op:CmpOp} {r:R2} {k:K2} {f g:FE} (hk:BP X.K r k) (ho:OpR X (compareOp op) r) (h1:QE X a f) (h2:QE X b g) (hm:behindInMarks op b=false):QT X (.Compare a [op] [b] pos) (tst (fOp k f g)) :=
 .mk <| PT.imp (RH ho h1.un h2.un hm) λ_ _ _ h=>N5 (λ_ _ _ z=>F7 hk z) (Kj h)
def HI (h:QE X e f) (he:∀ whole,isTrue e X.env whole=(do let v <- whole;standAt e.pos;holding [v] (truthy v)):=by intro _;rfl):QT X e (tst f) :=
 .mk <| PT.imp (Qk h.un he) λ_ _ _ h=>Kj h
def kI (C:Int->Int->Bool) (g:Int->Int->D):K2:=λx y M=>match x,y with
 |.dat (.int i),.dat (.int j)=>if C i j then some (.dat (g i j),M) else none
 |_,_=>none
def kI0 (g:Int->Int->D):K2:=kI (λ_ _=>true) g
def HZ {K:Yb} {C:Int->Int->Bool} {C':Int->Int->Prop} {g:Int->Int->D} {g':Int->Int->V} (hC:∀ i j,C i j=true->C' i j) (hg:∀ L H i j,Rep L H (g i j) (g' i j)):BP K (rI C' g') (kI C g):=by
 intro L M M' H H0 x y d v w Q c rx ry hk q;erw[kI]at hk;cbv at hk
 .rename_i i j;cbv at hk
  .rename_i hc;ext hk;refine ⟨i,j,by erw[zR,Rep]at rx;calc rx,by erw[zR,Rep]at ry;calc ry,hC i j hc,q L H _ (.refl L H) c (hg L H i j)⟩
  .cases hk
 .cases hk
def G5 {K:Yb} {g:Int->Int->D} {g':Int->Int->V} (hg:∀ L H i j,Rep L H (g i j) (g' i j)):BP K (rI0 g') (kI0 g):=by
 intro L M M' H H0 x y d v w Q c rx ry hk q;let⟨i,j,h1,h2,_,h4⟩:=HZ (C:=λ_ _=>true) (C':=λ_ _=>True) (λ_ _ _=>trivial) hg c rx ry hk q;calc ⟨i,j,h1,h2,h4⟩
def C7:Rep L H (.int i) (.int i):=by erw[Rep];rfl
def Cb:Rep L H (.bl i) (.bl i):=by erw[Rep];rfl
def Fb (i j:Int):Bool:=(decide (-(2 ^ 64)<i)&&decide (i<2 ^ 64))||(decide (-(2 ^ 64)<j)&&decide (j<2 ^ 64))
abbrev UZ:K2:=kI0 λi j=> .int (i+j)
abbrev Fm:K2:=kI0 λi j=> .int (i-j)
abbrev Ff:K2:=kI Fb λi j=> .int (i*j)
abbrev CV:K2:=kI (λ_ j=>decide (0<j)) λi j=> .int (i % j)
abbrev E3:K2:=kI (λ_ j=>decide (0<j)&&decide (j<1073741824)) λi j=> .int (i / j)
abbrev Ge:K2:=kI (λi j=>decide (0<=j)&&decide (j<=1000000)&&decide (i.natAbs<2 ^ 64)) λi j=> .int (i ^ j.toNat)
abbrev kLt:K2:=kI0 λi j=> .bl (decide (i<j))
abbrev kGt:K2:=kI0 λi j=> .bl (decide (j<i))
abbrev kGe:K2:=kI0 λi j=> .bl (decide (j<=i))
section
variable {f g:FE}
def Zf (h1:QE X a f) (h2:QE X b g):QE X (.BinOp a .Sub b pos) (fOp Fm f g):=FN (G5 λ_ _ _ _=>C7) V1 h1 h2
def Wn (h1:QE X a f) (h2:QE X b g):QE X (.BinOp a .Mult b pos) (fOp Ff f g):=FN (HZ (λi j h=>by
 erw[Fb]at h;simp only[Bool.or_eq_true,A8,CQ]at h;calc h) λ_ _ _ _=>C7) Xa h1 h2
def Vr (h1:QE X a f) (h2:QE X b g):QE X (.BinOp a .Mod b pos) (fOp CV f g):=FN (HZ (λi j h=>By h) λ_ _ _ _=>C7) Tu h1 h2
def ZM (h1:QE X a f) (h2:QE X b g):QE X (.BinOp a .FloorDiv b pos) (fOp E3 f g):=FN (HZ (λi j h=>by
 simp only[A8,CQ]at h;calc h) λ_ _ _ _=>C7) Tw h1 h2
def WT (h1:QE X a f) (h2:QE X b g):QE X (.BinOp a .Pow b pos) (fOp Ge f g):=FN (HZ (λi j h=>by
 simp only[A8,CQ]at h;calc ⟨h.1.1,h.1.2,h.2⟩) λ_ _ _ _=>C7) XH h1 h2
def TQ (h1:QE X a f) (h2:QE X b g):QT X (.Compare a [.Lt] [b] pos) (tst (fOp kLt f g)):=Dz (G5 λ_ _ _ _=>Cb) Ut h1 h2 (D8 _)
def Uz (h1:QE X a f) (h2:QE X b g):QT X (.Compare a [.Gt] [b] pos) (tst (fOp kGt f g)):=Dz (G5 λ_ _ _ _=>Cb) P7 h1 h2 (D8 _)
def SQ (h1:QE X a f) (h2:QE X b g):QT X (.Compare a [.GtE] [b] pos) (tst (fOp kGe f g)):=Dz (G5 λ_ _ _ _=>Cb) ZO h1 h2 (D8 _)
end
end
def Ba (M:Mem):EV->Option (List D)
 |.fl xs=>some xs
 |.dat (.ref n)=>match M[n]? with
  |some (.lst xs)=>some xs
  |some (.fro xs)=>some xs
  |_=>none
 |_=>none
def Cs:EV->Option (List D)
 |.dat (.tup xs)=>some xs
 |_=>none
def zu (M:Mem) (x:EV):Option (List D):=match Cs x with
 |some xs=>some xs
 |none=>Ba M x
def DN {K:Yb} {L:Yg} {M:Mem} {H H0:Hp} {x:EV} {v:V} {xs:List D} (c:Cor K L M H) (r:zR H0 L H x v) (h:Ba M x=some xs):∃ a vs,v=.ref a/\Rd H a (.lst vs)/\zG L H xs vs:=by
 cases x with
 |fl ys=>
  ext h;let⟨p,vs,rfl,_,e,_,r⟩:=r;calc ⟨p,vs,rfl,.inl e,r⟩
 |dat d=>
  cases d with
  |ref n=>
   erw[zR,Rep]at r;let⟨a,rfl,e⟩:=r;erw[Ba]at h;dsimp only at h;cases q:M[n]? with
   |none=>rw[q]at h;ext h
   |some m=>
    rw[q]at h;let z:=c.obj n a m e q;cases m with
    |lst ys=>ext h;let⟨vs,e1,r1⟩:=z;calc ⟨a,vs,rfl,.inl e1,r1⟩
    |fro ys=>ext h;let⟨o,vs,e1,r1⟩:=z;calc ⟨a,vs,rfl,.inr ⟨o,e1⟩,r1⟩
    |dict _=>ext h
    |dicT _=>ext h
    |set _=>ext h
    |froT _=>ext h
    |froK _=>ext h
  |_=>ext h
def Dt {L:Yg} {H H0:Hp} {x:EV} {v:V} {xs:List D} (r:zR H0 L H x v) (h:Cs x=some xs):∃ a vs,v=.ref a/\H a=some (.tup vs)/\zG L H xs vs:=by
 cases x with
 |fl ys=>ext h
 |dat d=>
  cases d with
  |tup ys=>ext h;erw[zR,Rep]at r;calc r
  |_=>ext h
def FV {K:Yb} {L:Yg} {M:Mem} {H H0:Hp} {x:EV} {v:V} {xs:List D} (c:Cor K L M H) (r:zR H0 L H x v) (h:zu M x=some xs):∃ a vs,v=.ref a/\(SqL K H a vs\/SqT K H a vs)/\zG L H xs vs:=by
 erw[zu]at h;cases q:Cs x with
 |some ys=>
  rw[q]at h;ext h;let⟨a,vs,e,h1,h2⟩:=Dt r q;calc ⟨a,vs,e,.inr (.of h1),h2⟩
 |none=>
  rw[q]at h;let⟨a,vs,e,h1,h2⟩:=DN c r h;calc ⟨a,vs,e,.inl (.inl h1),h2⟩
def Zt {L:Yg} {H:Hp} {xs:List D} {vs:List V} {i:Int} {d:D} (r:zG L H xs vs) (h:atI xs i=some d):∃ v,atI vs i=some v/\Rep L H d v:=by
 unfold atI at h ⊢;rw[r.length];cases q:ixN xs.length i with
 |none=>rw[q]at h;ext h
 |some j=>rw[q]at h;calc r.get h
def UG {L:Yg} {H:Hp} {i:Str}:Rep L H (.str i) (.str i):=by erw[Rep];rfl
def kIx:K2:=λx y M=>match y with
 |.dat (.int i)=>match zu M x with
  |some xs=>match atI xs i with
   |some d=>some (.dat d,M)
   |none=>none
  |none=>match x with
   |.dat (.str z)=>if z.length<=sizeLine then match atI z.cps.toList i with
     |some c=>some (.dat (.str ⟨#[c]⟩),M)
     |none=>none
    else none
   |_=>none
 |_=>none
def ZU {K:Yb}:BP K (rIx K) kIx:=by
 intro L M M' H H0 x y d v w Q c rx ry hk q;erw[kIx]at hk;cbv at hk
 .rename_i i;let ew:w=.int i:=by erw[zR,Rep]at ry;exact ry
  cbv at hk
  .rename_i xs e1;cbv at hk
   .rename_i d' e2;ext hk;let⟨a,vs,rfl,hs,r⟩:=FV c rx e1;let⟨u,e3,r3⟩:=Zt r e2;rcases hs with hs|hs
    .exact .inl ⟨a,vs,i,u,rfl,ew,hs,e3,q L H u (.refl L H) c r3⟩
    .exact .inr (.inl ⟨a,vs,i,u,rfl,ew,hs,e3,q L H u (.refl L H) c r3⟩)
   .cases hk
  .split at hk
   .rename_i z _;cbv at hk
    .rename_i hz;cbv at hk
     .rename_i ch e2;ext hk;let ev:v=.str z:=by erw[zR,Rep]at rx;exact rx
      exact .inr (.inr ⟨z,i,ch,ev,ew,hz,e2,q L H _ (.refl L H) c (UG (L:=L) (H:=H))⟩)
     .cases hk
    .cases hk
   .cases hk
 .cases hk
section
variable {prog:Ym} {w:Yo} {A:Yn} {E:Yc} {s:Yl}
def XQ {t sl:Yt} {items:Yp} {vl vu:Yu} {lo hi:Ys} {Q:Yc} (T:IsTup s.heap t items) (S:s.heap.IsSliceOf sl vl vu .none) (pl:IsPart vl lo) (pu:IsPart vu hi)
  (h1:HT.sIx items.size 0 lo=0) (h2:HT.sIx items.size items.size hi=items.size) (h:Q (.ref t) s):wpAny (model prog w) A (getItem (.ref t) (.ref sl)) Q E s:=by
 let⟨o,O,C,G⟩:=id S;let TS:s.TypeIs (.ref sl) "slice" := ⟨o,O,C⟩;erw[getItem];try with_reducible refine Bl ?_
 first|refine AA (AB ?_)|skip
 calc AA (wpAny_sequenceKey T.typeIs () ?_);calc AA (B6 (name:=Str.ofString "__getitem__") T.typeIs GR (A9 GR T.typeIs entry_tuple_getitem ?_ (args_tuple_getitem _ _)));calc AA (m:=Builtin.Tuple.tupleItemsOf (.ref t)) (tupleItemsOf_ T (AA (wpAny_typeOf TS ?_)));rw[AD ()];calc AA (HT.L7 S pl pu ?_);rw[h1,h2];show wpAny _ _ (if ((((0:Nat):Int)==0&&(1:Int)==1&&(items.size-0)==items.size))=true then _ else _) _ _ s;rw[AD (by simp)];erw[Builtin.Tuple.tupleIsExact];calc AA (AA (wpAny_typeOf T.typeIs (AB ?_)));rw[AD ()];calc AA (Bc (AB ⟨_,rfl,AB h⟩))
end
def Ze (K:Yb):V->Option Int->Option Int->Hp->VK->Prop:=λx lo hi H Q=>∃ a xs,x=.ref a/\SqT K H a xs/\(HT.sIx xs.length 0 lo=0/\HT.sIx xs.length xs.length hi=xs.length)/\Q (.ref a) H
def YL {X:Cx}:SlR X (Ze X.K):=by
 intro zB s Y H x v vl vu lo hi sl Q I rx hs pl pu h;let⟨a,xs,rfl,hx,hw,q⟩:=h;ext rx;let⟨its,r,ht,hz⟩:=I.tuple hx;let hlen:its.toArray.size=xs.length:=by rw[AS];exact r.length.symm
 calc ⟨"tuple", _,GR.lookup,ht.typeIs,XQ ht hs pl pu (by rw[hlen];calc hw.1) (by rw[hlen];calc hw.2) ⟨.ref a,H,I,rfl,q⟩⟩
section
variable {X:Cx} {a b e:Expr} {es:Yi} {pos:Pos} {f g:FE}
def Tt (h1:QE X a f) (h2:QE X b g) (hs:N0 b:=by intro _ _;rfl):QE X (.Subscript a b pos) (fOp kIx f g):=.mk <| PE.imp (Xi YU h1.un h2.un hs) λ_ _ _ h=>F7 ZU h
abbrev FO:=Sd->Mem->Option (Option Int × Mem)
def trO (K:Yb) (f:FO):TO:=λτ H Q=>∃ L Y M d M',Cor K L M H/\AX L H Y τ/\f Y M=some (d,M') /\ ∀ L' H',Stp L H L' H'->Cor K L' M' H'->Q d H'
structure QO (X:Cx) (e:Option Expr) (f:FO):Prop where
 un:PO X e (trO X.K f)
def EM:FO:=λ_ M=>some (none,M)
def Dy (f:FE):FO:=λY M=>match f Y M with
 |some (.dat (.int i),M')=>some (some i,M')
 |_=>none
def PO.imp {e:Option Expr} {t t':TO} (h:PO X e t) (hi:∀ τ H Q,t' τ H Q->t τ H Q):PO X e t':=λzB s Y H Q I q=>h zB s Y H Q I (hi _ _ _ q)
def Um:QO X none EM:=.mk <| PO.imp RB λτ H Q zz=>by
 let⟨L,Y,M,d,M',c,rs,hf,q⟩:=zz;erw[EM]at hf;ext hf;calc q L H (.refl L H) c
def Xf (h:QE X e f):QO X (some e) (Dy f):=.mk <| PO.imp (Vt h.un) λτ H Q zz=>by
 let⟨L,Y,M,d,M',c,rs,hf,q⟩:=zz;erw[Dy]at hf;cbv at hf
 .rename_i i M1 e1;ext hf;refine (mkE c rs e1 (λL1 H1 v s1 c1 r1=>?_));exact ⟨i,by erw[zR,Rep]at r1;calc r1,q L1 H1 s1 c1⟩
 .cases hf
def Dc (xs:List D) (lo hi:Ys):List D:=(xs.drop (HT.sIx xs.length 0 lo)).take (HT.sIx xs.length xs.length hi-HT.sIx xs.length 0 lo)
def Md {L:Yg} {H:Hp} {xs:List D} {vs:List V} {lo hi:Ys} (r:zG L H xs vs):zG L H (Dc xs lo hi) (Ee vs lo hi):=by
 erw[Dc,Ee];rw[r.length];calc (r.drop _).take _
def kSl (x:EV) (lo hi:Ys) (M:Mem):Option (EV × Mem):=match Cs x with
 |some xs=>some (.dat (.tup (Dc xs lo hi)),M)
 |none=>match Ba M x with
  |some xs=>some (.fl (Dc xs lo hi),M)
  |none=>none
def fSl (f:FE) (fl fh:FO):FE:=λY M=>match f Y M with
 |some (x,M1)=>match fl Y M1 with
  |some (lo,M2)=>match fh Y M2 with
   |some (hi,M3)=>kSl x lo hi M3
   |none=>none
  |none=>none
 |none=>none
def Xd {lo hi:Option Expr} {p2:Pos} {fl fh:FO} (h:QE X e f) (hl:QO X lo fl) (hh:QO X hi fh):QE X (.Subscript e (.Slice lo hi none p2) pos) (fSl f fl fh) :=
 .mk <| PE.imp (WI (SlR.or SI (SlR.or Vw YL)) h.un hl.un hh.un) λτ H Q zz=>by
  let⟨L,Y,M,d,M',c,rs,hf,q⟩:=zz;erw[fSl]at hf;cbv at hf
  .rename_i x M1 e1;cbv at hf
   .rename_i l M2 e2;cbv at hf
    .rename_i u M3 e3;refine ⟨L,Y,M,_,_,c,rs,e1,λL1 H1 v s1 c1 r1=>⟨L1,Y,M1,_,_,c1,rs.stp s1,e2,λL2 H2 s2 c2=>⟨L2,Y,M2,_,_,c2,rs.stp (s1.trans s2),e3,λL3 H3 s3 c3=>?_⟩⟩⟩;let s:=(s1.trans s2).trans s3;let r3:zR H L3 H3 x v:=(r1.stp s2).stp s3;erw[kSl]at hf;cases t:Cs x with
     |some xs=>
      rw[t]at hf;dsimp only at hf;ext hf;let⟨a,vs,rfl,e4,r4⟩:=Dt r3 t;by_cases hw:HT.sIx vs.length 0 l=0/\HT.sIx vs.length vs.length u=vs.length
      .refine .inr (.inr ⟨a,vs,rfl,.of e4,hw,?_⟩);let ec:Dc xs l u=xs:=by
        erw[Dc];rw[<-r4.length,hw.1,hw.2,r4.length];simp
       rw[ec]at q;calc q L3 H3 _ s c3 ?_;erw[zR,Rep];exact ⟨a,vs,rfl,e4,r4⟩
      .refine .inr (.inl ⟨a,vs,rfl,.of e4,hw,λp hp=>?_⟩);calc q L3 _ _ (s.trans (.upd hp)) (c3.upd hp) (Rep.newTup hp (Md r4))
     |none=>
      rw[t]at hf;dsimp only at hf;cbv at hf
      .rename_i xs e4;ext hf;let⟨a,vs,rfl,e5,r5⟩:=DN c3 r3 e4;refine .inl ⟨a,vs,rfl,.inl e5,λp hp=>?_⟩;exact q L3 _ _ (s.trans (.upd hp)) (c3.upd hp) (zR.newLst s c c3 hp (Md r5))
      .cases hf
    .cases hf
   .cases hf
  .cases hf
abbrev KB:=List EV->Mem->Option (EV × Mem)
def DL (K:Yb) (r:List V->Hp->VK->Prop) (k:KB):Prop:=∀ {L:Yg} {M M':Mem} {H H0:Hp} {xs:List EV} {d:EV} {vs:List V} {Q:VK},Cor K L M H->Ca H0 L H xs vs->k xs M=some (d,M') ->
 (∀ L' H' u,Stp L H L' H'->Cor K L' M' H'->zR H L' H' d u->Q u H')->r vs H Q
def fB (k:KB) (f:FAE):FE:=λY M=>match f Y M with
 |some (xs,M1)=>k xs M1
 |none=>none
def Pb {K:Yb} {r:List V->Hp->VK->Prop} {k:KB} {f:FAE} (hk:DL K r k) {τ:Sv} {H:Hp} {Q:VK} (h:trE K (fB k f) τ H Q):tCB r (Ob K f) τ H Q:=by
 let⟨L,Y,M,d,M',c,rs,hf,q⟩:=h;erw[fB]at hf;cbv at hf
 .rename_i xs M1 e1;refine ⟨L,Y,M,_,_,c,rs,e1,λL1 H1 vs s1 c1 r1=>?_⟩;refine hk c1 r1 hf λL2 H2 u s2 c2 r2=>?_;exact q L2 H2 u (s1.trans s2) c2 (r2.back s1 c s2.sub)
 .cases hf
def Ca.one {H0:Hp} {L:Yg} {H:Hp} {x:EV} {vs:List V} (h:Ca H0 L H [x] vs):∃ v,vs=[v]/\zR H0 L H x v:=by
 let⟨v,r,rfl,h1,h2⟩:=h;erw[Ca]at h2;subst h2;calc ⟨v,rfl,h1⟩
def BU:KB:=λxs M=>match xs with
 |[x]=>match zu M x with
  |some ys=>some (.dat (.int ys.length),M)
  |none=>none
 |_=>none
def U7:DL X.K (λxs H Q=>∃ p ys,xs=[.ref p]/\(SqL X.K H p ys\/SqT X.K H p ys)/\Q (.int ys.length) H) BU:=by
 intro L M M' H H0 xs d vs Q c r hk q;erw[BU]at hk;cbv at hk
 .rename_i x;cbv at hk
  .rename_i ys e1;ext hk;let⟨v,rfl,r1⟩:=r.one;let⟨a,ws,rfl,hs,r2⟩:=FV c r1 e1;calc ⟨a,ws,rfl,hs,q L H _ (.refl L H) c ?_⟩;rw[r2.length];exact (C7 (L:=L) (H:=H))
  .cases hk
 .cases hk
def Es {x:Str} {p:Pos} {id:String} {r:List V->Hp->VK->Prop} {k:KB} {f:FAE} (hk:DL X.K r k) (hc:Cp X (.builtin id) r) (hv:bootBuiltins x=some (.builtin id)) (hg:Gl X x) (hm:X.mg x=none) (ha:QAE X (e::es) f) (hn:x ≠ "__name__" := by decide) (hdb:(x==("__debug__" : Str))=false:=by decide)
  (he:starEach (e::es) X.env=(false,eval e X.env)::starEach es X.env:=by rfl) (hpl:(backTo pos (starEach es X.env)).any (·.1)=false:=by rfl):QE X (.Call (.Name x p) (e::es) [] pos) (fB k f) :=
 .mk <| PE.imp (OB hc hg hm hv ha.un hn hdb he hpl) λ_ _ _ h=>Pb hk h
def WE {x:Str} {p:Pos} {T:String} {r:List V->Hp->VK->Prop} {k:KB} {f:FAE} (hk:DL X.K r k) (hc:Cp X (.type T) r) (hv:bootBuiltins x=some (.type T)) (hg:Gl X x) (hm:X.mg x=none) (ha:QAE X (e::es) f) (hn:x ≠ "__name__" := by decide) (hdb:(x==("__debug__" : Str))=false:=by decide)
  (he:starEach (e::es) X.env=(false,eval e X.env)::starEach es X.env:=by rfl) (hpl:(backTo pos (starEach es X.env)).any (·.1)=false:=by rfl):QE X (.Call (.Name x p) (e::es) [] pos) (fB k f) :=
 .mk <| PE.imp (Wq hc hg hm hv ha.un hn hdb he hpl) λ_ _ _ h=>Pb hk h
def Bu:KB:=λxs M=>match xs with
 |[x]=>match zu M x with
  |some ys=>some (.dat (.tup ys),M)
  |none=>none
 |_=>none
def R7:DL X.K (λxs H Q=>∃ p ys,xs=[.ref p]/\((SqL X.K H p ys /\ ∀ l,H l=none->Q (.ref l) (upd H l (.tup ys)))\/(SqT X.K H p ys/\Q (.ref p) H))) Bu:=by
 intro L M M' H H0 xs d vs Q c r hk q;erw[Bu]at hk;cbv at hk
 .rename_i x;cbv at hk
  .rename_i ys e1;ext hk;let⟨v,rfl,r1⟩:=r.one;erw[zu]at e1;cases t:Cs x with
   |some zs=>
    rw[t]at e1;ext e1;let⟨a,ws,rfl,e2,r2⟩:=Dt r1 t;calc ⟨a,ws,rfl,.inr ⟨.of e2,q L H _ (.refl L H) c ?_⟩⟩;erw[zR,Rep];calc ⟨a,ws,rfl,e2,r2⟩
   |none=>
    rw[t]at e1;let⟨a,ws,rfl,e2,r2⟩:=DN c r1 e1;refine ⟨a,ws,rfl,.inl ⟨.inl e2,λp hp=>?_⟩⟩;exact q L _ _ (.upd hp) (c.upd hp) (Rep.newTup hp r2)
  .cases hk
 .cases hk
end
set_option genInjectivity true in
inductive Out where
  |nx|ret (d:D)|brk|cnt
abbrev FS:=Sd->Mem->Option (Out × Sd × Mem)
def ZA (E:Ends) (L:Yg) (H:Hp) (Y:Sd):Out->Prop
  |.nx=>∀ τ,AX L H Y τ->E.nx τ H
  |.ret d=>∀ v,Rep L H d v->E.rt v H
  |.brk=>∀ τ,AX L H Y τ->E.bk τ H
  |.cnt=>∀ τ,AX L H Y τ->E.ct τ H
def trS (K:Yb) (f:FS):TS:=λE τ H=>∃ L Y M o Y' M',Cor K L M H/\AX L H Y τ/\f Y M=some (o,Y',M') /\ ∀ L' H',Stp L H L' H'->Cor K L' M' H'->ZA E L' H' Y' o
structure QS (X:Cx) (st:Stmt) (f:FS):Prop where
  un:PS X st (trS X.K f)
structure QSs (X:Cx) (st:Yy) (f:FS):Prop where
  un:PSs X st (trS X.K f)
def AX.set {L:Yg} {H:Hp} {Y:Sd} {τ:Sv} {i:Nat} {d:D} {v:V} (h:AX L H Y τ) (r:Rep L H d v):AX L H (Y.set i (some d)) (τ.set i (some v)):=by
  refine ⟨by simp[h.1],λj e q=>?_⟩;rw[CJ]at q ⊢;cbv at q
  . rename_i z
    subst z;cbv at q
    . rename_i hl
      ext q;rw[AD rfl,AD (by rw[h.1];calc hl)];exact ⟨v,rfl,r⟩
    .cases q
  . rename_i z
    rw[AE z];calc h.2 j e q
def Sy {K:Yb} {f:FE} {τ:Sv} {H:Hp} {Q:VK} (h:trD K (toD f) τ H Q):trE K f τ H Q:=by
  let⟨L,Y,M,d,M',c,rs,hf,q⟩:=h;erw[toD]at hf;cbv at hf
  . rename_i d' M1 e1
    ext hf;exact (mkE c rs e1 (λL' H' v s c' r=>q L' H' v s c' r))
  . rename_i xs M1 e1
    ext hf;refine (mkE c rs e1 (λL' H' v s c' r=>?_));let⟨p,vs,rfl,e0,e2,e3,r⟩:=r;let⟨c2,s2⟩:=LY s c' e0 e2 e3 r;exact q _ H' _ s2 c2 (Rep.last c')
  .cases hf
def Bw:FS:=λY M=>some (.nx,Y,M)
def zM (f g:FS):FS:=λY M=>match f Y M with
  |some (.nx,σ1,M1)=>g σ1 M1
  |r=>r
def sIf (c:FT) (f g:FS):FS:=λY M=>match c Y M with
  |some (true,M1)=>f Y M1
  |some (false,M1)=>g Y M1
  |none=>none
def Ae (f:FE):FS:=λY M=>match toD f Y M with
  |some (d,M1)=>some (.ret d,Y,M1)
  |none=>none
def AO (i:Nat) (f:FE):FS:=λY M=>match toD f Y M with
  |some (d,M1)=>some (.nx,Y.set i (some d),M1)
  |none=>none
def C8 (f:FE):FS:=λY M=>match f Y M with
  |some (_,M1)=>some (.nx,Y,M1)
  |none=>none
section
variable {X:Cx} {st:Stmt} {rest:Yy} {e c:Expr} {pos:Pos}
def Ft:QSs X [] Bw:=.mk <| PSs.imp YH λE τ H zz=>by
  let⟨L,Y,M,o,Y',M',c,rs,hf,q⟩:=zz;erw[Bw]at hf;ext hf;calc q L H (.refl L H) c τ rs
def GJ {f g:FS} (h1:QS X st f) (h2:QSs X rest g):QSs X (st::rest) (zM f g):=.mk <| PSs.imp (Uv h1.un h2.un) λE τ H zz=>by
  let⟨L,Y,M,o,Y',M',c,rs,hf,q⟩:=zz;erw[zM]at hf;cbv at hf
  . rename_i σ1 M1 e1
    refine ⟨L,Y,M,_,_,_,c,rs,e1,λL1 H1 s1 c1 τ1 r1=>⟨L1,σ1,M1,_,_,_,c1,r1,hf,λL2 H2 s2 c2=>q L2 H2 (s1.trans s2) c2⟩⟩
  . rename_i hne
    refine ⟨L,Y,M,_,_,_,c,rs,hf,λL1 H1 s1 c1=>?_⟩;let z:=q L1 H1 s1 c1;cases o with
    |nx=>calc absurd hf (hne Y' M')
    |ret d=>calc z
    |brk=>calc z
    |cnt=>calc z
def El {f:FS} (h1:QS X st f):QSs X [st] f:=.mk <| PSs.imp (Ug h1.un) λ_ _ _ h=>h
def GX {a b:Yy} {fc:FT} {f g:FS} (hc:QT X c fc) (ha:QSs X a f) (hb:QSs X b g):QS X (.If c a b pos) (sIf fc f g):=.mk <| PS.imp (Xq hc.un ha.un hb.un) λE τ H zz=>by
  let⟨L,Y,M,o,Y',M',c,rs,hf,q⟩:=zz;erw[sIf]at hf;cbv at hf
  . rename_i M1 e1
    refine (mkT c rs e1 (λL1 H1 s1 c1=>?_));exact Fc ⟨L1,Y,M1,_,_,_,c1,rs.stp s1,hf,λL2 H2 s2 c2=>q L2 H2 (s1.trans s2) c2⟩
  . rename_i M1 e1
    refine (mkT c rs e1 (λL1 H1 s1 c1=>?_));exact Ez ⟨L1,Y,M1,_,_,_,c1,rs.stp s1,hf,λL2 H2 s2 c2=>q L2 H2 (s1.trans s2) c2⟩
  .cases hf
def E1 {f:FE} (h:QE X e f):QS X (.Return (some e) pos) (Ae f):=.mk <| PS.imp (ZV (CP h).un) λE τ H zz=>by
  let⟨L,Y,M,o,Y',M',c,rs,hf,q⟩:=zz;erw[Ae]at hf;cbv at hf
  . rename_i d M1 e1
    ext hf;exact (mkD c rs e1 (λL1 H1 v s1 c1 r1=>q L1 H1 s1 c1 v r1))
  .cases hf
def Lz {K:Yb} {i:Nat} {f:FE} {t:TE} (ht:∀ τ H Q,trE K f τ H Q->t τ H Q) {E:Ends} {τ:Sv} {H:Hp} (h:trS K (AO i f) E τ H):IZ t (Dx i) E τ H:=by
  let⟨L,Y,M,o,Y',M',c,rs,hf,q⟩:=h;erw[AO]at hf;cbv at hf
  . rename_i d M1 e1
    ext hf;exact ht _ _ _ (Sy (mkD c rs e1 (λL1 H1 v s1 c1 r1=>q L1 H1 s1 c1 _ ((rs.stp s1).set r1))))
  .cases hf
def Zc {i:Nat} {x:Str} {f:FE} {pos':Pos} (hN:X.N.Nodup) (hi:X.N[i]?=some x) (hx:Loc X.env.scope x) (h:QE X e f) (hs:swapsWith e (some (.Name x pos')) pos.line X.env=pure false:=by rfl)
    (hf:X.fn x=true\/X.env.scope.names.lookup x=some .local:=by first|exact .inl rfl|exact .inr rfl|assumption):QS X (.Assign [.Name x pos'] e pos) (AO i f) := 
  .mk <| PS.imp (Tp hN hi hx h.un hs hf) λ_ _ _ z=>Lz (λ_ _ _ z=>z) z
def Qe {f:FE} (h:QE X e f) (hs:swapsWith e none pos.line X.env=pure false:=by rfl):QS X (.Expr e pos) (C8 f):=.mk <| PS.imp (Uw h.un hs) λE τ H zz=>by
  let⟨L,Y,M,o,Y',M',c,rs,hf,q⟩:=zz;erw[C8]at hf;cbv at hf
  . rename_i d M1 e1
    ext hf;exact (mkE c rs e1 (λL1 H1 v s1 c1 r1=>q L1 H1 s1 c1 τ (rs.stp s1)))
  .cases hf
abbrev FG:=D->Sd->Option Sd
def GOk (g:TG) (fg:FG):Prop:=∀ {L:Yg} {H:Hp} {Y Y':Sd} {τ:Sv} {d:D} {v:V} {Q:Sv->Hp->Prop},AX L H Y τ->Rep L H d v->fg d Y=some Y'->(∀ τ',AX L H Y' τ'->Q τ' H)->g v τ H Q
def gN (i:Nat):FG:=λd Y=>some (Y.set i (some d))
def UQ {i:Nat}:GOk (Dx i) (gN i):=by
  intro L H Y Y' τ d v Q rs r hf q;erw[gN]at hf;ext hf;calc q _ (rs.set r)
abbrev FI:=Sd->Mem->Option (List D × Option (Mem->Prop) × Mem)
def CO (g:Option (Mem->Prop)) (xs:List D) (M:Mem):Prop:=match g with
  |none=>True
  |some p=>p M
def Jk (K:Yb) (J:It) (L:Yg) (H:Hp) (xs:List D) (g:Option (Mem->Prop)):Prop:=∀ L' H' M',Stp L H L' H'->Cor K L' M' H'->CO g xs M' ->
  (∀ (i:Nat) d,xs[i]?=some d->J.go i H' /\ ∀ v H'',J.yld i H' v H''->(∀ a o,H' a=some o->H'' a=some o)/\Rep L' H'' d v)/\J.stop xs.length H'
def trI (K:Yb) (f:FI):TI:=λτ H R=>∃ L Y M xs g M',Cor K L M H/\AX L H Y τ/\f Y M=some (xs,g,M') /\ ∀ L' H' J,Stp L H L' H'->Cor K L' M' H'->Jk K J L' H' xs g->R J H'
def mkI {K:Yb} {f:FI} {τ:Sv} {H:Hp} {R} {Y:Sd} {M M':Mem} {xs g} (c:Cor K L M H) (r:AX L H Y τ) (e:f Y M=some (xs,g,M')) (q:∀ L' H' J,Stp L H L' H'->Cor K L' M' H'->Jk K J L' H' xs g->R J H'):trI K f τ H R:=⟨_,_,_,_,_,_,c,r,e,q⟩
structure QI (X:Cx) (tg e:Expr) (f:FI):Prop where
  un:PI X tg e (trI X.K f)
def PI.imp {tg e:Expr} {t t':TI} (h:PI X tg e t) (hi:∀ τ H R,t' τ H R->t τ H R):PI X tg e t':=λzB s Y H R I q=>h zB s Y H R I (hi _ _ _ q)
def Cy (g:FG) (b:FS) (all:List D) (gd:Option (Mem->Prop)):List D->Sd->Mem->Option (Out × Sd × Mem)
  |[],Y,M=>open Classical in if CO gd all M then some (.nx,Y,M) else none
  |x::r,Y,M=>open Classical in if CO gd all M then match g x Y with
      |some σ1=>match b σ1 M with
        |some (.nx,σ2,M2)=>Cy g b all gd r σ2 M2
        |some (.cnt,σ2,M2)=>Cy g b all gd r σ2 M2
        |some (.brk,σ2,M2)=>some (.nx,σ2,M2)
        |some (.ret d,σ2,M2)=>some (.ret d,σ2,M2)
        |none=>none
      |none=>none
    else none
def BO (fi:FI) (g:FG) (b:FS):FS:=λY M=>match fi Y M with
  |some (xs,gd,M1)=>Cy g b xs gd xs Y M1
  |none=>none
def JJ {α:Type} {xs:List α} {i:Nat} (h:i<xs.length):xs.drop i=xs[i]::xs.drop (i+1):=List.drop_eq_getElem_cons h
def Stp.yld {L L':Yg} {H H' H'':Hp} (s:Stp L H L' H') (h:∀ a o,H' a=some o->H'' a=some o):Stp L H L' H'':=s.trans (.grow h)
set_option genInjectivity true in
inductive FW (K:Yb) (fg:FG) (b:FS) (xs:List D) (gd:Option (Mem->Prop)) (r:Option (Out × Sd × Mem)) (L1:Yg) (H1:Hp):Nat->Nat->Sv->Hp->Prop
  |mk {i:Nat} {τ':Sv} {H':Hp} {L':Yg} {Y':Sd} {M':Mem}:i<=xs.length->Stp L1 H1 L' H'->Cor K L' M' H'->AX L' H' Y' τ'->Cy fg b xs gd (xs.drop i) Y' M'=r->FW K fg b xs gd r L1 H1 i (xs.length-i) τ' H'
def R5 {K:Yb} {fi:FI} {g:TG} {fg:FG} {b:FS} (hg:GOk g fg) {E:Ends} {τ:Sv} {H:Hp} (h:trS K (BO fi fg b) E τ H):NA (trI K fi) g (trS K b) E τ H:=by
  let⟨L,Y,M,o,σf,Mf,c,rs,hf,q⟩:=h;erw[BO]at hf;cbv at hf
  . rename_i xs gd M1 e1
    refine (mkI c rs e1 (λL1 H1 J s1 c1 it=>?_));calc ⟨FW K fg b xs gd (some (o,σf,Mf)) L1 H1,⟨_,.mk (Bh _) (.refl _ _) c1 (rs.stp s1) (~~~hf)⟩,?_⟩;rintro i m τ' H' ⟨hi,s',c',rs',e'⟩;rename_i L' Y' M';by_cases hlt:i<xs.length
    . rw[JJ hlt]at e'
      erw[Cy]at e';cbv at e'
      . rename_i hgd
        let⟨step,_⟩:=it L' H' M' s' c' hgd;let⟨go,yl⟩:=step i xs[i] (AJ hlt);cases eg:fg xs[i] Y' with
        |none=>rw[eg]at e';ext e'
        |some σ1=>
          rw[eg]at e';dsimp only at e';refine .inr ⟨go,FW K fg b xs gd (some (o,σf,Mf)) L1 H1 (i+1) (xs.length-(i+1)),λτ2 H2 a=>⟨xs.length-(i+1),(),a⟩,λv H2 hy=>?_⟩;let⟨gr,rv⟩:=yl v H2 hy;refine hg (AX.stp (.grow gr) rs') rv eg λτ2 r2=>?_;cases eb:b σ1 M' with
          |none=>rw[eb]at e';ext e'
          |some r=>
            let⟨o2,σ2,M2⟩:=r;rw[eb]at e';refine ⟨L',σ1,M',_,_,_,c'.grow gr,r2,eb,λL3 H3 s3 c3=>?_⟩;let s13:Stp L1 H1 L3 H3:=(s'.yld gr).trans s3;cases o2 with
            |nx=>exact λτ3 r3=> .mk hlt s13 c3 r3 e'
            |cnt=>exact λτ3 r3=> .mk hlt s13 c3 r3 e'
            |brk=>ext e';calc q L3 H3 (s1.trans s13) c3
            |ret d=>ext e';exact q L3 H3 (s1.trans s13) c3
      .cases e'
    . have hi':i=xs.length:=()
      subst hi';rw[List.drop_length]at e';erw[Cy]at e';cbv at e'
      . rename_i hgd
        ext e';let⟨_,stop⟩:=it L' H' _ s' c' hgd;exact .inl ⟨stop,q L' H' (s1.trans s') c' τ' rs'⟩
      .cases e'
  .cases hf
def Sg {tg iter:Expr} {body:Yy} {fi:FI} {g:TG} {fg:FG} {b:FS} (hg:GOk g fg) (hp:PassesOwn (model X.prog X.w) X.A X.env X.xe) (hc:X.calm=true) (hi:QI X tg iter fi) (ht:PG X tg g) (hb:QSs X body b)
    (hs:∀ x,foldedSetIterable iter X.env x=pure x:=by intro _;rfl):QS X (.For tg iter body [] pos) (BO fi fg b):=.mk <| PS.imp (V4 hp hc hi.un ht hb.un hs) λ_ _ _ h=>R5 hg h
end
section
variable {X:Cx} {e c iter tg elt:Expr} {pos:Pos} {scope:Y0} {ifs:Yi}
def Bz (c:FT) (b:FS):Nat->Sd->Mem->Option (Out × Sd × Mem)
  |0,_,_=>none
  |n+1,Y,M=>match c Y M with
    |some (true,M1)=>match b Y M1 with
      |some (.nx,σ2,M2)=>Bz c b n σ2 M2
      |some (.cnt,σ2,M2)=>Bz c b n σ2 M2
      |some (.brk,σ2,M2)=>some (.nx,σ2,M2)
      |some (.ret d,σ2,M2)=>some (.ret d,σ2,M2)
      |none=>none
    |some (false,M1)=>some (.nx,Y,M1)
    |none=>none
def XI {K:Yb} {fc:FT} {b:FS} {n:Nat} {E:Ends} {τ:Sv} {H:Hp} (h:trS K (Bz fc b n) E τ H):PX (trT K fc) (trS K b) E τ H:=by
  let⟨L,Y,M,o,σf,Mf,c,rs,hf,q⟩:=h;refine ⟨λm τ' H'=>∃ L' Y' M',Stp L H L' H'/\Cor K L' M' H'/\AX L' H' Y' τ'/\Bz fc b m Y' M'=some (o,σf,Mf),⟨n,L,Y,M,.refl _ _,c,rs,hf⟩,?_⟩;rintro m τ' H' ⟨L',Y',M',s',c',rs',e'⟩;cases m with
  |zero=>erw[Bz]at e';ext e'
  |succ m=>
    erw[Bz]at e';cbv at e'
    . rename_i M1 e1
      refine (mkT c' rs' e1 (λL1 H1 s1 c1=>Fc ?_));refine ⟨λτ2 H2=>∃ L2 σ2 M2,Stp L H L2 H2/\Cor K L2 M2 H2/\AX L2 H2 σ2 τ2/\Bz fc b m σ2 M2=some (o,σf,Mf),λτ2 H2 h2=>⟨m,CL m,h2⟩,?_⟩;cases eb:b Y' M1 with
      |none=>rw[eb]at e';ext e'
      |some r=>
        let⟨o2,σ2,M2⟩:=r;rw[eb]at e';refine ⟨L1,Y',M1,_,_,_,c1,rs'.stp s1,eb,λL3 H3 s3 c3=>?_⟩;let s13:Stp L H L3 H3:=(s'.trans s1).trans s3;cases o2 with
        |nx=>exact λτ3 r3=>⟨L3,σ2,M2,s13,c3,r3,e'⟩
        |cnt=>exact λτ3 r3=>⟨L3,σ2,M2,s13,c3,r3,e'⟩
        |brk=>ext e';calc q L3 H3 s13 c3
        |ret d=>ext e';exact q L3 H3 s13 c3
    . rename_i M1 e1
      ext e';exact ⟨L',_,M',_,_,c',rs',e1,λL1 H1 s1 c1=>Ez (q L1 H1 (s'.trans s1) c1 τ' (rs'.stp s1))⟩
    .cases e'
def Rw {body:Yy} {fc:FT} {b:FS} (n:Nat) (hp:PassesOwn (model X.prog X.w) X.A X.env X.xe) (hc:QT X c fc) (hb:QSs X body b):QS X (.While c body [] pos) (Bz fc b n) := 
  .mk <| PS.imp (UC hp hc.un hb.un) λ_ _ _ h=>XI h
def EO (own:Yj) (Y:Sd):Sd:=own.foldl (λY i=>Y.set i none) Y
theorem Ky {L:Yg} {H:Hp}:∀ (own:Yj) {Y:Sd} {τ:Sv},AX L H Y τ->AX L H (EO own Y) (clr own τ)
  |[],_,_,h=>h
  |i::r,Y,τ,h=>by
    refine Ky r (Y:=Y.set i none) (τ:=τ.set i none) ⟨by simp[h.1],λj d q=>?_⟩;rw[CJ]at q ⊢;cbv at q
    .split at q <;> ext q
    . rename_i z
      rw[AE z];calc h.2 j d q
def Bn (g:FG) (tc:FT) (te:FE) (Y:Sd) (all:List D) (gd:Option (Mem->Prop)):List D->Mem->Option (List D × Mem)
  |[],M=>open Classical in if CO gd all M then some ([],M) else none
  |x::r,M=>open Classical in if CO gd all M then match g x Y with
      |some σ1=>match tc σ1 M with
        |some (true,M1)=>match toD te σ1 M1 with
          |some (d,M2)=>match Bn g tc te Y all gd r M2 with
            |some (ds,M3)=>some (d::ds,M3)
            |none=>none
          |none=>none
        |some (false,M1)=>Bn g tc te Y all gd r M1
        |none=>none
      |none=>none
    else none
def Ap (own:Yj) (fi:FI) (g:FG) (tc:FT) (te:FE):FE:=λY M=>match fi Y M with
  |some (xs,gd,M1)=>if xs.length<=sizeLine then match Bn g tc te (EO own Y) xs gd xs M1 with
      |some (ys,M2)=>some (.fl ys,M2)
      |none=>none
    else none
  |none=>none
/-- what a target of a comprehension does: it sets names of its own -/
def Fl (own:Yj) (g:TG) (fg:FG):Prop:=∀ {L:Yg} {H:Hp} {Y Y':Sd} {τ τ0:Sv} {d:D} {v:V} {Q:Sv->Hp->Prop},AX L H Y τ->Ext (clr own τ0) τ->Rep L H d v->fg d Y=some Y'->(∀ τ',AX L H Y' τ'->Ext (clr own τ0) τ'->Q τ' H)->g v τ H Q
def II {own:Yj} {i:Nat} (hi:i∈own):Fl own (Dx i) (gN i):=by
  intro L H Y Y' τ τ0 d v Q rs ex r hf q;erw[gN]at hf;ext hf;exact q _ (rs.set r) (ex.set hi)
set_option genInjectivity true in
inductive CW (K:Yb) (fg:FG) (tc:FT) (te:FE) (σ0:Sd) (xs:List D) (gd:Option (Mem->Prop)) (Mf:Mem) (zs:List D) (L1:Yg) (H1:Hp):Nat->Nat->List V->Hp->Prop
  |mk {i:Nat} {ys:List V} {H':Hp} {L':Yg} {M':Mem} {as bs:List D}:i<=xs.length->Stp L1 H1 L' H'->Cor K L' M' H'->zG L' H' as ys->as.length<=i->Bn fg tc te σ0 xs gd (xs.drop i) M'=some (bs,Mf)->as++bs=zs->CW K fg tc te σ0 xs gd Mf zs L1 H1 i (xs.length-i) ys H'
def MT {K:Yb} {own:Yj} {fi:FI} {g:TG} {fg:FG} {tc:FT} {te:FE} (hg:Fl own g fg) {τ:Sv} {H:Hp} {Q:VK} (h:trE K (Ap own fi fg tc te) τ H Q):KC own (trI K fi) g (trT K tc) (trD K (toD te)) τ H Q:=by
  let⟨L,Y,M,d,Mf,c,rs,hf,q⟩:=h;erw[Ap]at hf;cbv at hf
  . rename_i xs gd M1 e1
    cbv at hf
    . rename_i hz
      cbv at hf
      . rename_i zs M2 e2
        ext hf;refine (mkI c rs e1 (λL1 H1 J s1 c1 it=>?_));calc ⟨CW K fg tc te (EO own Y) xs gd Mf zs L1 H1,⟨_,.mk (Bh _) (.refl _ _) c1 .nil (AF _) (~~~e2) rfl⟩,?_⟩;rintro i m ys H' ⟨hi,s',c',r',hl,e',hab⟩;rename_i L' M' as bs;let hys:ys.length<=i:=by rw[r'.length];exact hl
        by_cases hlt:i<xs.length
        . rw[JJ hlt]at e'
          erw[Bn]at e';cbv at e'
          . rename_i hgd
            let⟨step,_⟩:=it L' H' M' s' c' hgd;let⟨go,yl⟩:=step i xs[i] (AJ hlt);cbv at e'
            . rename_i σ1 eg
              refine .inr ⟨go,λv H2 hy=>?_⟩;let⟨gr,rv⟩:=yl v H2 hy;let s2:Stp L1 H1 L' H2:=s'.yld gr;refine hg (Ky own ((rs.stp s1).stp s2)) (.refl _) rv eg λτ2 r2 x2=>⟨x2,?_⟩;cbv at e'
              . rename_i M3 e3
                cbv at e'
                . rename_i d M4 e4
                  cbv at e'
                  . rename_i ds M5 e5
                    ext e';refine (mkT (c'.grow gr) r2 e3 (λL3 H3 s3 c3=>Fc ?_));refine (mkD c3 (r2.stp s3) e4 (λL4 H4 w s4 c4 r4=>?_));let st:Stp L' H' L4 H4:=((Stp.grow gr).trans s3).trans s4;refine ⟨Nat.lt_of_le_of_lt hys (Ao hlt hz),xs.length-(i+1),(),.mk (as:=as++[d]) hlt (s'.trans st) c4 ((r'.stp st).app (.cons r4 .nil)) (by simp;omega) e5 (by rw[<-hab];simp)⟩
                  .cases e'
                .cases e'
              . rename_i M3 e3
                refine (mkT (c'.grow gr) r2 e3 (λL3 H3 s3 c3=>Ez ?_));let st:Stp L' H' L3 H3:=(Stp.grow gr).trans s3;exact ⟨xs.length-(i+1),(),.mk hlt (s'.trans st) c3 (r'.stp st) () e' hab⟩
              .cases e'
            .cases e'
          .cases e'
        . have hi':i=xs.length:=()
          subst hi';rw[List.drop_length]at e';erw[Bn]at e';cbv at e'
          . rename_i hgd
            ext e';let⟨_,stop⟩:=it L' H' _ s' c' hgd;refine .inl ⟨stop,An hys hz,λp hp=>?_⟩;rw[C1]at hab;subst hab;exact q L' _ _ ((s1.trans s').trans (.upd hp)) (c'.upd hp) (zR.newLst (s1.trans s') c c' hp r')
          .cases e'
      .cases hf
    .cases hf
  .cases hf
structure QIfs (X:Cx) (ifs:Yi) (f:FT):Prop where
  un:Fx X ifs (trT X.K f)
def B2:FT:=λ_ M=>some (true,M)
def MC:QIfs X [] B2:=.mk λzB s Y H Q I h=>by
  let⟨L,Y',M,d,M',c,rs,hf,q⟩:=h;erw[B2]at hf;ext hf;calc Tq zB s Y H Q I (q L H (.refl L H) c)
def XD {f:FT} (h:QT X c f):QIfs X [c] f:=.mk (VF h.un)
/-- the parts of a comprehension in its block -/
structure QParts (X:Cx) (scope:Y0) (tg:Expr) (ifs:Yi) (elt:Expr) (g:TG) (tc:FT) (te:FE):Prop where
  g:∀ zB cl s H fp,PG (zd X zB scope cl s H fp) tg g
  c:∀ zB cl s H fp,QIfs (zd X zB scope cl s H fp) ifs tc
  e:∀ zB cl s H fp,QE (zd X zB scope cl s H fp) elt te
def QParts.parts {g:TG} {tc:FT} {te:FE} (p:QParts X scope tg ifs elt g tc te):CompParts X scope tg ifs elt g (trT X.K tc) (trD X.K (toD te)) :=
  ⟨p.g,λzB cl s H fp=>(p.c zB cl s H fp).un,λzB cl s H fp=>(CP (p.e zB cl s H fp)).un⟩
def JC {own:Yj} {fi:FI} {g:TG} {fg:FG} {tc:FT} {te:FE} (hg:Fl own g fg) (C:CompIn X scope own) (hcalm:X.calm=true) (hi:QI X tg iter fi) (p:QParts X scope tg ifs elt g tc te) (hs:∀ x,foldedSetIterable iter X.env x=pure x:=by intro _;rfl) :
    QE X (.ListComp elt [⟨tg,iter,ifs,0⟩] scope pos) (Ap own fi fg tc te):=.mk <| PE.imp (VR C hcalm hi.un p.parts hs) λ_ _ _ h=>MT hg h
def Qs {i:Nat} {x:Str} {pos' pos'':Pos} {own:Yj} {fi:FI} {g:TG} {fg:FG} {tc:FT} {te:FE} (hN:X.N.Nodup) (hi':X.N[i]?=some x) (hx:Loc X.env.scope x) (hfn:X.fn x=true\/X.env.scope.names.lookup x=some .local)
    (hsw:swapsWith (.ListComp elt [⟨tg,iter,ifs,0⟩] scope pos) (some (.Name x pos')) pos''.line X.env=pure true)
    (hg:Fl own g fg) (C:CompIn X scope own) (hcalm:X.calm=true) (hi:QI X tg iter fi) (p:QParts X scope tg ifs elt g tc te) (hs:∀ x,foldedSetIterable iter X.env x=pure x:=by intro _;rfl) :
    QS X (.Assign [.Name x pos'] (.ListComp elt [⟨tg,iter,ifs,0⟩] scope pos) pos'') (AO i (Ap own fi fg tc te)) := 
  .mk <| PS.imp (Xl hN hi' hx hfn C hcalm hi.un p.parts hsw hs) λ_ _ _ z=>Lz (λ_ _ _ z=>MT hg z) z
end
abbrev FF:=List D->Mem->Option (D × Mem)
def spF (K:Yb) (n:Nat) (g:FF):Sp:=λvs H Q _=>∃ L ds M d M',Cor K L M H/\zG L H ds vs/\ds.length=n/\g ds M=some (d,M') /\ ∀ L' H' v,Stp L H L' H'->Cor K L' M' H'->Rep L' H' d v->Q v H'
def zm (g:FF) (fa:FA):FE:=λY M=>match fa Y M with
 |some (ds,M1)=>match g ds M1 with
  |some (d,M2)=>some (.dat d,M2)
  |none=>none
 |none=>none
section
variable {X:Cx} {e:Expr} {es:Yi} {pos p:Pos} {x:Str} {k:Nat} {f:Yt} {fd:Yz} {ps:Yk}
def XC (F:FnOk X.prog X.w X.K X.mg X.base CX0 k f fd ps (spF X.K (e::es).length g)) (hr:Room k X.A) (hg:Gl X x) (hm:X.mg x=some (.ref f)) (hk:PySem.W.keepIn X.K (.ref f)=true) (hb:E5 X.K fd ps [])
  (ha:QA X (e::es) fa) (hl:∀ Y M ds M1,fa Y M=some (ds,M1)->ds.length=(e::es).length) (hdb:(x==("__debug__" : Str))=false:=by decide) (he:starEach (e::es) X.env=(false,eval e X.env)::starEach es X.env:=by rfl) (hpl:(backTo pos (starEach es X.env)).any (·.1)=false:=by rfl) :
  QE X (.Call (.Name x p) (e::es) [] pos) (zm g fa) :=
 .mk <| PE.imp (T5 F hr hg hm hk hb .nil Zq ha.un hdb he hpl) λτ H Q zz=>by
  let⟨L,Y,M,d,M',c,rs,hf,q⟩:=zz;erw[zm]at hf;cbv at hf
  .rename_i ds M1 e1;cbv at hf
   .rename_i d' M2 e2;ext hf;refine ⟨L,Y,M,_,_,c,rs,e1,λL1 H1 vs s1 c1 r1=>?_⟩;dsimp only;rw[C1];exact ⟨L1,ds,M1,d',_,c1,r1,hl _ _ _ _ e1,e2,λL2 H2 v s2 c2 r2=>q L2 H2 v (s1.trans s2) c2 r2⟩
   .cases hf
  .cases hf
def Gi (fa:FA) (n:Nat):Prop:=∀ Y M ds M1,fa Y M=some (ds,M1)->ds.length=n
def NL:Gi zS 0:=λY M ds M1 h=>by erw[zS]at h;ext h;rfl
def K9 {f:FD} {g:FA} {n:Nat} (h:Gi g n):Gi (zD f g) (n+1):=λY M ds M1 q=>by
 erw[zD]at q;cbv at q
 .split at q
  .rename_i e2;ext q;simp[h _ _ _ _ e2]
  .cases q
 .cases q
def BA (n:Nat) (b:FS):FF:=λds M=>match b (ds.map some++List.replicate (n-ds.length) none) M with
 |some (.ret d,_,M')=>some (d,M')
 |some (.nx,_,M')=>some (.non,M')
 |_=>none
def OL:∀ {ds:List D} {vs:List V},zG L H ds vs->AX L H (ds.map some++List.replicate (N.length-ds.length) none) (L2.start N vs):=λ{ds vs} r=>by
 erw[L2.start];let hl:=r.length;refine ⟨by simp[hl],λi d q=>?_⟩;by_cases hi:i<ds.length
 .rw[BI (~~~hi),AQ]at q;rw[BI (by simpa [hl] using hi),AQ];cases e1:ds[i]? with
  |none=>rw[e1]at q;ext q
  |some d'=>
   rw[e1]at q;ext q;let⟨v,e2,r2⟩:=r.get e1;exact ⟨v,by rw[e2];rfl,r2⟩
 .rw[Dk (~~~hi),List.getElem?_replicate]at q;split at q <;> ext q
def CC {P:Ym} {w:Yo} {K:Yb} {mg:Yh} {base:Heap} {qual:Str} {st:Stmt} {N:Yk} {b:FS} {n:Nat} (F:Fun K x qual st f fd) (S:FnScope N ps (zO st)) (hn:ps.length=n)
  (hb:∀ (cdv:Yu) (A:Yn) (outer:List Env) (s:Yl) (H:Hp) (E:XK),Room k (A.deeper (envOfC qual (zO st) ⇑s f cdv))->QSs (Et CX0 P w K mg base N qual (zO st) f cdv A outer s H E).nox (EF st) b) :
  FnOk P w K mg base CX0 (k+1) f fd ps (spF K n (BA N.length b)):=by
 refine F.ok S (λvs H Q E h=>?_) (λcdv A outer s H vs Q E hr h=>⟨_,(hb cdv A outer s H E hr).un,?_⟩)
 .obtain ⟨L,ds,M,d,M',c,r,hl,_⟩:=h;rw[r.length,hl,hn]
 .obtain ⟨L,ds,M,d,M',c,r,hl,hf,q⟩:=h;erw[BA]at hf;cbv at hf
  .rename_i d' Y' M1 e1;ext hf;exact ⟨L,_,M,_,_,_,c,OL r,e1,λL1 H1 s1 c1 v r1=>q L1 H1 v s1 c1 r1⟩
  .rename_i Y' M1 e1;ext hf;exact ⟨L,_,M,_,_,_,c,OL r,e1,λL1 H1 s1 c1 τ' r1=>q L1 H1 .non s1 c1 (by erw[Rep];rfl)⟩
  .cases hf
mutual
def D.und (n:Nat):D->Bool
 |.tup ds=>D.unds n ds
 |.ref k=>decide (k<n)
 |.fn _ ds=>D.unds n ds
 |_=>true
def D.unds (n:Nat):List D->Bool
 |[]=>true
 |d::ds=>D.und n d&&D.unds n ds
end
mutual
theorem Rep.less:∀ {d:D} {v:V},D.und L.length d=true->Rep (L++N) H d v->Rep L H d v
 |.non,_,_,h=>by unfold Rep at h ⊢;calc h
 |.bl _,_,_,h=>by unfold Rep at h ⊢;calc h
 |.int _,_,_,h=>by unfold Rep at h ⊢;calc h
 |.str _,_,_,h=>by unfold Rep at h ⊢;calc h
 |.tup ds,_,hb,h=>by
  erw[D.und]at hb;unfold Rep at h ⊢;let⟨a,vs,rfl,e,r⟩:=h;calc ⟨a,vs,rfl,e,zG.less hb r⟩
 |.ref n,_,hb,h=>by
  erw[D.und]at hb;unfold Rep at h ⊢;let⟨a,rfl,e⟩:=h;calc ⟨a,rfl,by rwa [BI (By hb)]at e⟩
 |.fn _ ds,_,hb,h=>by
  erw[D.und]at hb;unfold Rep at h ⊢;calc ⟨h.1,h.2.1,zG.less hb h.2.2⟩
theorem zG.less:∀ {ds:List D} {vs:List V},D.unds L.length ds=true->zG (L++N) H ds vs->zG L H ds vs
 |[],_,_,h=>by unfold zG at h ⊢;calc h
 |d::ds,_,hb,h=>by
  erw[D.unds]at hb;rw[A8]at hb;unfold zG at h ⊢;let⟨v,r,rfl,h1,h2⟩:=h;calc ⟨v,r,rfl,Rep.less hb.1 h1,zG.less hb.2 h2⟩
end
def AR.less {κ:Type} {kf:D->Option κ} {L N:Yg} {H:Hp}:∀ {ps:List (D × D)} {vs:List (κ × V)},(ps.all λp=>D.und L.length p.1&&D.und L.length p.2)=true->AR kf (L++N) H ps vs->AR kf L H ps vs
 |[],_,_,h=>h
 |p::r,_,hb,h=>by
  rw[List.all_cons,A8,A8]at hb;let⟨k,v,r',rfl,e,h1,h2⟩:=h;calc ⟨k,v,r',rfl,e,Rep.less hb.1.2 h1,AR.less hb.2 h2⟩
def MO.und (n:Nat):MO->Bool
 |.lst xs=>D.unds n xs
 |.fro xs=>D.unds n xs
 |.dict kvs=>kvs.all λp=>D.und n p.1&&D.und n p.2
 |.dicT kvs=>kvs.all λp=>D.und n p.1&&D.und n p.2
 |.set xs=>D.unds n xs
 |.froT kvs=>kvs.all λp=>D.und n p.1&&D.und n p.2
 |.froK kvs=>kvs.all λp=>D.und n p.1&&D.und n p.2
def HF (g:FF):FF:=λds M=>match g ds M with
 |some (d,M')=>if D.und M.length d&&(M'.take M.length).all (MO.und M.length)&&decide (M.length<=M'.length) then some (d,M'.take M.length) else none
 |none=>none
def Wi {P:Ym} {w:Yo} {K:Yb} {mg:Yh} {base:Heap} {n:Nat} {g:FF} (h:FnOk P w K mg base CX0 k f fd ps (spF K n g)):FnOk P w K mg base CX0 k f fd ps (spF K n (HF g)) :=
 h.imp λvs H Q E ⟨L,ds,M,d,M',c,r,hl,hf,q⟩=>by
  erw[HF]at hf;cbv at hf
  .rename_i d' M1 e1;cbv at hf
   .rename_i hb;ext hf;simp only[A8,CQ,Aj]at hb;let⟨⟨hb1,hb2⟩,hb3⟩:=hb;refine ⟨L,ds,M,_,_,c,r,hl,e1,λL1 H1 v s1 c1 r1=>?_⟩;let⟨N,rfl⟩:=s1.pre;rw[<-c.len]at hb1 hb2 hb3;refine q L H1 v ⟨⟨[],by simp⟩,λa ha=> .inl ha,s1.old,s1.tup,s1.frz,s1.tbl⟩ ⟨?_,?_,λi a m e2 e3=>?_,c1.tab⟩ (Rep.less hb1 r1)
    .rw[BY,<-c.len];omega
    .exact (EX.mp c1.nd).1
    .rw[<-c.len]at e3;let hi:i<L.length:=(AK.mp e2).1;let hm:m∈M1.take L.length:=Ax e3;rw[List.getElem?_take_of_lt hi]at e3;let z:=c1.obj i a m (HN e2) e3;let bl:=hb2 m hm;cases m with
     |lst xs=>let⟨ws,e4,r4⟩:=z;calc ⟨ws,e4,zG.less bl r4⟩
     |fro xs=>let⟨o,ws,e4,r4⟩:=z;calc ⟨o,ws,e4,zG.less bl r4⟩
     |dict ps=>let⟨vs,e,r⟩:=z;calc ⟨vs,e,AR.less bl r⟩
     |dicT ps=>let⟨vs,e,r⟩:=z;calc ⟨vs,e,AR.less bl r⟩
     |set _=>calc z
     |froT ps=>let⟨o,vs,e,r⟩:=z;calc ⟨o,vs,e,AR.less bl r⟩
     |froK ps=>let⟨o,vs,e,r⟩:=z;exact ⟨o,vs,e,AR.less bl r⟩
   .cases hf
  .cases hf
def DR (g:FF):FF:=λds M=>if D.unds 0 ds then match g ds [] with
  |some (d,_)=>if D.und 0 d then some (d,M) else none
  |none=>none
 else none
def Fq {P:Ym} {w:Yo} {K:Yb} {mg:Yh} {base:Heap} {n:Nat} {g:FF} (h:FnOk P w K mg base CX0 k f fd ps (spF K n g)):FnOk P w K mg base CX0 k f fd ps (spF K n (DR g)) :=
 h.imp λvs H Q E ⟨L,ds,M,d,M',c,r,hl,hf,q⟩=>by
  erw[DR]at hf;cbv at hf
  .rename_i hb0;cbv at hf
   .rename_i d' M1 e1;cbv at hf
    .rename_i hb;ext hf;refine ⟨[],ds,[],_,_,⟨rfl,.nil,λi a m e=>by simp at e,c.tab⟩,zG.less (L:=[]) (N:=L) hb0 (~~~r),hl,e1,λL1 H1 v s1 c1 r1=>?_⟩;exact q L H1 v s1.bare (c.bare s1) ((Rep.less (L:=[]) (N:=L1) hb (~~~r1)).more L |> λz=>by simpa using z)
    .cases hf
   .cases hf
  .cases hf
def TC (hl:PE X l tl):PI X tg l (λY H R=>tl Y H λx H1=>∃ a,x=.ref a/\((∃ xs,SqL X.K H1 a xs)/\R (Itl X.K a) H1\/(∃ xs,SqT X.K H1 a xs)/\R (Itt X.K a) H1)):=by
 intro zB s Y H R I h;refine thn (hl zB s Y H _ I h) λv s1 ⟨y,H1,I1,r1,a,hy,h1⟩=>?_;subst hy;ext r1;let fpk:∀ b∈[⇑s1],Br X zB H1 b:=λb hb=>by
  let e:b=⇑s1:=by simpa using hb
  subst e;exact I1.fpOk (AF _) (I1.hok.fresh (AF _))
 rcases h1 with ⟨⟨xs,hq⟩,q⟩|⟨⟨xs,hq⟩,q⟩
 .obtain ⟨its,rv,pl,hz⟩:=I1.list hq;exact wpAny_pyIter_list pl.isList ⟨⇑s1,[⇑s1],_,_,H1,rfl,I1.kept (t':=s1.toks) λb o e=>AH _ e,SF a _,⟨_,AN _ rfl,rfl,rfl⟩,fpk,q⟩
 .obtain ⟨its,rv,pl,hz⟩:=I1.tuple hq;calc wpAny_pyIter_tuple (show s1.heap.IsTuple a its.toArray from pl) ⟨⇑s1,[⇑s1],_,_,H1,rfl,I1.kept (t':=s1.toks) λb o e=>AH _ e,YS a _,⟨_,AN _ rfl,rfl,rfl⟩,fpk,q⟩
def Jw (x:EV) (xs:List D):Option (Mem->Prop):=match x with
 |.dat (.ref n)=>some λM=>M[n]?=some (.lst xs)\/M[n]?=some (.fro xs)
 |_=>none
def Ai (f:FE):FI:=λY M=>match f Y M with
 |some (x,M1)=>match zu M1 x with
  |some xs=>some (xs,Jw x xs,M1)
  |none=>none
 |none=>none
def Bd (f:FA):FI:=λY M=>match f Y M with
 |some ([.int j],M1)=>if -(2 ^ 62)<=j/\j<2 ^ 62 then some ((List.range j.toNat).map λ(k:Nat)=>D.int k,none,M1) else none
 |some ([.int i,.int j],M1)=>if -(2 ^ 62)<=i/\i<2 ^ 62 /\ -(2 ^ 62)<=j/\j<2 ^ 62 then some ((List.range (j-i).toNat).map λ(k:Nat)=>D.int (i+k),none,M1) else none
 |_=>none
def S4 (h:QE X e g):QI X tg e (Ai g):=.mk <| PI.imp (TC h.un) λτ H R zz=>by
 let⟨L,Y,M,xs,gd,M',c,rs,hf,q⟩:=zz;erw[Ai]at hf;cbv at hf
 .rename_i y M1 e1;cbv at hf
  .rename_i zs e2;ext hf;refine (mkE c rs e1 (λL1 H1 v s1 c1 r1=>?_));erw[zu]at e2;cases t:Cs y with
   |some ws=>
    rw[t]at e2;ext e2;let⟨a,vs,rfl,e3,r3⟩:=Dt r1 t;refine ⟨a,rfl,.inr ⟨⟨vs,.of e3⟩,q L1 H1 _ s1 c1 λL2 H2 M2 s2 c2 _=>?_⟩⟩;let e4:=s2.tup a vs e3;let r4:=r3.stp s2;refine ⟨λi d hd=>?_,⟨vs,.of e4,by rw[r4.length];calc AF _⟩⟩;let⟨u,hu,ru⟩:=r4.get hd;refine ⟨⟨vs,u,.of e4,hu⟩,λv H3 ⟨hH,hv⟩=>?_⟩;subst hH;have:=hv vs (.of e4);rw[hu]at this;ext this;exact ⟨λ_ _ z=>z,ru⟩
   |none=>
    rw[t]at e2;dsimp only at e2;let⟨a,vs,rfl,e3,r3⟩:=DN c1 r1 e2;refine ⟨a,rfl,.inl ⟨⟨vs,.inl e3⟩,q L1 H1 _ s1 c1 λL2 H2 M2 s2 c2 hgd=>?_⟩⟩;let key:∃ vs',SqL X.K H2 a vs'/\zG L2 H2 xs vs':=by
     cases y with
     |fl ys=>
      ext e2;let⟨p',vs',hp',_,e5,e6,r6⟩:=r1;ext hp';calc ⟨vs',.of (s2.old _ _ e5 e6 (by intro _ z;ext z)),r6.stp s2⟩
     |dat d=>
      cases d with
      |ref n=>
       erw[zR,Rep]at r1;let⟨a',ha',e5⟩:=r1;ext ha';let e6:L2[n]?=some a:=by let⟨N,hN⟩:=s2.pre;rw[hN];exact HN e5
       rcases hgd with z|z
       .obtain ⟨vs',e7,r7⟩:=c2.obj n a _ e6 z;exact ⟨vs',.of e7,r7⟩
       .obtain ⟨o,vs',e7,r7⟩:=c2.obj n a _ e6 z;calc ⟨vs',.inl (.inr ⟨o,e7⟩),r7⟩
      |_=>ext e2
    let⟨vs',hq,r7⟩:=key;refine ⟨λi d hd=>?_,⟨vs',hq,by rw[r7.length];calc AF _⟩⟩;let⟨u,hu,ru⟩:=r7.get hd;refine ⟨⟨vs',u,hq,hu⟩,λv H3 ⟨hH,hv⟩=>?_⟩;subst hH;have:=hv vs' hq;rw[hu]at this;ext this;exact ⟨λ_ _ z=>z,ru⟩
  .cases hf
 .cases hf
def Kc (h:zG L H [.int j] vs):vs=[.int j]:=by
 erw[zG]at h;let⟨v,r,rfl,h1,h2⟩:=h;erw[zG]at h2;erw[Rep]at h1;subst h1 h2;rfl
def Vm (h:zG L H [.int i,.int j] vs):vs=[.int i,.int j]:=by
 erw[zG]at h;let⟨v,r,rfl,h1,h2⟩:=h;erw[Rep]at h1;rw[Kc h2,h1]
def Oi {K:Yb} {L:Yg} {H:Hp} {lo:Int} {n:Nat}:Jk K (Itr lo n) L H ((List.range n).map λ(k:Nat)=>D.int (lo+k)) none:=by
 intro L' H' M' s c _;refine ⟨λi d hd=>?_,by simp[Itr]⟩;rw[AQ]at hd;cases q:(List.range n)[i]? with
 |none=>rw[q]at hd;ext hd
 |some k=>
  rw[q]at hd;ext hd;let hi:i<n:=by have:=(AK.mp q).1;simpa using this
  rw[Eu hi]at q;ext q;refine ⟨hi,λv H'' ⟨hH,hv⟩=>?_⟩;subst hH hv;calc ⟨λ_ _ z=>z,C7⟩
def U4 {tg a:Expr} {g:FA} (hg:Gl X "range") (hm:X.mg "range" = none) (ha:QA X [a] g) (hl:Gi g 1) (hs:starEach [a] X.env=[(false,eval a X.env)]:=by rfl):QI X tg (.Call (.Name "range" p) [a] [] pos) (Bd g) :=
 .mk <| PI.imp (S0 hg hm ha.un hs) λτ H R zz=>by
  let⟨L,Y,M,xs,gd,M',c,rs,hf,q⟩:=zz;erw[Bd]at hf;cbv at hf
  .rename_i j M1 e1;cbv at hf
   .rename_i hb;ext hf;refine (mkA c rs e1 (λL1 H1 vs s1 c1 r1=>⟨j,Kc r1,hb.1,hb.2,q L1 H1 _ s1 c1 ?_⟩));let z:=Oi (K:=X.K) (L:=L1) (H:=H1) (lo:=0) (n:=j.toNat);simpa using z
   .cases hf
  .rename_i e1;have:=hl _ _ _ _ e1;simp at this
  .cases hf
def Wr (hg:Gl X "range") (hm:X.mg "range" = none) (ha:QA X [a,b] g) (hl:Gi g 2) (hs:starEach [a,b] X.env=[(false,eval a X.env),(false,eval b X.env)]:=by rfl) (hs2:starEach [b] X.env=[(false,eval b X.env)]:=by rfl):QI X tg (.Call (.Name "range" p) [a,b] [] pos) (Bd g) :=
 .mk <| PI.imp (Rr hg hm ha.un hs hs2) λτ H R zz=>by
  let⟨L,Y,M,xs,gd,M',c,rs,hf,q⟩:=zz;erw[Bd]at hf;cbv at hf
  .rename_i e1;have:=hl _ _ _ _ e1;simp at this
  .rename_i i j M1 e1;cbv at hf
   .rename_i hb;ext hf;exact (mkA c rs e1 (λL1 H1 vs s1 c1 r1=>⟨i,j,Vm r1,hb,q L1 H1 _ s1 c1 Oi⟩))
   .cases hf
  .cases hf
end
section
variable {X:Cx} {a b c e:Expr} {es rest:Yi} {pos p apos cpos:Pos}
def Dd (f g:FT):FT:=λY M=>match f Y M with
 |some (true,M1)=>g Y M1
 |r=>r
def Gv (f g:FT):FT:=λY M=>match f Y M with
 |some (false,M1)=>g Y M1
 |r=>r
def EG (f:FT):FT:=λY M=>match f Y M with
 |some (k,M1)=>some (!k,M1)
 |none=>none
structure QW (X:Cx) (e:Expr) (f:FT):Prop where
 un:PW X e (trT X.K f)
def PW.imp (h:PW X e t) (hi:∀ τ H Q,t' τ H Q->t τ H Q):PW X e t':=λwh zB s Y H Q I q=>h wh zB s Y H Q I (hi _ _ _ q)
def Wl (h:QT X a f):QW X (.BoolOp .And [a] pos) f:=.mk (UB h.un)
def TL (h:QT X a f):QW X (.BoolOp .Or [a] pos) f:=.mk (VT h.un)
def Zh (h1:QT X a f) (h2:QW X (.BoolOp .And (b::rest) pos) g):QW X (.BoolOp .And (a::b::rest) pos) (Dd f g):=.mk <| PW.imp (QF h1.un h2.un) λτ H Q zz=>by
 let⟨L,Y,M,d,M',c,rs,hf,q⟩:=zz;erw[Dd]at hf;cbv at hf
 .rename_i M1 e1;exact (mkT c rs e1 (λL1 H1 s1 c1=>Fc (mkT c1 (rs.stp s1) hf (λL2 H2 s2 c2=>q L2 H2 (s1.trans s2) c2))))
 .rename_i hne;cases d with
  |true=>calc absurd hf (hne M')
  |false=>calc (mkT c rs hf (λL1 H1 s1 c1=>Ez (q L1 H1 s1 c1)))
def Uk (h1:QT X a f) (h2:QW X (.BoolOp .Or (b::rest) pos) g):QW X (.BoolOp .Or (a::b::rest) pos) (Gv f g):=.mk <| PW.imp (Ti h1.un h2.un) λτ H Q zz=>by
 let⟨L,Y,M,d,M',c,rs,hf,q⟩:=zz;erw[Gv]at hf;cbv at hf
 .rename_i M1 e1;exact (mkT c rs e1 (λL1 H1 s1 c1=>Ez (mkT c1 (rs.stp s1) hf (λL2 H2 s2 c2=>q L2 H2 (s1.trans s2) c2))))
 .rename_i hne;cases d with
  |false=>calc absurd hf (hne M')
  |true=>calc (mkT c rs hf (λL1 H1 s1 c1=>Fc (q L1 H1 s1 c1)))
def OH (h:QW X e f):QT X e f:=.mk (PW.pt h.un)
def OG (h:QT X a f):QT X (.UnaryOp .Not a pos) (EG f):=.mk <| PT.imp (Zi h.un) λτ H Q zz=>by
 let⟨L,Y,M,d,M',c,rs,hf,q⟩:=zz;erw[EG]at hf;cbv at hf
 .rename_i k M1 e1;ext hf;exact (mkT c rs e1 (λL1 H1 s1 c1=>q L1 H1 s1 c1))
 .cases hf
def ED (f g:FE):FE:=λY M=>match f Y M with
 |some (.dat (.bl true),M1)=>g Y M1
 |some (.dat (.bl false),M1)=>some (.dat (.bl false),M1)
 |_=>none
def HG (f:FE):FE:=λY M=>match f Y M with
 |some (.dat (.bl k),M1)=>some (.dat (.bl (!k)),M1)
 |_=>none
def Ig (h:zR H0 L H (.dat (.bl k)) v):v=.bl k:=by erw[zR,Rep]at h;calc h
def K6 {op} (h:QE X a f):QE X (.BoolOp op [a] pos) f:=.mk (Si h.un)
def IJ (h1:QE X a f) (h2:QE X (.BoolOp .And (b::rest) pos) g):QE X (.BoolOp .And (a::b::rest) pos) (ED f g):=.mk <| PE.imp (ZQ h1.un h2.un) λτ H Q zz=>by
 let⟨L,Y,M,d,M',c,rs,hf,q⟩:=zz;erw[ED]at hf;cbv at hf
 .rename_i M1 e1;exact (mkE c rs e1 (λL1 H1 v s1 c1 r1=>⟨true,Ig r1,Fc (mkE c1 (rs.stp s1) hf (λL2 H2 w s2 c2 r2=>q L2 H2 w (s1.trans s2) c2 (r2.back s1 c s2.sub)))⟩))
 .rename_i M1 e1;ext hf;exact (mkE c rs e1 (λL1 H1 v s1 c1 r1=>⟨false,Ig r1,Ez (q L1 H1 _ s1 c1 (by have:=Ig r1;subst this;calc r1))⟩))
 .cases hf
def UH (h:QE X a f):QE X (.UnaryOp .Not a pos) (HG f):=.mk <| PE.imp (Ry h.un) λτ H Q zz=>by
 let⟨L,Y,M,d,M',c,rs,hf,q⟩:=zz;erw[HG]at hf;cbv at hf
 .rename_i k M1 e1;ext hf;exact (mkE c rs e1 (λL1 H1 v s1 c1 r1=>⟨k,Ig r1,q L1 H1 _ s1 c1 (by erw[zR,Rep];rfl)⟩))
 .cases hf
abbrev KM:=EV->List D->Mem->Option (D × Mem)
def fM (k:KM) (f:FE) (g:FA):FE:=λY M=>match f Y M with
 |some (x,M1)=>match Ba M1 x with
  |some _=>match g Y M1 with
   |some (ds,M2)=>match k x ds M2 with
    |some (d,M3)=>some (.dat d,M3)
    |none=>none
   |none=>none
  |none=>none
 |none=>none
def LJ (K:Yb) (r:V->List V->Hp->VK->Prop) (k:KM):Prop:=∀ {L:Yg} {M M':Mem} {H H0:Hp} {x:EV} {ds:List D} {d:D} {v:V} {vs:List V} {Q:VK},Cor K L M H->zR H0 L H x v->zG L H ds vs->k x ds M=some (d,M') ->
 (∀ L' H' u,Stp L H L' H'->Cor K L' M' H'->Rep L' H' d u->Q u H')->r v vs H Q
def Lf {K:PySem.W.Frag} {r:V->List V->Hp->VK->Prop} {k:KM} {f:FE} {g:FA} (hk:LJ K r k) {τ:Sv} {H:Hp} {Q:VK} (h:trE K (fM k f g) τ H Q):tBM K "list" r (trE K f) (trA K g) τ H Q:=by
 let⟨L,Y,M,d,M',c,rs,hf,q⟩:=h;erw[fM]at hf;cbv at hf
 .rename_i x M1 e1;cbv at hf
  .rename_i xs e2;cbv at hf
   .rename_i ds M2 e3;cbv at hf
    .rename_i d' M3 e4;ext hf;refine (mkE c rs e1 (λL1 H1 v s1 c1 r1=>?_));let⟨a,vs,rfl,e5,r5⟩:=DN c1 r1 e2;refine ⟨.inl ⟨rfl,vs,.inl e5⟩,L1,Y,M1,_,_,c1,rs.stp s1,e3,λL2 H2 ws s2 c2 r2=>?_⟩;exact hk c2 (r1.stp s2) r2 e4 λL3 H3 u s3 c3 r3=>q L3 H3 u ((s1.trans s2).trans s3) c3 r3
    .cases hf
   .cases hf
  .cases hf
 .cases hf
def C0:KM:=λx ds M=>match x,ds with
 |.dat (.ref n),[d]=>match M[n]? with
  |some (.lst xs)=>if xs.length<sizeLine then some (.non,M.set n (.lst (xs++[d]))) else none
  |_=>none
 |_,_=>none
def zG.one (h:zG L H [d] vs):∃ v,vs=[v]/\Rep L H d v:=by
 erw[zG]at h;let⟨v,r,rfl,h1,h2⟩:=h;erw[zG]at h2;subst h2;calc ⟨v,rfl,h1⟩
def SG {K:Yb}:LJ K OM C0:=by
 intro L M M' H H0 x ds d v vs Q c rx rd hk q;erw[C0]at hk;cbv at hk
 .rename_i n d';cbv at hk
  .rename_i xs e1;cbv at hk
   .rename_i hz;ext hk;erw[zR,Rep]at rx;let⟨a,rfl,e2⟩:=rx;let⟨ws,e3,r3⟩:=c.obj n a _ e2 e1;let⟨w,rfl,r4⟩:=rd.one;let⟨c5,s5⟩:=c.write e2 e1 (r3.app (.cons r4 .nil));exact ⟨a,ws,w,rfl,rfl,e3,by rw[r3.length];calc hz,q L _ _ s5 c5 (by erw[Rep];rfl)⟩
   .cases hk
  .cases hk
 .cases hk
def ZN (h:QE X a f) (hg:QA X [e] g) (hbase:attributeBase a "append" X.env (eval a X.env)=eval a X.env:=by rfl)
  (hfew:((backTo cpos (starEach [e] X.env)).all (λx=> !x.1)&&(backToKw cpos (keywordEach [] X.env)).all (λx=>x.1.isSome)&&decide ([e].length+([]:List Keyword).length+(if ([]:List Keyword).isEmpty then 0 else 1)<30))=true:=by rfl)
  (hline:(apos.endLine==cpos.line)=true:=by rfl) (hs:starEach [e] X.env=(false,eval e X.env)::starEach [] X.env:=by rfl) (hplain:(backTo cpos (starEach [] X.env)).any (·.1)=false:=by rfl) :
  QE X (.Call (.Attribute a "append" apos) [e] [] cpos) (fM C0 f g) :=
 .mk <| PE.imp (Pc PySem.F.plainAttrs_list PySem.F.slot_list_append PySem.F.type_list_append RG h.un hg.un hbase hfew hline hs hplain) λ_ _ _ z=>Lf SG z
def Ed:KM:=λx ds M=>match x,ds with
 |.dat (.ref n),[.int i]=>match M[n]? with
  |some (.lst xs)=>match ixN xs.length i with
   |some k=>match xs[k]? with
    |some d=>if -(2 ^ 63)<=i/\i<2 ^ 63 then some (d,M.set n (.lst (xs.eraseIdx k))) else none
    |none=>none
   |none=>none
  |_=>none
 |_,_=>none
def X3 {K:Yb}:LJ K NY Ed:=by
 intro L M M' H H0 x ds d v vs Q c rx rd hk q;erw[Ed]at hk;cbv at hk
 .rename_i n i;cbv at hk
  .rename_i xs e1;cbv at hk
   .rename_i k e2;cbv at hk
    .rename_i d' e3;cbv at hk
     .rename_i hb;ext hk;erw[zR,Rep]at rx;let⟨a,rfl,e4⟩:=rx;let⟨ws,e5,r5⟩:=c.obj n a _ e4 e1;let⟨u,e6,r6⟩:=r5.get e3;let⟨c5,s5⟩:=c.write e4 e1 (r5.eraseIdx k);exact ⟨a,ws,i,k,u,rfl,Kc rd,e5,hb.1,hb.2,by rw[r5.length];calc (Jm e2).1,e6,q L _ _ s5 c5 (r6.stp s5)⟩
     .cases hk
    .cases hk
   .cases hk
  .cases hk
 .cases hk
def VW (h:QE X a f) (hg:QA X [e] g) (hbase:attributeBase a "pop" X.env (eval a X.env)=eval a X.env:=by rfl)
  (hfew:((backTo cpos (starEach [e] X.env)).all (λx=> !x.1)&&(backToKw cpos (keywordEach [] X.env)).all (λx=>x.1.isSome)&&decide ([e].length+([]:List Keyword).length+(if ([]:List Keyword).isEmpty then 0 else 1)<30))=true:=by rfl)
  (hline:(apos.endLine==cpos.line)=true:=by rfl) (hs:starEach [e] X.env=(false,eval e X.env)::starEach [] X.env:=by rfl) (hplain:(backTo cpos (starEach [] X.env)).any (·.1)=false:=by rfl) :
  QE X (.Call (.Attribute a "pop" apos) [e] [] cpos) (fM Ed f g) :=
 .mk <| PE.imp (Pc PySem.F.plainAttrs_list PySem.F.slot_list_pop PySem.F.type_list_pop R4 h.un hg.un hbase hfew hline hs hplain) λ_ _ _ z=>Lf X3 z
def Fg (x:EV) (i:D) (d:D) (M:Mem):Option Mem:=match x,i with
 |.dat (.ref n),.int i=>match M[n]? with
  |some (.lst xs)=>match ixN xs.length i with
   |some j=>some (M.set n (.lst (xs.set j d)))
   |none=>none
  |_=>none
 |_,_=>none
def ET (fv fo fi:FE):FS:=λY M=>match toD fv Y M with
 |some (d,M1)=>match fo Y M1 with
  |some (x,M2)=>match toD fi Y M2 with
   |some (i,M3)=>match Fg x i d M3 with
    |some M4=>some (.nx,Y,M4)
    |none=>none
   |none=>none
  |none=>none
 |none=>none
def Tj (hv:QE X v fv) (ho:QE X o fo) (hi:QE X i fi)
  (ha:∀ v,assign (.Subscript o i p) X.env v=(do
   let ov <- holding [v] (eval o X.env);let iv <- holding [v,ov] (eval i X.env);standAt p;holding [v,ov,iv] (setItem ov iv v);release [v,ov,iv] []):=by intro _;rfl)
  (hs:swapsWithSole [.Subscript o i p] v pos.line X.env=pure false:=by rfl) (hw:swappedStores [.Subscript o i p] v X.env=pure none:=by rfl) (h1:(assignEach [.Subscript o i p] X.env).map (·.2)=[assign (.Subscript o i p) X.env]:=by rfl) :
  QS X (.Assign [.Subscript o i p] v pos) (ET fv fo fi):=.mk <| PS.imp (Ws (CP hv).un (Y5 ho.un (CP hi).un W9 ha) hs hw h1) λE τ H zz=>by
 let⟨L,Y,M,out,Y',M',c,rs,hf,q⟩:=zz;erw[ET]at hf;cbv at hf
 .rename_i d M1 e1;cbv at hf
  .rename_i x M2 e2;cbv at hf
   .rename_i j M3 e3;cbv at hf
    .rename_i M4 e4;ext hf;refine ⟨L,Y,M,_,_,c,rs,e1,λL1 H1 u s1 c1 r1=>⟨L1,Y,M1,_,_,c1,rs.stp s1,e2,λL2 H2 w s2 c2 r2=>⟨L2,Y,M2,_,_,c2,rs.stp (s1.trans s2),e3,λL3 H3 z s3 c3 r3=>?_⟩⟩⟩;let st:=(s1.trans s2).trans s3;erw[Fg]at e4;cbv at e4
     .rename_i n k;cbv at e4
      .rename_i xs e5;cbv at e4
       .rename_i m e6;ext e4;let r2':=r2.stp s3;erw[zR,Rep]at r2';let⟨a,rfl,e7⟩:=r2';let⟨ws,e8,r8⟩:=c3.obj n a _ e7 e5;let⟨c9,s9⟩:=c3.write e7 e5 (zG.set ((r1.stp s2).stp s3) m r8);exact ⟨a,ws,k,m,rfl,by erw[Rep]at r3;calc r3,e8,by rw[r8.length];calc e6,q L3 _ (st.trans s9) c9 τ ((rs.stp st).stp s9)⟩
       .cases e4
      .cases e4
     .cases e4
    .cases hf
   .cases hf
  .cases hf
 .cases hf
def Dj:D->Option V
 |.non=>some .non
 |.bl k=>some (.bl k)
 |.int i=>some (.int i)
 |.str x=>some (.str x)
 |_=>none
def Hd (h:Rep L H d v) (e:Dj d=some u):v=u:=by
 cases d with
 |non=>ext e;erw[Rep]at h;calc h
 |bl _=>ext e;erw[Rep]at h;calc h
 |int _=>ext e;erw[Rep]at h;calc h
 |str _=>ext e;erw[Rep]at h;calc h
 |tup _=>ext e
 |ref _=>ext e
 |fn _ _=>ext e
def Fd (neg:Bool):K2:=λx y M=>match x,y with
 |.dat d,.dat d'=>match Dj d,Dj d' with
  |some u,some w=>if Hr u w then some (.dat (.bl (if neg then !decide (u=w) else decide (u=w))),M) else none
  |_,_=>none
 |_,_=>none
def Lo (h:Fd neg x y M=some (r,M')):∃ d d' u w,x=.dat d/\y=.dat d'/\Dj d=some u/\Dj d'=some w/\Hr u w=true/\r=.dat (.bl (if neg then !decide (u=w) else decide (u=w)))/\M'=M:=by
 erw[Fd]at h;cbv at h
 .rename_i d d';cbv at h
  .rename_i u w e1 e2;cbv at h
   .rename_i hs;ext h;exact ⟨d,d',u,w,rfl,rfl,e1,e2,hs,rfl,rfl⟩
   .cases h
  .cases h
 .cases h
def Pn {K:Yb}:BP K rEq (Fd false):=by
 intro L M M' H H0 x y d v w Q c rx ry hk q;let⟨d1,d2,u,z,rfl,rfl,e1,e2,hs,rfl,rfl⟩:=Lo hk;let a1:=Hd rx e1;let a2:=Hd ry e2;subst a1 a2;calc ⟨hs,q L H _ (.refl L H) c (Cb (L:=L) (H:=H))⟩
def Vc {K:Yb}:BP K rNe (Fd true):=by
 intro L M M' H H0 x y d v w Q c rx ry hk q;let⟨d1,d2,u,z,rfl,rfl,e1,e2,hs,rfl,rfl⟩:=Lo hk;let a1:=Hd rx e1;let a2:=Hd ry e2;subst a1 a2;calc ⟨hs,q L H _ (.refl L H) c (Cb (L:=L) (H:=H))⟩
def LG (neg:Bool) (K:Yb):R2:=λx y H Q=>∃ p q xs,x=.ref p/\y=.ref q/\SqL K H p xs/\SqL K H q []/\Q (.bl (if neg then !xs.isEmpty else xs.isEmpty)) H
def Kq (r:zU [] its):its=[]:=by ext r;rfl
def O7 (hu:X.A.units<cLine):OpR X (compareOp .Eq) (LG false X.K):=by
 intro zB s Y H x y v u Q I rx ry h;let⟨p,q,xs,rfl,rfl,h1,h2,hq⟩:=h;ext rx;ext ry;let⟨its,rv,pl,_⟩:=I.list h1;let⟨its2,rv2,pl2,_⟩:=I.list h2;cases Kq rv2;cases rv with
 |nil=>exact SeqAt.eq_listAt (e:=λ_=>true) pl.isList pl2.isList rfl hu (λj h1=>by simp at h1) ⟨.bl true,H,I,rfl,hq⟩
 |cons _ _=>calc SeqAt.eq_list_lengthsAt pl.isList pl2.isList (by simp) hu ⟨.bl false,H,I,rfl,hq⟩
def R9 (hu:X.A.units<cLine):OpR X (compareOp .NotEq) (LG true X.K):=by
 intro zB s Y H x y v u Q I rx ry h;let⟨p,q,xs,rfl,rfl,h1,h2,hq⟩:=h;ext rx;ext ry;let⟨its,rv,pl,_⟩:=I.list h1;let⟨its2,rv2,pl2,_⟩:=I.list h2;cases Kq rv2;cases rv with
 |nil=>exact SeqAt.RcNeAt.lists (e:=λ_=>true) pl.isList pl2.isList rfl hu (λj h1=>by simp at h1) _ _ _ _ ⟨.bl false,H,I,rfl,hq⟩
 |cons _ _=>calc SeqAt.RcNeAt.lists_lengths pl.isList pl2.isList (by simp) hu _ _ _ _ ⟨.bl true,H,I,rfl,hq⟩
def G1 (neg:Bool):K2:=λx y M=>match Ba M x,Ba M y with
 |some xs,some []=>some (.dat (.bl (if neg then !xs.isEmpty else xs.isEmpty)),M)
 |_,_=>none
def Jc {K:Yb} {neg:Bool}:BP K (LG neg K) (G1 neg):=by
 intro L M M' H H0 x y d v w Q c rx ry hk q;erw[G1]at hk;cbv at hk
 .rename_i xs e1 e2;ext hk;let⟨p1,vs,rfl,h1,r1⟩:=DN c rx e1;let⟨p2,ws,rfl,h2,r2⟩:=DN c ry e2;erw[zG]at r2;subst r2;refine ⟨p1,p2,vs,rfl,rfl,.inl h1,.inl h2,q L H _ (.refl L H) c ?_⟩;have:vs.isEmpty=xs.isEmpty:=by
   have:=r1.length;cases vs <;> cases xs <;> simp_all
  rw[this];exact (Cb (L:=L) (H:=H))
 .cases hk
def kOr (k1 k2:K2):K2:=λx y M=>match k1 x y M with
 |some r=>some r
 |none=>k2 x y M
def Hl {K:Yb} {r1 r2:R2} {k1 k2:K2} (h1:BP K r1 k1) (h2:BP K r2 k2):BP K (λx y H Q=>r1 x y H Q\/r2 x y H Q) (kOr k1 k2):=by
 intro L M M' H H0 x y d v w Q c rx ry hk q;erw[kOr]at hk;cbv at hk
 .rename_i r e1;ext hk;exact .inl (h1 c rx ry e1 q)
 .exact .inr (h2 c rx ry hk q)
abbrev kEq:K2:=kOr (Fd false) (G1 false)
abbrev kNe:K2:=kOr (Fd true) (G1 true)
variable {f g:FE}
def K7 (hu:X.A.units<cLine) (h1:QE X a f) (h2:QE X b g):QE X (.Compare a [.Eq] [b] pos) (fOp kEq f g):=IS (Hl Pn Jc) (Mn.or (O7 hu)) h1 h2 (D8 _)
def Tz (hu:X.A.units<cLine) (h1:QE X a f) (h2:QE X b g):QT X (.Compare a [.Eq] [b] pos) (tst (fOp kEq f g)):=Dz (Hl Pn Jc) (Mn.or (O7 hu)) h1 h2 (D8 _)
def Nr (hu:X.A.units<cLine) (h1:QE X a f) (h2:QE X b g):QT X (.Compare a [.NotEq] [b] pos) (tst (fOp kNe f g)):=Dz (Hl Vc Jc) (U8.or (R9 hu)) h1 h2 (D8 _)
def ER:KB:=λxs M=>match xs with
 |[.dat (.int i)]=>some (.dat (.int (if i<0 then -i else i)),M)
 |_=>none
def YN {K:Yb}:DL K (λxs H Q=>∃ i,xs=[.int i]/\Q (.int (if i<0 then -i else i)) H) ER:=by
 intro L M M' H H0 xs d vs Q c r hk q;erw[ER]at hk;cbv at hk
 .rename_i i;ext hk;let⟨v,rfl,r1⟩:=r.one;have:v=.int i:=by erw[zR,Rep]at r1;exact r1
  subst this;exact ⟨i,rfl,q L H _ (.refl L H) c (C7 (L:=L) (H:=H))⟩
 .cases hk
end
section
variable {X:Cx} {a b c e:Expr} {es rest:Yi} {pos p apos cpos:Pos}
def SU {prog:Ym} {w:Yo} {A:Yn} {E:Yc} {s:Yl} {t b:Yt} {ws:Yf} {Q:Yc} (ht:IsTup s.heap t #[]) (hb:IsTup s.heap b ws.toArray) (h1:Q (.ref b) s) :
  wpAny (model prog w) A (binaryOp .Add (.ref t) (.ref b)) Q E s:=by
 let⟨⟨cls,dd,data,sl⟩,ho,hc,n,hd⟩:=id ht;let⟨⟨cls2,dd2,data2,sl2⟩,ho2,hc2,n2,hd2⟩:=id hb;simp only at hc hd hc2 hd2;subst hc hd hc2 hd2
 exact concat_meets ⟨_,ho,rfl⟩ ⟨_,ho2,rfl⟩ noFill_tuple_add seq_tuple_add PySem.F.slot_tuple_add PySem.F.entry_tuple_add (PySem.F.args_tuple_add_2 _ _)
   (tuple_addW0 t b #[] ws.toArray n n2 dd dd2 sl sl2 (by simp)) ⟨ho,ho2,h1⟩
def NK (K:Yb):R2:=λx y H Q=>∃ a b ys,x=.ref a/\y=.ref b/\SqT K H a []/\SqT K H b ys/\Q (.ref b) H
def Xp:OpR X (binaryOp .Add) (NK X.K):=by
 intro zB s Y H x y v u Q I rx ry h;let⟨a,b,ys,rfl,rfl,ha,hb,q⟩:=h;ext rx;ext ry;let⟨its,r1,p1,_⟩:=I.tuple ha;let⟨its2,r2,p2,_⟩:=I.tuple hb;cases Kq r1;calc SU p1 p2 ⟨.ref b,H,I,rfl,q⟩
def KH:K2:=λx y M=>match Cs x,Cs y with
 |some xs,some ys=>if xs.length+ys.length<=sizeLine then some (.dat (.tup (xs++ys)),M) else none
 |_,_=>none
def To {K:Yb}:BP K (λx y H Q=>Pq K x y H Q\/NK K x y H Q) KH:=by
 intro L M M' H H0 x y d v w Q c rx ry hk q;erw[KH]at hk;cbv at hk
 .rename_i xs ys e1 e2;cbv at hk
  .rename_i hz;ext hk;let⟨p1,vs,rfl,h1,r1⟩:=Dt rx e1;let⟨p2,ws,rfl,h2,r2⟩:=Dt ry e2;cases xs with
   |nil=>
    calc .inr ⟨p1,p2,ws,rfl,rfl,.of (by erw[zG]at r1;subst r1;calc h1),.of h2,q L H _ (.refl L H) c ?_⟩;erw[zR,Rep];calc ⟨p2,ws,rfl,h2,r2⟩
   |cons x0 xr=>
    let hv:vs≠[]:=λz=>by have:=r1.length;rw[z]at this;simp at this
    refine .inl ⟨p1,p2,vs,ws,rfl,rfl,.of h1,.of h2,hv,by rw[r1.length,r2.length];exact hz,λz=>?_,λz pp hp=>?_⟩
    .have:ys=[]:=by
      have:=r2.length;rw[z]at this;cases ys with
      |nil=>rfl
      |cons _ _=>simp at this
     subst this;calc q L H _ (.refl L H) c ?_;erw[zR,Rep];rw[C1];exact ⟨p1,vs,rfl,h1,r1⟩
    .exact q L _ _ (.upd hp) (c.upd hp) (Rep.newTup hp (r1.app r2))
  .cases hk
 .cases hk
abbrev BE:K2:=kOr UZ KH
variable {f g:FE}
def QN (h1:QE X a f) (h2:QE X b g):QE X (.BinOp a .Add b pos) (fOp BE f g):=FN (Hl (G5 λ_ _ _ _=>C7) To) (VO.or (VZ.or Xp)) h1 h2
structure Kinds (K:Yb):Prop where
 k:∀ t T,t∈["NoneType", "bool", "int", "str", "list", "tuple", "dict"]->T∈["int", "bool", "str", "tuple"]->PySem.W.kitOne K (.type t) (.type T)=some (decide (t=T)||(decide (t = "bool")&&decide (T = "int")))
def FC (M:Mem):EV->Option String
 |.dat .non=>some "NoneType"
 |.dat (.bl _)=>some "bool"
 |.dat (.int _)=>some "int"
 |.dat (.str _)=>some "str"
 |.dat (.tup _)=>some "tuple"
 |.fl _=>some "list"
 |.dat (.ref n)=>match M[n]? with
  |some (.lst _)=>some "list"
  |some (.fro _)=>some "list"
  |some (.dict _)=>some "dict"
  |some (.dicT _)=>some "dict"
  |_=>none
 |.dat (.fn _ _)=>none
def RW {K:PySem.W.Frag} {L:List Addr} {M:Mem} {H H0:Hp} {x:EV} {v:V} {t:String} (c:Cor K L M H) (r:zR H0 L H x v) (h:FC M x=some t):TyOf K H v (.type t)/\t∈["NoneType", "bool", "int", "str", "list", "tuple", "dict"]:=by
 erw[FC]at h;cbv at h
 .cases h;erw[zR,Rep]at r;subst r;exact ⟨.non,by simp⟩
 .cases h;erw[zR,Rep]at r;subst r;exact ⟨.bl _,by simp⟩
 .cases h;erw[zR,Rep]at r;subst r;exact ⟨.int _,by simp⟩
 .cases h;erw[zR,Rep]at r;subst r;exact ⟨.str _,by simp⟩
 .cases h;erw[zR,Rep]at r;let⟨a,vs,rfl,e,_⟩:=r;exact ⟨.tup e,by simp⟩
 .cases h;let⟨p,vs,rfl,_,e,_⟩:=r;exact ⟨.lst e,by simp⟩
 .unfold zR Rep at r;let⟨a,rfl,e⟩:=r;cbv at h
  .rename_i e1;ext h;let⟨vs,q,_⟩:=c.obj _ a _ e e1;exact ⟨.lst q,by simp⟩
  .rename_i e1;ext h;let⟨o,vs,q,_⟩:=c.obj _ a _ e e1;exact ⟨.frz q,by simp⟩
  .rename_i e1;ext h;let⟨vs,q,_⟩:=c.obj _ a _ e e1;exact ⟨.dK q,by simp⟩
  .rename_i e1;ext h;let⟨vs,q,_⟩:=c.obj _ a _ e e1;exact ⟨.dT q,by simp⟩
  .cases h
 .cases h
def isT (t T:String):Bool:=decide (t=T)||(decide (t = "bool")&&decide (T = "int"))
def CF (T:String) (f:FE):FE:=λY M=>match f Y M with
 |some (x,M1)=>match FC M1 x with
  |some t=>some (.dat (.bl (isT t T)),M1)
  |none=>none
 |none=>none
def M9 (K:Yb) (T:String):List V->Hp->VK->Prop:=λxs H Q=>∃ x t b,xs=[x,.ty T]/\TyOf K H x t/\PySem.W.kitOne K t (.type T)=some b/\Q (.bl b) H
def Qp:Cp X (.builtin "isinstance") (M9 X.K T):=by
 intro zB s Y H xs us Q I r h;let⟨x,t,b,rfl,ty,e,q⟩:=h;cases r with
 |cons r1 r2=>
  cases r2 with
  |cons r3 r4=>
   ext r4;ext r3;calc Qa I r1 ty e λtk=>⟨.bl b,H,I.tok _,rfl,q⟩
def EJ (hK:Kinds X.K) (hT:T∈["int", "bool", "str", "tuple"]) (hg:Gl X "isinstance") (hm:X.mg "isinstance" = none) (hg2:Gl X y) (hm2:X.mg y=none) (hv2:bootBuiltins y=some (.type T)) (hn2:y ≠ "__name__") (hd2:(y==("__debug__" : Str))=false) (h:QE X e f)
  (he:starEach (e::[.Name y p2]) X.env=(false,eval e X.env)::starEach [.Name y p2] X.env:=by rfl) (he2:starEach [.Name y p2] X.env=(false,eval (.Name y p2) X.env)::starEach [] X.env:=by rfl) (hpl:(backTo pos (starEach [.Name y p2] X.env)).any (·.1)=false:=by rfl) :
  QE X (.Call (.Name "isinstance" p1) [e,.Name y p2] [] pos) (CF T f) :=
 .mk <| PE.imp (OB (r:=M9 X.K T) Qp hg hm (by rfl) (IT h.un (IT (Wy (v:=.ty T) hg2 hm2 hv2 rfl hn2 hd2) Jd he2) he) () () he hpl) λτ H Q zz=>by
  let⟨L,Y,M,d,M',c,rs,hf,q⟩:=zz;erw[CF]at hf;cbv at hf
  .rename_i x M1 e1;cbv at hf
   .rename_i t e2;ext hf;refine (mkE c rs e1 (λL1 H1 v s1 c1 r1=>?_));let⟨ty,ht⟩:=RW c1 r1 e2;exact ⟨v,_,_,rfl,ty,hK.k t T ht hT,q L1 H1 _ s1 c1 (Cb (L:=L1) (H:=H1))⟩
   .cases hf
  .cases hf
def Gu (i j:Nat) (fa:FA):FS:=λY M=>match fa Y M with
 |some ([d,d'],M1)=>some (.nx,(Y.set i (some d)).set j (some d'),M1)
 |_=>none
def zG.two (h:zG L H [d,d'] vs):∃ v v',vs=[v,v']/\Rep L H d v/\Rep L H d' v':=by
 erw[zG]at h;let⟨v,r,rfl,h1,h2⟩:=h;let⟨v',rfl,h3⟩:=h2.one;calc ⟨v,v',rfl,h1,h3⟩
def TM {kt k2 pt2} (hc:X.calm=true) (hN:X.N.Nodup) (hi:X.N[i]?=some x) (hj:X.N[j]?=some y) (hij:i≠j)
  (hx:X.env.scope.names.lookup x=some .local) (hy:X.env.scope.names.lookup y=some .local) (ha:QA X [a,b] fa)
  (hw:swappedStores [.Tuple [.Name x px,.Name y py] kt pt] (.Tuple [a,b] k2 pt2) X.env=pure (some [x,y]))
  (hs:swapsWithSole [.Tuple [.Name x px,.Name y py] kt pt] (.Tuple [a,b] k2 pt2) pos.line X.env=pure false:=by rfl) :
  QS X (.Assign [.Tuple [.Name x px,.Name y py] kt pt] (.Tuple [a,b] k2 pt2) pos) (Gu i j fa):=.mk <| PS.imp (Tn hc hN hi hj hij hx hy ha.un hw hs) λE τ H zz=>by
 let⟨L,Y,M,o,Y',M',c,rs,hf,q⟩:=zz;erw[Gu]at hf;cbv at hf
 .rename_i d d' M1 e1;ext hf;refine (mkA c rs e1 (λL1 H1 vs s1 c1 r1=>?_));let⟨v,v',rfl,r2,r3⟩:=r1.two;exact ⟨v,v',rfl,q L1 H1 s1 c1 _ (((rs.stp s1).set r2).set r3)⟩
 .cases hf
section
variable {fa:FAE}
def LA (hg:Gl X "len") (hm:X.mg "len" = none) (ha:QAE X [e] fa) (he:starEach [e] X.env=(false,eval e X.env)::starEach [] X.env:=by rfl) (hpl:(backTo pos (starEach [] X.env)).any (·.1)=false:=by rfl):QE X (.Call (.Name "len" p) [e] [] pos) (fB BU fa) :=
 Es U7 Ra PySem.boot_len hg hm ha () () he hpl
def Xy (hg:Gl X "tuple") (hm:X.mg "tuple" = none) (ha:QAE X [e] fa) (he:starEach [e] X.env=(false,eval e X.env)::starEach [] X.env:=by rfl) (hpl:(backTo pos (starEach [] X.env)).any (·.1)=false:=by rfl):QE X (.Call (.Name "tuple" p) [e] [] pos) (fB Bu fa) :=
 WE R7 Vq (by rfl) hg hm ha () () he hpl
def W7 (hg:Gl X "abs") (hm:X.mg "abs" = none) (ha:QAE X [e] fa) (he:starEach [e] X.env=(false,eval e X.env)::starEach [] X.env:=by rfl) (hpl:(backTo pos (starEach [] X.env)).any (·.1)=false:=by rfl):QE X (.Call (.Name "abs" p) [e] [] pos) (fB ER fa) :=
 Es YN Zs (by rfl) hg hm ha () () he hpl
end
end
def Ik (sc scope:Y0):Bool:=scope.names.all λy=>
 (y.2 != .local||scope.names.lookup y.1==some .local)&&(y.2 != .cell||scope.names.lookup y.1==some .cell)&&(y.2 != .free||(sc.names.lookup y.1==some .cell||sc.names.lookup y.1==some .free))
def IC (N:Yk) (scope:Y0) (own:Yj):Bool:=(List.range N.length).all λi=>match N[i]? with
 |some x=>decide (i∈own)||(scope.names.lookup x==none)||(scope.names.lookup x==some .free)
 |none=>true
def LD (hk:scope.kind=.function) (hs:X.env.scope=sc) (hN:X.N=N) (h1:Ik sc scope=true) (h2:IC N scope own=true):CompIn X scope own:=by
 erw[Ik]at h1;rw[Aj]at h1;refine ⟨⟨hk,λy hy e=>?_,λy hy e=>?_,λy hy e=>?_⟩,λi x e=>?_⟩
 .have:=h1 y hy;simp[e]at this;exact this
 .have:=h1 y hy;simp[e]at this;exact this
 .have:=h1 y hy;simp[e]at this;show X.env.scope.names.lookup y.1=_\/X.env.scope.names.lookup y.1=_;rw[hs];exact this
 .unfold IC at h2;rw[Aj]at h2;rw[hN]at e;let hi:i<N.length:=(AK.mp e).1;have:=h2 i (~~~hi);rw[e]at this;simp only[Bool.or_eq_true,CQ,beq_iff_eq,or_assoc]at this;calc this
def ID (K:Yb):Bool:=K.all λp=>match p.2.cls with
 |.type n=>n != "list"
 |_=>true
theorem Pe:∀ {K:Yb},K.lookup a=some o->(a,o)∈K
 |[],h=>by ext h
 | (b,u)::r,h=>by
  let h':List.lookup a ((b,u)::r)=some o:=h;rw[EK]at h';cases q:a==b with
  |true=>rw[q]at h';ext h';rw[beq_iff_eq.mp q];calc Az
  |false=>rw[q]at h';calc Ay _ (Pe h')
def UA {K:PySem.W.Frag} (h:ID K=true) {o:Obj} (e:K.lookup a=some o) (hc:o.cls=.type "list"):False:=by
 erw[ID]at h;rw[Aj]at h;have:=h (a,o) (Pe e);simp[hc]at this
theorem Pd:∀ (ns:Ye),zG L H (ns.map D.int) (ns.map V.int)
 |[]=> .nil
 |n::r=> .cons (by erw[Rep];rfl) (Pd r)
def K1 (K:Yb):Bool:=Lp.all λx=>(PySem.W.tabIn K x).isNone
def QJ {K:Yb} {H:Hp} (h:K1 K=true):Fv K H:=λx hx c P e=>by
 erw[K1]at h;have:=Aj.mp h x hx;rw[e]at this;ext this
def Zj (hO:Ib H):∀ b xs,H b≠some (.lst xs):=λb xs h1=>by
 rcases hO b with z|⟨o,xs,z⟩
 .rw[h1]at z;ext z
 .rw[h1]at z;ext z
def XR {K:Yb} {m:FF} {H:Hp} {a:Yt} {ns:Ye} {E:XK} (hL:ID K=true) (hT:Fv K H) (hO:∀ b xs,H b≠some (.lst xs)) (hS:SqL K H a (ns.map V.int)) (h:∃ M',m [.ref 0] [.fro (ns.map D.int)]=some (.bl true,M')) :
  spF K 1 m [.ref a] H (λv _=>v=.bl true) E:=by
 let⟨M',e⟩:=h;let hf:∃ o,H a=some (.frz o (.lst (ns.map V.int))):=by
  rcases hS with (h1|h1)|⟨o,its,n,h1,h2,_⟩
  .exact (hO _ _ h1).elim
  .exact h1
  .exact (UA hL h1 h2).elim
 let⟨o,hf⟩:=hf;refine ⟨[a],[.ref 0],[.fro (ns.map D.int)],_,_,⟨rfl,by simp,λn b m e1 e2=>?_,hT⟩,.cons ?_ .nil,rfl,e,λL' H' v s c r=>?_⟩
 .cases n with
  |zero=>simp at e1 e2;subst e1;subst e2;calc ⟨o,_,hf,Pd ns⟩
  |succ n=>simp at e1
 .unfold Rep;exact ⟨a,rfl,rfl⟩
 .unfold Rep at r;calc r
def Ok {α:Type} (x:Option (α × Mem)) (P:α->Mem->Prop):Prop:=∃ a M,x=some (a,M)/\P a M
def OkS (x:Option (Out × Sd × Mem)) (P:Out->Sd->Mem->Prop):Prop:=∃ o Y M,x=some (o,Y,M)/\P o Y M
def Ok.mono {α:Type} {x:Option (α × Mem)} {P Q:α->Mem->Prop} (h:Ok x P) (hq:∀ a M,P a M->Q a M):Ok x Q:=let ⟨a,M,e,p⟩:=h;⟨a,M,e,hq a M p⟩
def OkS.mono {x:Option (Out × Sd × Mem)} {P Q:Out->Sd->Mem->Prop} (h:OkS x P) (hq:∀ o Y M,P o Y M->Q o Y M):OkS x Q:=let ⟨a,Y,M,e,p⟩:=h;⟨a,Y,M,e,hq a Y M p⟩
def zh {α:Type} {a:α} {M:Mem} {P:α->Mem->Prop}:Ok (some (a,M)) P ↔ P a M:=⟨λ⟨_,_,e,p⟩=>by ext e;exact p,λp=>⟨a,M,rfl,p⟩⟩
def IW {α:Type} {P:α->Mem->Prop}:Ok (none:Option (α × Mem)) P ↔ False:=⟨(λ⟨_,_,e,_⟩=>(nomatch e)),λh=>h.elim⟩
def Ub {o:Out} {Y:Sd} {M:Mem} {P:Out->Sd->Mem->Prop}:OkS (some (o,Y,M)) P ↔ P o Y M:=⟨λ⟨_,_,_,e,p⟩=>by ext e;exact p,λp=>⟨o,Y,M,rfl,p⟩⟩
def zq {i:Nat}:Ok (zC i Y M) P ↔ ∃ d,Y[i]?=some (some d)/\P (.dat d) M:=by
 erw[zC];constructor
 .rintro ⟨a,M1,e,p⟩;cbv at e
  .rename_i d e1;ext e;exact ⟨d,e1,p⟩
  .cases e
 .rintro ⟨d,e1,p⟩;rw[e1];calc ⟨_,_,rfl,p⟩
def Ar {d:D}:Ok (fC d Y M) P ↔ P (.dat d) M:=zh
def Al {k:K2}:Ok (fOp k f g Y M) P ↔ Ok (f Y M) λx M1=>Ok (g Y M1) λy M2=>Ok (k x y M2) P:=by
 erw[fOp];constructor
 .rintro ⟨a,M1,e,p⟩;cbv at e
  .rename_i x M2 e1;cbv at e
   .rename_i y M3 e2;exact ⟨x,M2,e1,y,M3,e2,a,M1,e,p⟩
   .cases e
  .cases e
 .rintro ⟨x,M2,e1,y,M3,e2,a,M1,e,p⟩;rw[e1];dsimp only;rw[e2];calc ⟨a,M1,e,p⟩
def Dh (P:D->Mem->Prop):EV->Mem->Prop
 |.dat d,M=>P d M
 |.fl xs,M=>P (.ref M.length) (M++[.lst xs])
def CN {P:D->Mem->Prop}:Ok (toD f Y M) P ↔ Ok (f Y M) (Dh P):=by
 erw[toD];constructor
 .rintro ⟨a,M1,e,p⟩;cbv at e
  .rename_i d M2 e1;ext e;exact ⟨_,_,e1,p⟩
  .rename_i xs M2 e1;ext e;exact ⟨_,_,e1,p⟩
  .cases e
 .rintro ⟨x,M2,e1,p⟩;rw[e1];cases x with
  |dat d=>calc ⟨d,M2,rfl,p⟩
  |fl xs=>calc ⟨_,_,rfl,p⟩
def zJ {P:D->Mem->Prop} {d:D} {M:Mem}:Dh P (.dat d) M ↔ P d M:=Iff.rfl
def O6 {P:D->Mem->Prop} {xs:List D} {M:Mem}:Dh P (.fl xs) M ↔ P (.ref M.length) (M++[.lst xs]):=Iff.rfl
def D4:Ok (zS Y M) P ↔ P [] M:=zh
def D2 {f:FD} {g:FA}:Ok (zD f g Y M) P ↔ Ok (f Y M) λd M1=>Ok (g Y M1) λds M2=>P (d::ds) M2:=by
 erw[zD];constructor
 .rintro ⟨a,M1,e,p⟩;cbv at e
  .rename_i x M2 e1;cbv at e
   .rename_i y M3 e2;ext e;exact ⟨x,M2,e1,y,_,e2,p⟩
   .cases e
  .cases e
 .rintro ⟨x,M2,e1,y,M3,e2,p⟩;rw[e1];dsimp only;rw[e2];calc ⟨_,_,rfl,p⟩
def Ep:Ok (zn Y M) P ↔ P [] M:=zh
def E2 {f:FE} {g:FAE}:Ok (zQ f g Y M) P ↔ Ok (f Y M) λd M1=>Ok (g Y M1) λds M2=>P (d::ds) M2:=by
 erw[zQ];constructor
 .rintro ⟨a,M1,e,p⟩;cbv at e
  .rename_i x M2 e1;cbv at e
   .rename_i y M3 e2;ext e;exact ⟨x,M2,e1,y,_,e2,p⟩
   .cases e
  .cases e
 .rintro ⟨x,M2,e1,y,M3,e2,p⟩;rw[e1];dsimp only;rw[e2];calc ⟨_,_,rfl,p⟩
def En {a:FA}:Ok (Bg a Y M) P ↔ Ok (a Y M) λds M1=>ds.length<=sizeLine/\P (.fl ds) M1:=by
 erw[Bg];constructor
 .rintro ⟨x,M1,e,p⟩;cbv at e
  .rename_i ds M2 e1;cbv at e
   .rename_i hz;ext e;exact ⟨ds,_,e1,hz,p⟩
   .cases e
  .cases e
 .rintro ⟨ds,M1,e1,hz,p⟩;rw[e1];dsimp only;rw[AD hz];calc ⟨_,_,rfl,p⟩
def Ew {k:KB} {a:FAE}:Ok (fB k a Y M) P ↔ Ok (a Y M) λxs M1=>Ok (k xs M1) P:=by
 erw[fB];constructor
 .rintro ⟨x,M1,e,p⟩;cbv at e
  .rename_i ds M2 e1;exact ⟨ds,_,e1,x,M1,e,p⟩
  .cases e
 .rintro ⟨ds,M1,e1,p⟩;rw[e1];calc p
def Fn {m:FF} {a:FA}:Ok (zm m a Y M) P ↔ Ok (a Y M) λds M1=>Ok (m ds M1) λd M2=>P (.dat d) M2:=by
 erw[zm];constructor
 .rintro ⟨x,M1,e,p⟩;cbv at e
  .rename_i ds M2 e1;cbv at e
   .rename_i d M3 e2;ext e;exact ⟨ds,_,e1,d,_,e2,p⟩
   .cases e
  .cases e
 .rintro ⟨ds,M1,e1,d,M2,e2,p⟩;rw[e1];dsimp only;rw[e2];calc ⟨_,_,rfl,p⟩
def GF {k:KM} {a:FA}:Ok (fM k f a Y M) P ↔ Ok (f Y M) λx M1=>(∃ xs,Ba M1 x=some xs)/\Ok (a Y M1) λds M2=>Ok (k x ds M2) λd M3=>P (.dat d) M3:=by
 erw[fM];constructor
 .rintro ⟨x,M1,e,p⟩;cbv at e
  .rename_i y M2 e1;cbv at e
   .rename_i xs e2;cbv at e
    .rename_i ds M3 e3;cbv at e
     .rename_i d M4 e4;ext e;exact ⟨y,_,e1,⟨xs,e2⟩,ds,_,e3,d,_,e4,p⟩
     .cases e
    .cases e
   .cases e
  .cases e
 .rintro ⟨y,M1,e1,⟨xs,e2⟩,ds,M2,e3,d,M3,e4,p⟩;rw[e1];dsimp only;rw[e2];dsimp only;rw[e3];dsimp only;rw[e4];calc ⟨_,_,rfl,p⟩
def OW:Ok (EM Y M) P ↔ P none M:=zh
def N3 (P:Option Int->Mem->Prop):EV->Mem->Prop
 |.dat (.int i),M=>P (some i) M
 |_,_=>False
def Mz {i:Int} {M:Mem}:N3 P (.dat (.int i)) M ↔ P (some i) M:=Iff.rfl
def Nd:Ok (Dy f Y M) P ↔ Ok (f Y M) (N3 P):=by
 erw[Dy];constructor
 .rintro ⟨x,M1,e,p⟩;cbv at e
  .rename_i i M2 e1;ext e;exact ⟨_,_,e1,p⟩
  .cases e
 .rintro ⟨x,M1,e1,p⟩;rw[e1];cases x with
  |fl xs=>calc p.elim
  |dat d=>
   cases d with
   |int i=>calc ⟨_,_,rfl,p⟩
   |_=>calc p.elim
def Lk {l h:FO}:Ok (fSl f l h Y M) P ↔ Ok (f Y M) λx M1=>Ok (l Y M1) λlo M2=>Ok (h Y M2) λhi M3=>Ok (kSl x lo hi M3) P:=by
 erw[fSl];constructor
 .rintro ⟨x,M1,e,p⟩;cbv at e
  .rename_i y M2 e1;cbv at e
   .rename_i lo M3 e2;cbv at e
    .rename_i hi M4 e3;exact ⟨y,_,e1,lo,_,e2,hi,_,e3,x,M1,e,p⟩
    .cases e
   .cases e
  .cases e
 .rintro ⟨y,M1,e1,lo,M2,e2,hi,M3,e3,p⟩;rw[e1];dsimp only;rw[e2];dsimp only;rw[e3];calc p
def blP (P:Bool->Mem->Prop):EV->Mem->Prop
 |.dat (.bl k),M=>P k M
 |_,_=>False
def IH {P:Bool->Mem->Prop} {k:Bool} {M:Mem}:blP P (.dat (.bl k)) M ↔ P k M:=Iff.rfl
def Hh {P:Bool->Mem->Prop}:Ok (tst f Y M) P ↔ Ok (f Y M) (blP P):=by
 erw[tst];constructor
 .rintro ⟨x,M1,e,p⟩;cbv at e
  .rename_i i M2 e1;ext e;exact ⟨_,_,e1,p⟩
  .cases e
 .rintro ⟨x,M1,e1,p⟩;rw[e1];cases x with
  |fl xs=>calc p.elim
  |dat d=>
   cases d with
   |bl i=>calc ⟨_,_,rfl,p⟩
   |_=>calc p.elim
def KP:Ok (B2 Y M) P ↔ P true M:=zh
def Vi:Ok (Dd s t Y M) P ↔ Ok (s Y M) λk M1=>if k then Ok (t Y M1) P else P false M1:=by
 erw[Dd];constructor
 .rintro ⟨x,M1,e,p⟩;cbv at e
  .rename_i M2 e1;exact ⟨true,M2,e1,by dsimp only;rw[AD rfl];calc ⟨x,M1,e,p⟩⟩
  .rename_i hn;cases x with
   |true=>calc absurd e (hn M1)
   |false=>exact ⟨false,M1,e,by simpa using p⟩
 .rintro ⟨x,M1,e1,p⟩;rw[e1];cases x with
  |true=>simpa using p
  |false=>calc ⟨false,M1,rfl,by simpa using p⟩
def Qy:Ok (Gv s t Y M) P ↔ Ok (s Y M) λk M1=>if k then P true M1 else Ok (t Y M1) P:=by
 erw[Gv];constructor
 .rintro ⟨x,M1,e,p⟩;cbv at e
  .rename_i M2 e1;exact ⟨false,M2,e1,by simpa using ⟨x,M1,e,p⟩⟩
  .rename_i hn;cases x with
   |false=>calc absurd e (hn M1)
   |true=>exact ⟨true,M1,e,by simpa using p⟩
 .rintro ⟨x,M1,e1,p⟩;rw[e1];cases x with
  |false=>simpa using p
  |true=>calc ⟨true,M1,rfl,by simpa using p⟩
def Ql:Ok (EG s Y M) P ↔ Ok (s Y M) λk M1=>P (!k) M1:=by
 erw[EG];constructor
 .rintro ⟨x,M1,e,p⟩;cbv at e
  .rename_i k M2 e1;ext e;exact ⟨k,_,e1,p⟩
  .cases e
 .rintro ⟨k,M1,e1,p⟩;rw[e1];calc ⟨_,_,rfl,p⟩
def nxP (k:Sd->Mem->Prop) (P:Out->Sd->Mem->Prop):Out->Sd->Mem->Prop
 |.nx,Y,M=>k Y M
 |o,Y,M=>P o Y M
def zN {k:Sd->Mem->Prop}:nxP k P .nx Y M ↔ k Y M:=Iff.rfl
def Vb {k:Sd->Mem->Prop} {d:D}:nxP k P (.ret d) Y M ↔ P (.ret d) Y M:=Iff.rfl
def Dp:OkS (Bw Y M) P ↔ P .nx Y M:=Ub
def zI:OkS (zM f g Y M) P ↔ OkS (f Y M) (nxP (λσ1 M1=>OkS (g σ1 M1) P) P):=by
 erw[zM];constructor
 .rintro ⟨o,σ1,M1,e,p⟩;cbv at e
  .rename_i σ2 M2 e1;exact ⟨_,_,_,e1,o,σ1,M1,e,p⟩
  .rename_i hn;calc ⟨o,σ1,M1,e,?_⟩;cases o with
   |nx=>calc absurd e (hn σ1 M1)
   |_=>exact p
 .rintro ⟨o,σ1,M1,e1,p⟩;rw[e1];cases o with
  |nx=>calc p
  |_=>calc ⟨_,_,_,rfl,p⟩
def De {c:FT}:OkS (sIf c f g Y M) P ↔ Ok (c Y M) λk M1=>if k then OkS (f Y M1) P else OkS (g Y M1) P:=by
 erw[sIf];constructor
 .rintro ⟨o,σ1,M1,e,p⟩;cbv at e
  .rename_i M2 e1;exact ⟨_,_,e1,by dsimp only;rw[AD rfl];calc ⟨o,σ1,M1,e,p⟩⟩
  .rename_i M2 e1;exact ⟨_,_,e1,by simpa using ⟨o,σ1,M1,e,p⟩⟩
  .cases e
 .rintro ⟨x,M1,e1,p⟩;rw[e1];cases x with
  |true=>simpa using p
  |false=>simpa using p
def E9 {h:FE}:OkS (Ae h Y M) P ↔ Ok (h Y M) (Dh λd M1=>P (.ret d) Y M1):=by
 rw[<-CN];erw[Ae];constructor
 .rintro ⟨o,σ1,M1,e,p⟩;cbv at e
  .rename_i d M2 e1;ext e;exact ⟨_,_,e1,p⟩
  .cases e
 .rintro ⟨x,M1,e1,p⟩;rw[e1];calc ⟨_,_,_,rfl,p⟩
def zY {i:Nat} {h:FE}:OkS (AO i h Y M) P ↔ Ok (h Y M) (Dh λd M1=>P .nx (Y.set i (some d)) M1):=by
 rw[<-CN];erw[AO];constructor
 .rintro ⟨o,σ1,M1,e,p⟩;cbv at e
  .rename_i d M2 e1;ext e;exact ⟨_,_,e1,p⟩
  .cases e
 .rintro ⟨x,M1,e1,p⟩;rw[e1];calc ⟨_,_,_,rfl,p⟩
def GA {h:FE}:OkS (C8 h Y M) P ↔ Ok (h Y M) λ_ M1=>P .nx Y M1:=by
 erw[C8];constructor
 .rintro ⟨o,σ1,M1,e,p⟩;cbv at e
  .rename_i d M2 e1;ext e;exact ⟨_,_,e1,p⟩
  .cases e
 .rintro ⟨x,M1,e1,p⟩;rw[e1];calc ⟨_,_,_,rfl,p⟩
def Qq {i j:Nat} {a:FA}:OkS (Gu i j a Y M) P ↔ Ok (a Y M) λds M1=>∃ d d',ds=[d,d']/\P .nx ((Y.set i (some d)).set j (some d')) M1:=by
 erw[Gu];constructor
 .rintro ⟨o,σ1,M1,e,p⟩;cbv at e
  .rename_i d d' M2 e1;ext e;exact ⟨_,_,e1,d,d',rfl,p⟩
  .cases e
 .rintro ⟨x,M1,e1,d,d',rfl,p⟩;rw[e1];calc ⟨_,_,_,rfl,p⟩
def Kg {v o i:FE}:OkS (ET v o i Y M) P ↔ Ok (v Y M) (Dh λd M1=>Ok (o Y M1) λx M2=>Ok (i Y M2) (Dh λj M3=>∃ M4,Fg x j d M3=some M4/\P .nx Y M4)):=by
 rw[<-CN];erw[ET];constructor
 .rintro ⟨o,σ1,M1,e,p⟩;cbv at e
  .rename_i d M2 e1;cbv at e
   .rename_i x M3 e2;cbv at e
    .rename_i j M4 e3;cbv at e
     .rename_i M5 e4;ext e;calc ⟨_,_,e1,_,_,e2,?_⟩;dsimp only;rw[<-CN];exact ⟨_,_,e3,_,e4,p⟩
     .cases e
    .cases e
   .cases e
  .cases e
 .rintro ⟨d,M1,e1,x,M2,e2,p⟩;rw[<-CN]at p;let⟨j,M3,e3,M4,e4,p⟩:=p;rw[e1];dsimp only;rw[e2];dsimp only;rw[e3];dsimp only;rw[e4];calc ⟨_,_,_,rfl,p⟩
def B3 {n:Nat} {ds:List D} {Q:D->Mem->Prop}:Ok (BA n f ds M) Q ↔ OkS (f (ds.map some++List.replicate (n-ds.length) none) M) λo _ M1=>match o with|.ret d=>Q d M1|.nx=>Q .non M1|_=>False:=by
 erw[BA];constructor
 .rintro ⟨o,M1,e,p⟩;cbv at e
  .rename_i d σ1 M2 e1;ext e;exact ⟨_,_,_,e1,p⟩
  .rename_i σ1 M2 e1;ext e;exact ⟨_,_,_,e1,p⟩
  .cases e
 .rintro ⟨o,σ1,M1,e1,p⟩;rw[e1];cases o with
  |ret d=>calc ⟨_,_,rfl,p⟩
  |nx=>calc ⟨_,_,rfl,p⟩
  |brk=>calc p.elim
  |cnt=>calc p.elim
theorem FU {c:FT} {b:FS} (I:Nat->Sd->Mem->Prop) (hs:∀ m Y M,I m Y M->Ok (c Y M) λk M1=>if k then OkS (b Y M1) λo σ2 M2=>match o with|.nx=>∃ m',m'<m/\I m' σ2 M2|.cnt=>∃ m',m'<m/\I m' σ2 M2|.brk=>P .nx σ2 M2|.ret d=>P (.ret d) σ2 M2 else P .nx Y M1) :
  ∀ (n m:Nat) (Y:Sd) (M:Mem),m<n->I m Y M->OkS (Bz c b n Y M) P
 |0,m,Y,M,h,_=>absurd h (Nat.not_lt_zero _)
 |n+1,m,Y,M,h,hi=>by
  let⟨k,M1,e,q⟩:=hs m Y M hi;erw[Bz];rw[e];cases k with
  |false=>calc ⟨_,_,_,rfl,by simpa using q⟩
  |true=>
   rw[AD rfl]at q;let⟨o,σ2,M2,e2,q⟩:=q;dsimp only;rw[e2];cases o with
   |nx=>let⟨m',hm,q⟩:=q;calc FU I hs n m' σ2 M2 () q
   |cnt=>let⟨m',hm,q⟩:=q;calc FU I hs n m' σ2 M2 () q
   |brk=>calc ⟨_,_,_,rfl,q⟩
   |ret d=>calc ⟨_,_,_,rfl,q⟩
theorem Gm {g:FG} {b:FS} {all:List D} {gd:Option (Mem->Prop)} (I:List D->Sd->Mem->Prop)
  (hs:∀ x r Y M,I (x::r) Y M->CO gd all M /\ ∃ σ1,g x Y=some σ1/\OkS (b σ1 M) λo σ2 M2=>match o with|.nx=>I r σ2 M2|.cnt=>I r σ2 M2|.brk=>P .nx σ2 M2|.ret d=>P (.ret d) σ2 M2)
  (he:∀ Y M,I [] Y M->CO gd all M/\P .nx Y M):∀ (xs:List D) (Y:Sd) (M:Mem),I xs Y M->OkS (Cy g b all gd xs Y M) P
 |[],Y,M,hi=>by
  erw[Cy];let⟨h1,h2⟩:=he Y M hi;rw[AD h1];calc ⟨_,_,_,rfl,h2⟩
 |x::r,Y,M,hi=>by
  erw[Cy];let⟨h1,σ1,e1,o,σ2,M2,e2,q⟩:=hs x r Y M hi;rw[AD h1,e1];dsimp only;rw[e2];cases o with
  |nx=>calc Gm I hs he r σ2 M2 q
  |cnt=>calc Gm I hs he r σ2 M2 q
  |brk=>calc ⟨_,_,_,rfl,q⟩
  |ret d=>calc ⟨_,_,_,rfl,q⟩
def Co {i:FI} {g:FG} {b:FS}:OkS (BO i g b Y M) P ↔ ∃ xs gd M1,i Y M=some (xs,gd,M1)/\OkS (Cy g b xs gd xs Y M1) P:=by
 erw[BO];constructor
 .rintro ⟨o,σ1,M1,e,p⟩;cbv at e
  .rename_i xs gd M2 e1;exact ⟨_,_,_,e1,_,_,_,e,p⟩
  .cases e
 .rintro ⟨xs,gd,M1,e1,p⟩;rw[e1];calc p
theorem GU {g:FG} {tc:FT} {te:FE} {all:List D} {gd:Option (Mem->Prop)} (I:List D->List D->Mem->Prop)
  (hs:∀ x r acc M,I (x::r) acc M->CO gd all M /\ ∃ σ1,g x Y=some σ1/\Ok (tc σ1 M) λk M1=>if k then Ok (te σ1 M1) (Dh λd M2=>I r (acc++[d]) M2) else I r acc M1)
  {Q:List D->Mem->Prop} (he:∀ acc M,I [] acc M->CO gd all M/\Q acc M):∀ (xs acc:List D) (M:Mem),I xs acc M->Ok (Bn g tc te Y all gd xs M) λys M1=>Q (acc++ys) M1
 |[],acc,M,hi=>by
  erw[Bn];let⟨h1,h2⟩:=he acc M hi;rw[AD h1];calc ⟨_,_,rfl,by simpa using h2⟩
 |x::r,acc,M,hi=>by
  erw[Bn];let⟨h1,σ1,e1,k,M1,e2,q⟩:=hs x r acc M hi;rw[AD h1,e1];dsimp only;rw[e2];cases k with
  |false=>calc GU I hs he r acc M1 (~~~q)
  |true=>
   rw[AD rfl,<-CN]at q;let⟨d,M2,e3,q⟩:=q;dsimp only;rw[e3];let⟨ys,M3,e4,p⟩:=GU I hs he r (acc++[d]) M2 q;dsimp only;rw[e4];calc ⟨_,_,rfl,by simpa using p⟩
def EU {own:Yj} {i:FI} {g:FG} {tc:FT} {te:FE} {Q:EV->Mem->Prop}:Ok (Ap own i g tc te Y M) Q ↔ ∃ xs gd M1,i Y M=some (xs,gd,M1)/\xs.length<=sizeLine/\Ok (Bn g tc te (EO own Y) xs gd xs M1) λys M2=>Q (.fl ys) M2:=by
 erw[Ap];constructor
 .rintro ⟨o,M1,e,p⟩;cbv at e
  .rename_i xs gd M2 e1;cbv at e
   .rename_i hz;cbv at e
    .rename_i ys M3 e2;ext e;exact ⟨_,_,_,e1,hz,_,_,e2,p⟩
    .cases e
   .cases e
  .cases e
 .rintro ⟨xs,gd,M1,e1,hz,ys,M2,e2,p⟩;rw[e1];dsimp only;rw[AD hz,e2];calc ⟨_,_,rfl,p⟩
def FJ {h:FE} {x:EV} {M1:Mem} {xs:List D} (e:h Y M=some (x,M1)) (e2:zu M1 x=some xs):Ai h Y M=some (xs,Jw x xs,M1):=by
 erw[Ai];rw[e];dsimp only;rw[e2]
def Tr {a:FA} {M1:Mem} {j:Int} (e:a Y M=some ([.int j],M1)) (h1:0<=j) (h2:j<2 ^ 62):Bd a Y M=some ((List.range j.toNat).map λ(k:Nat)=>D.int k,none,M1):=by
 erw[Bd];rw[e];dsimp only;rw[AD ⟨(),h2⟩]
def D7:Ok (BE (.dat (.int i)) (.dat (.int j)) M) P ↔ P (.dat (.int (i+j))) M:=zh
def Ir:Ok (Ff (.dat (.int i)) (.dat (.int j)) M) P ↔ Fb i j=true/\P (.dat (.int (i*j))) M:=by
 erw[Ff,kI];dsimp only;split
 .rename_i h;rw[zh];simp[h]
 .rename_i h;rw[IW];simp[h]
def Em:Ok (CV (.dat (.int i)) (.dat (.int j)) M) P ↔ 0<j/\P (.dat (.int (i % j))) M:=by
 erw[CV,kI];dsimp only;split
 .rename_i h;rw[zh];simp at h;simp[h]
 .rename_i h;rw[IW];simp at h;simp;intro h';omega
def KO:Ok (E3 (.dat (.int i)) (.dat (.int j)) M) P ↔ (0<j/\j<1073741824)/\P (.dat (.int (i / j))) M:=by
 erw[E3,kI];dsimp only;split
 .rename_i h;rw[zh];simp at h;simp[h]
 .rename_i h;rw[IW];simp at h;simp;intro h' h2;have:=h h';omega
def Nl:Ok (Ge (.dat (.int i)) (.dat (.int j)) M) P ↔ (0<=j/\j<=1000000/\i.natAbs<2 ^ 64)/\P (.dat (.int (i ^ j.toNat))) M:=by
 erw[Ge,kI];dsimp only;split
 .rename_i h;rw[zh];simp only[A8,CQ]at h;simp[h]
 .rename_i h;rw[IW];simp only[A8,CQ,not_and]at h;simp only[false_iff,not_and];intro ⟨a,b,c⟩;calc absurd c (h ⟨a,b⟩)
def SJ:Ok (kLt (.dat (.int i)) (.dat (.int j)) M) P ↔ P (.dat (.bl (decide (i<j)))) M:=zh
def WY:Ok (kGt (.dat (.int i)) (.dat (.int j)) M) P ↔ P (.dat (.bl (decide (j<i)))) M:=zh
def Sq:Ok (kGe (.dat (.int i)) (.dat (.int j)) M) P ↔ P (.dat (.bl (decide (j<=i)))) M:=zh
def O9:Ok (kEq (.dat (.int i)) (.dat (.int j)) M) P ↔ P (.dat (.bl (decide (i=j)))) M:=by
 have:kEq (.dat (.int i)) (.dat (.int j)) M=some (.dat (.bl (decide (V.int i=V.int j))),M):=rfl;rw[this,zh];simp
def Hf:Ok (kNe (.dat (.int i)) (.dat (.int j)) M) P ↔ P (.dat (.bl (decide (i≠j)))) M:=by
 have:kNe (.dat (.int i)) (.dat (.int j)) M=some (.dat (.bl (!decide (V.int i=V.int j))),M):=rfl;rw[this,zh];simp
def RQ {x:EV} {xs:List D} (h:Ba M x=some xs) (hx:∀ d,x=.dat d->Dj d=none):Ok (kNe x (.fl []) M) P ↔ P (.dat (.bl (!xs.isEmpty))) M:=by
 let e1:Fd true x (.fl []) M=none:=by cases x <;> rfl
 let e2:kNe x (.fl []) M=some (.dat (.bl (!xs.isEmpty)),M):=by
  erw[kNe,kOr];rw[e1];erw[G1];rw[h];rfl
 rw[e2,zh]
def IE {x:EV} {xs:List D} {d:D} (h:zu M x=some xs) (hd:atI xs i=some d) (p:P (.dat d) M):Ok (kIx x (.dat (.int i)) M) P:=by
 have:kIx x (.dat (.int i)) M=some (.dat d,M):=by erw[kIx];dsimp only;rw[h];dsimp only;rw[hd]
 rw[this,zh];calc p
def NI {xs:List D} {k:Nat} {d:D} (h:xs[k]?=some d):atI xs (k:Int)=some d:=GN h
def NF {xs:List D} {i:Int} {d:D} (h0:0<=i) (h:xs[i.toNat]?=some d):atI xs i=some d:=by
 have:i=((i.toNat:Nat):Int):=()
 rw[this];calc GN h
def Ng {x:EV} {xs:List D} (h:zu M x=some xs):Ok (BU [x] M) P ↔ P (.dat (.int xs.length)) M:=by
 have:BU [x] M=some (.dat (.int xs.length),M):=by erw[BU];dsimp only;rw[h]
 rw[this,zh]
def Rn {x:EV} {xs:List D} (h:zu M x=some xs):Ok (Bu [x] M) P ↔ P (.dat (.tup xs)) M:=by
 have:Bu [x] M=some (.dat (.tup xs),M):=by erw[Bu];dsimp only;rw[h]
 rw[this,zh]
def ME:Ok (ER [.dat (.int i)] M) P ↔ P (.dat (.int (if i<0 then -i else i))) M:=zh
def OT {x:EV} {xs:List D} {lo hi:Ys} (h:Ba M x=some xs) (ht:Cs x=none):Ok (kSl x lo hi M) P ↔ P (.fl (Dc xs lo hi)) M:=by
 have:kSl x lo hi M=some (.fl (Dc xs lo hi),M):=by erw[kSl];rw[ht];dsimp only;rw[h]
 rw[this,zh]
def Dq {xs:List D}:zu M (.dat (.tup xs))=some xs:=rfl
def DV {xs:List D}:zu M (.fl xs)=some xs:=rfl
def NC {xs:List D}:Ba M (.fl xs)=some xs:=rfl
def Eg {n:Nat} {xs:List D} (h:M[n]?=some (.lst xs)):Ba M (.dat (.ref n))=some xs:=by erw[Ba];dsimp only;rw[h]
def Jx {n:Nat} {xs:List D} (h:M[n]?=some (.fro xs)):Ba M (.dat (.ref n))=some xs:=by erw[Ba];dsimp only;rw[h]
def zf {n:Nat} {xs:List D} (h:M[n]?=some (.lst xs)):zu M (.dat (.ref n))=some xs:=Eg h
def Ur {n:Nat} {xs:List D} (h:M[n]?=some (.fro xs)):zu M (.dat (.ref n))=some xs:=Jx h
def HA {n:Nat} {xs:List D} {d:D} {Q:D->Mem->Prop} (h:M[n]?=some (.lst xs)) (hz:xs.length<sizeLine):Ok (C0 (.dat (.ref n)) [d] M) Q ↔ Q .non (M.set n (.lst (xs++[d]))):=by
 have:C0 (.dat (.ref n)) [d] M=some (.non,M.set n (.lst (xs++[d]))):=by erw[C0];dsimp only;rw[h];dsimp only;rw[AD hz]
 rw[this,zh]
def Rf {n:Nat} {x:D} {xs:List D} {Q:D->Mem->Prop} (h:M[n]?=some (.lst (x::xs))):Ok (Ed (.dat (.ref n)) [.int 0] M) Q ↔ Q x (M.set n (.lst xs)):=by
 have:Ed (.dat (.ref n)) [.int 0] M=some (x,M.set n (.lst xs)):=by
  erw[Ed];dsimp only;rw[h];dsimp only;let e:ixN (x::xs).length 0=some 0:=by erw[ixN];rw[AD (),AD (by simp)];rfl
  rw[e];dsimp only[List.getElem?_cons_zero];rw[AD ()];rfl
 rw[this,zh]
def MR {n k:Nat} {xs:List D} {d:D} (h:M[n]?=some (.lst xs)) (hk:k<xs.length):Fg (.dat (.ref n)) (.int k) d M=some (M.set n (.lst (xs.set k d))):=by
 erw[Fg];dsimp only;rw[h];dsimp only;let e:ixN xs.length (k:Int)=some k:=by erw[ixN];rw[AD (),AD ()];simp
 rw[e]
def Zw {m:FF} {ds:List D} {M:Mem} {Q:D->Mem->Prop} (h:Ok (m ds M) λd M1=>(D.und M.length d=true/\M.length<=M1.length /\ ∀ (j:Nat) u,j<M.length->M1[j]?=some u->MO.und M.length u=true)/\Q d (M1.take M.length)):Ok (HF m ds M) Q:=by
 let⟨d,M1,e,⟨h1,h2,h3⟩,q⟩:=h;erw[HF];rw[e];dsimp only;rw[AD]
 .exact ⟨_,_,rfl,q⟩
 .simp only[A8,CQ,Aj];refine ⟨⟨h1,λu hu=>?_⟩,h2⟩;let⟨j,hj⟩:=List.getElem?_of_mem hu;let hlt:j<M.length:=by
   have:=(AK.mp hj).1;rw[BY]at this;omega
  rw[List.getElem?_take_of_lt hlt]at hj;calc h3 j u hlt hj
def GG {m:FF} {ds:List D} {M:Mem} {Q:D->Mem->Prop} (h0:D.unds 0 ds=true) (h:Ok (m ds []) λd _=>D.und 0 d=true/\Q d M):Ok (DR m ds M) Q:=by
 let⟨d,M1,e,h1,q⟩:=h;erw[DR];rw[AD h0,e];dsimp only;rw[AD h1];calc ⟨_,_,rfl,q⟩
def TIt.but (x:h.IsTupleIter a t i) (hs:Heap.ExtBut b h h') (n:a≠b):h'.IsTupleIter a t i:=x.extBut hs n
def Tup.but (x:h.IsTuple a its) (hs:Heap.ExtBut b h h') (n:a≠b):h'.IsTuple a its:=x.extBut hs n
def KG (I:s.heap.IsTupleIter it t i) (T:s.heap.IsTuple t its) (hx:its[i]?=some x)
  (q:∀ h',h'.IsTupleIter it t (i+1)->Heap.SameBut it s.heap h'->Q x { s with heap:=h' }):wpAny (model prog w) A (Builtin.SmallTypes.nextOf (.ref it)) Q E s:=by
 let⟨o,O,C,FD⟩:=id I;let⟨u,U,_,m,G⟩:=T;erw[Builtin.SmallTypes.nextOf];calc AA (B6 I.typeIs PySem.F.slot_tuple_iterator_next (A9 PySem.F.slot_tuple_iterator_next I.typeIs PySem.F.entry_tuple_iterator_next ?_ (PySem.F.args_tuple_iterator_next_1 _)));calc AA (m:=field (.ref it) 0) (CI O FD (x:=.ref t) rfl ?_);rw[AE (show ¬ ((Value.ref t==Value.none)=true) by calc Av)];calc AA (CI O FD rfl ?_);calc AA (Cg U G ?_);simp only[hx,Bj];calc AA (B1 O FD (by simp) (AB ⟨x,rfl,AB (q _ ⟨_,B8 _ O (DO (Bi FD _)),(Obj.cls_mapFields ..).trans C,?_⟩ (BS ..))⟩));rw[Bi FD];simp[rawInt]
def MJ (hh:A.handled=none) (I:s.heap.IsTupleIter it t i) (T:s.heap.IsTuple t its) (hx:its[i]?=none)
  (q:∀ h' e,Heap.ExtBut it s.heap h'->(∃ o,h'.get? e=some o/\o.cls=.type "StopIteration")->E (.ref e) { s with heap:=h' }):wpAny (model prog w) A (Builtin.SmallTypes.nextOf (.ref it)) Q E s:=by
 let⟨o,O,C,FD⟩:=id I;let⟨u,U,_,m,G⟩:=T;erw[Builtin.SmallTypes.nextOf];calc AA (B6 I.typeIs PySem.F.slot_tuple_iterator_next (A9 PySem.F.slot_tuple_iterator_next I.typeIs PySem.F.entry_tuple_iterator_next ?_ (PySem.F.args_tuple_iterator_next_1 _)));calc AA (m:=field (.ref it) 0) (CI O FD (x:=.ref t) rfl ?_);rw[AE (show ¬ ((Value.ref t==Value.none)=true) by calc Av)];calc AA (CI O FD rfl ?_);calc AA (Cg U G ?_);simp only[hx,Bj];calc AA (Bc (AA (B1 O FD (by simp) ?_)));calc AA ?_;simp only[newTuple,newExc];calc AA (Aw (AA (wpAny_of_eq (by first|rfl|(simp only[firstArgMember];rfl)) (Aw ?_ (by size_fits)))) (by size_fits));simp only[raiseNew];calc AA (wpAny_handled ?_);first|rw[hh]|rw[show A.in1.handled=none from hh]
 calc AA (AB (wpAny_throw (q _ _ (((BS ..).extBut.push _).push _) ⟨_,AN _ rfl,rfl⟩)))
structure ZipT (h:Heap) (z TI TO i1 i2 t1 t2:Yt) (f:Yu) (k1 k2:Nat):Prop where
 z:IsZip h z TI TO f
 ti:IsPair h TI (.ref i1) (.ref i2)
 to:∃ a b,IsPair h TO a b
 a:h.IsTupleIter i1 t1 k1
 b:h.IsTupleIter i2 t2 k2
def Zx {z TI TO i1 i2 t1 t2:Yt} {k:Nat} {xs ys:Yp} {x y:Yu} {Q:Option Value->Shared->Prop} (D:ZipApart z TI TO i1 i2 t1 t2) (Z:ZipT s.heap z TI TO i1 i2 t1 t2 .none k k)
  (T1:s.heap.IsTuple t1 xs) (T2:s.heap.IsTuple t2 ys) (hx:xs[k]?=some x) (hy:ys[k]?=some y)
  (q:∀ h',ZipT h' z TI TO i1 i2 t1 t2 (rawInt ⇑s) (k+1) (k+1)->IsPair h' ⇑s x y ->
   (∀ c o,c∉[z,TO,i1,i2]->s.heap.get? c=some o->h'.get? c=some o)->Q (some (.ref ⇑s)) { s with heap:=h' }):wpAny (model prog w) A (pyNext (.ref z)) Q E s:=by
 let⟨Z0,P0,⟨a,b,O0⟩,I1,I2⟩:=Z;let ty:s.TypeIs (.ref z) "zip" := ⟨_,Z0,rfl⟩;erw[pyNext];calc AA (Cm (B6 ty PySem.F.slot_zip_next (A9 PySem.F.slot_zip_next ty PySem.F.entry_zip_next ?_ (PySem.F.args_zip_next_1 _))));calc AA (m:=field (.ref z) 2) (CI Z0 rfl rfl ?_);calc AA (CI Z0 rfl rfl ?_);calc AA (Cg P0 rfl ?_);calc AA ?_;erw[Builtin.SmallTypes.ownedTupleIsFree];calc AA (CI Z0 rfl rfl (AB ?_));simp only[A4];refine AA (Bc (AA (CI Z0 rfl rfl (AA (wpAny_setField_rec Z0 (by simp) λh1 Z1 e1=>?_)))));replace Z1:IsZip h1 z TI TO .ellipsis:=Z1;calc AA ?_;simp only[List.forIn_cons,List.forIn_nil,List.zipIdx_cons,List.zipIdx_nil];refine AA (AA (wpAny_onRaise (AA (KG (TIt.but I1 e1.extBut D.i1z) (Tup.but T1 e1.extBut D.l1z) hx λh2 J1 e2=>AB ?_))));let O2:IsPair h2 TO a b:=e2.extBut _ _ D.TOi1 (e1.extBut _ _ D.TOz O0);refine AA (Cg O2 rfl (AA (wpAny_updateSeq_pair O2 λh3 O3 e3=>AA (wpAny_letGo (AB ?_)))));replace O3:IsPair h3 TO x b:=O3
 refine AA (AA (wpAny_onRaise (AA (KG (TIt.but (TIt.but (TIt.but I2 e1.extBut D.i2z) e2.extBut D.i12.symm) e3.extBut D.TOi2.symm)
  (Tup.but (Tup.but (Tup.but T2 e1.extBut D.l2z) e2.extBut D.l2i1) e3.extBut D.l2TO) hy λh4 J2 e4=>AB ?_))))
 let O4:IsPair h4 TO x b:=e4.extBut _ _ D.TOi2 O3;refine AA (Cg O4 rfl (AA (wpAny_updateSeq_pair O4 λh5 O5 e5=>AA (wpAny_letGo (AB (AB ?_))))));replace O5:IsPair h5 TO x y:=O5;calc AA (Cg O5 rfl (AA (wpAny_newTuple ?_)));let sz:h5.objs.size=⇑s:=by rw[e5.1,e4.1,e3.1,e2.1,e1.1]
 let Z5:IsZip h5 z TI TO .ellipsis:=e5.extBut _ _ D.TOz.symm (e4.extBut _ _ D.i2z.symm (e3.extBut _ _ D.TOz.symm (e2.extBut _ _ D.i1z.symm Z1)));let kp:∀ c o,c∉[z,TO,i1,i2]->s.heap.get? c=some o->h5.get? c=some o:=λc o n e=>by
  simp only[AL,Cj,or_false,not_or]at n;let⟨n1,n2,n3,n4⟩:=n;exact e5.extBut _ _ n2 (e4.extBut _ _ n4 (e3.extBut _ _ n2 (e2.extBut _ _ n3 (e1.extBut _ _ n1 e))))
 let A5:h5.IsTupleIter i1 t1 (k+1):=TIt.but (TIt.but (TIt.but J1 e3.extBut D.TOi1.symm) e4.extBut D.i12) e5.extBut D.TOi1.symm;let B5:h5.IsTupleIter i2 t2 (k+1):=TIt.but J2 e5.extBut D.TOi2.symm;let zl:z<h5.objs.size:=AG Z5;calc AA ?_;erw[Builtin.SmallTypes.ownedTupleHandOut];let Z6:IsZip (h5.push { cls:=.type "tuple", data:=.seq #[x,y] }) z TI TO .ellipsis:=AH _ Z5;refine AA (wpAny_setField_rec Z6 (by simp) λh7 Z7 e7=>?_);replace Z7:IsZip h7 z TI TO (rawInt h5.objs.size):=Z7;refine wpAny_setField_rec Z7 (by simp) λh8 Z8 e8=>?_;replace Z8:IsZip h8 z TI TO (rawInt h5.objs.size):=Z8;let up:∀ c o,c≠z->h5.get? c=some o->h8.get? c=some o:=λc o n e=>e8.extBut _ _ n (e7.extBut _ _ n (AH _ e));let N8:IsPair h8 h5.objs.size x y:=e8.extBut _ _ (DM zl) (e7.extBut _ _ (DM zl) (AN _ rfl));rw[sz]at Z8 N8;calc AB ⟨_,rfl,?_⟩;rw[sz];refine AB (q h8 ⟨Z8,up _ _ D.TIz (kp _ _ (by simp[D.TIz,D.TITO,D.TIi1,D.TIi2]) P0),⟨_,_,up _ _ D.TOz O5⟩,?_,?_⟩ N8 λc o n e=>up c o (λm=>n (by simp[m])) (kp c o n e))
 .obtain ⟨o,e,r⟩:=A5;exact ⟨o,up _ _ D.i1z e,r⟩
 .obtain ⟨o,e,r⟩:=B5;calc ⟨o,up _ _ D.i2z e,r⟩
def YQ {z TI TO i1 i2 t1 t2:Yt} {k:Nat} {xs ys:Yp} {Q:Option Value->Shared->Prop} (hh:A.handled=none) (D:ZipApart z TI TO i1 i2 t1 t2) (Z:ZipT s.heap z TI TO i1 i2 t1 t2 .none k k)
  (T1:s.heap.IsTuple t1 xs) (T2:s.heap.IsTuple t2 ys) (he:xs[k]?=none\/ys[k]?=none)
  (q:∀ h',(∀ c o,c∉[z,TO,i1,i2]->s.heap.get? c=some o->h'.get? c=some o)->Q none { s with heap:=h' }):wpAny (model prog w) A (pyNext (.ref z)) Q E s:=by
 let⟨Z0,P0,⟨a,b,O0⟩,I1,I2⟩:=Z;let ty:s.TypeIs (.ref z) "zip" := ⟨_,Z0,rfl⟩
 let stop:∀ (e:Addr) (h':Heap),(∀ c o,c∉[z,TO,i1,i2]->s.heap.get? c=some o->h'.get? c=some o)->(∃ o,h'.get? e=some o/\o.cls=.type "StopIteration") ->
   wpAny (model prog w) A (do if (<- isInstance (.ref e) (.type "StopIteration")) then pure none else throw (.ref e):Sem (Option Value)) Q E { s with heap:=h' }:=λe h' k1 ⟨o,e1,e2⟩=>
  AA (wpAny_isInstance ⟨o,e1,e2⟩ isSubtype_stop (AB (q h' k1)))
 erw[pyNext];calc AA (Cm (B6 ty PySem.F.slot_zip_next (A9 PySem.F.slot_zip_next ty PySem.F.entry_zip_next ?_ (PySem.F.args_zip_next_1 _))));calc AA (m:=field (.ref z) 2) (CI Z0 rfl rfl ?_);calc AA (CI Z0 rfl rfl ?_);calc AA (Cg P0 rfl ?_);calc AA ?_;erw[Builtin.SmallTypes.ownedTupleIsFree];calc AA (CI Z0 rfl rfl (AB ?_));simp only[A4];refine AA (Bc (AA (CI Z0 rfl rfl (AA (wpAny_setField_rec Z0 (by simp) λh1 Z1 e1=>?_)))));replace Z1:IsZip h1 z TI TO .ellipsis:=Z1;calc AA ?_;simp only[List.forIn_cons,List.forIn_nil,List.zipIdx_cons,List.zipIdx_nil];cases hx:xs[k]? with
 |none=>
  refine AA (AA (wpAny_onRaise (AA (MJ hh (TIt.but I1 e1.extBut D.i1z) (Tup.but T1 e1.extBut D.l1z) hx λh2 e e2 he=>?_))));let⟨oe,o1,o2⟩:=he;let Z2:IsZip h2 z TI TO .ellipsis:=e2 _ _ D.i1z.symm Z1;let ne:e≠z:=λm=>by subst m;rw[Z2]at o1;ext o1;simp at o2
  refine wpAny_setField_rec Z2 (by simp) λh3 _ e3=>stop e h3 (λc o n x=>?_) ⟨oe,e3.extBut _ _ ne o1,o2⟩;simp only[AL,Cj,or_false,not_or]at n;calc e3.extBut _ _ n.1 (e2 _ _ n.2.2.1 (e1.extBut _ _ n.1 x))
 |some x=>
  let hy:ys[k]?=none:=by
   rcases he with m|m
   .rw[hx]at m;ext m
   .exact m
  refine AA (AA (wpAny_onRaise (AA (KG (TIt.but I1 e1.extBut D.i1z) (Tup.but T1 e1.extBut D.l1z) hx λh2 J1 e2=>AB ?_))));let O2:IsPair h2 TO a b:=e2.extBut _ _ D.TOi1 (e1.extBut _ _ D.TOz O0);refine AA (Cg O2 rfl (AA (wpAny_updateSeq_pair O2 λh3 O3 e3=>AA (wpAny_letGo (AB ?_)))))
  refine AA (AA (wpAny_onRaise (AA (MJ hh (TIt.but (TIt.but (TIt.but I2 e1.extBut D.i2z) e2.extBut D.i12.symm) e3.extBut D.TOi2.symm)
   (Tup.but (Tup.but (Tup.but T2 e1.extBut D.l2z) e2.extBut D.l2i1) e3.extBut D.l2TO) hy λh4 e e4 he=>?_))))
  let⟨oe,o1,o2⟩:=he;let Z4:IsZip h4 z TI TO .ellipsis:=e4 _ _ D.i2z.symm (e3.extBut _ _ D.TOz.symm (e2.extBut _ _ D.i1z.symm Z1));let ne:e≠z:=λm=>by subst m;rw[Z4]at o1;ext o1;simp at o2
  refine wpAny_setField_rec Z4 (by simp) λh5 _ e5=>stop e h5 (λc o n x=>?_) ⟨oe,e5.extBut _ _ ne o1,o2⟩;simp only[AL,Cj,or_false,not_or]at n;calc e5.extBut _ _ n.1 (e4 _ _ n.2.2.2 (e3.extBut _ _ n.2.1 (e2.extBut _ _ n.2.2.1 (e1.extBut _ _ n.1 x))))
abbrev HB (h:Heap) (a:Addr):Heap:=h.push { cls:=.type "tuple_iterator", data:=.fields #[.ref a,.int 0 0] }
abbrev IB (h:Heap) (a b:Yt):Heap:=HB (HB h a) b
abbrev Iu (h:Heap) (a b:Addr):Heap:=(IB h a b).push { cls:=.type "tuple", data:=.seq #[.ref h.objs.size,.ref (HB h a).objs.size] }
abbrev Ii (h:Heap) (a b:Addr):Heap:=(Iu h a b).push { cls:=.type "tuple", data:=.seq #[.none,.none] }
abbrev Fs (h:Heap) (a b:Addr):Heap:=(Ii h a b).push { cls:=.type "zip", data:=.fields #[.none,.bool false,.bool false,.ref (IB h a b).objs.size,.ref (Iu h a b).objs.size] }
def XT (a b:Addr) (xs ys:Array Value):Meets (Builtin.«zip.__new__» ⟨[.type "zip", .ref a,.ref b],[]⟩) (λ_ R s=>s.heap.IsTuple a xs/\s.heap.IsTuple b ys/\R (.ok (.ret (.ref (Ii s.heap a b).objs.size))) { s with heap:=Fs s.heap a b }) :=
 .of_wp λprog w A R s h=>by
  let⟨hp,g,d,tk,os⟩:=s;let⟨Ta,Tb,h⟩:=h;let sz:=sub_zip;let U1:Heap.IsTuple (Shared.heap ⟨hp,g,d,tk,os⟩) a xs:=Ta;let U2:Heap.IsTuple (Shared.heap ⟨hp.push { cls:=.type "tuple_iterator", data:=.fields #[.ref a,.int 0 0] },g,d,tk,os⟩) b ys:=Heap.IsTuple.push Tb _;wp_walk using wpAny_pyIter_tuple U1,wpAny_pyIter_tuple U2;calc ⟨_,rfl,h⟩
def VB (Ta:s.heap.IsTuple a xs) (Tb:s.heap.IsTuple b ys)
  (h:∀ h',ZipT h' (⇑s+4) (⇑s+2) (⇑s+3) ⇑s (⇑s+1) a b .none 0 0->(∀ c o,s.heap.get? c=some o->h'.get? c=some o)->Q (.ref (⇑s+4)) { s with heap:=h' }) :
  wpAny (model prog w) A (call (.type "zip") [.ref a,.ref b]) Q E s:=by
 refine callType_new PySem.F.called_zip () (PySem.F.typeCall_zip_2 _ _) (PySem.F.newCall_zip_2 _ _) (λobj=>PySem.F.args_object_init_3 obj _ _) PySem.F.entry_zip_new (XT a b xs ys) ⟨Ta,Tb,?_⟩;let q1:(HB s.heap a).objs.size=⇑s+1:=BR ..;let q2:(IB s.heap a b).objs.size=⇑s+2:=by rw[BR,q1]
 let q3:(Iu s.heap a b).objs.size=⇑s+3:=by rw[BR,q2]
 let q4:(Ii s.heap a b).objs.size=⇑s+4:=by rw[BR,q3]
 let u:∀ {h:Heap} {c:Yt} {o p:Obj},h.get? c=some o->(h.push p).get? c=some o:=λe=>AH _ e;let p5:(Fs s.heap a b).get? (Ii s.heap a b).objs.size=some _:=AN _ rfl;let p4:(Fs s.heap a b).get? (Iu s.heap a b).objs.size=some _:=u (AN _ rfl);let p3:(Fs s.heap a b).get? (IB s.heap a b).objs.size=some _:=u (u (AN _ rfl));let p2:(Fs s.heap a b).get? (HB s.heap a).objs.size=some _:=u (u (u (AN _ rfl)));let p1:(Fs s.heap a b).get? ⇑s=some _:=u (u (u (u (AN _ rfl))));rw[q2,q3,q4]at p5;rw[q1,q2]at p3;rw[q3]at p4;rw[q1]at p2;rw[q4];calc ⟨⟨_,p5,rfl⟩,h _ ⟨p5,p3,⟨_,_,p4⟩,⟨_,p1,rfl,rfl⟩,⟨_,p2,rfl,rfl⟩⟩ λc o x=>u (u (u (u (u x))))⟩
def Ri {X:Cx} {zB:Yd} {Y:L2.St} {H:Hp} {s:Yl} {h':Heap} {t':Nat} {ch:Yg} {T:Yt} {o:HO} (I:Inv X zB Y H s) (hf:∀ b∈ch,Br X zB H b)
  (k:∀ b u,b∉ch->s.heap.get? b=some u->h'.get? b=some u) (hT:⇑s<=T) (new:Ag X.prog X.w (upd H T o) h' T o):Inv X zB Y (upd H T o) { s with heap:=h',toks:=t' }:=by
 let hn:H T=none:=I.hok.fresh hT;let nch:∀ b u,H b=some u->b∉ch:=λb u e z=>by rw[(hf b z).1]at e;ext e
 let un:∀ b u,H b=some u->upd H T o b=some u:=λb u e=>by rw[zT (DG e hn)];exact e
 refine I.step (λb hb=>⟨(hf b hb).2.2.2.1,(hf b hb).2.1,(hf b hb).2.2.2.2.1,(hf b hb).2.2.2.2.2⟩) (λb u _ _ hc e _=>k b u hc e) (λb u _ _ hc e _=>⟨u.slots,k b u hc e⟩)
  (λb u _ e n=>by rw[zT (λz=>by rw[z]at e;calc absurd (AG e) (Nat.not_lt.mpr hT))];calc n) (λb u hc e=>⟨u,k b u hc e⟩) (λb xs e=>un b _ e) (λb p u e=>un b _ e) (λb ps e=>⟨#[],by rw[un b _ e];simp⟩) (λm hm=>?_) (λb u e=>?_) I.bare
 .obtain ⟨p,es,ep,ho,r⟩:=hm;exact ⟨p,es,ep,k _ p (λz=>(hf _ z).2.1 rfl) ho,r⟩
 .by_cases hb:b=T
  .subst hb;rw[DI]at e;ext e;exact new
  .rw[zT hb]at e;refine (I.hok b u e).stay (λc v hc q=>k c v ?_ q) (λc q=>un c _ q) λc xs q=>un c _ q;rcases hc with z|z
   .rw[z];exact nch b u e
   .exact nch c _ z
def Xk {X:Cx} {zB:Yd} {Y:L2.St} {H:Hp} {s:Yl} {h':Heap} {t':Nat} {ch:Yg} (I:Inv X zB Y H s) (hf:∀ b∈ch,Br X zB H b)
  (k:∀ b u,b∉ch->s.heap.get? b=some u->h'.get? b=some u):Inv X zB Y H { s with heap:=h',toks:=t' }:=by
 let nch:∀ b u,H b=some u->b∉ch:=λb u e z=>by rw[(hf b z).1]at e;ext e
 refine I.step (λb hb=>⟨(hf b hb).2.2.2.1,(hf b hb).2.1,(hf b hb).2.2.2.2.1,(hf b hb).2.2.2.2.2⟩) (λb u _ _ hc e _=>k b u hc e) (λb u _ _ hc e _=>⟨u.slots,k b u hc e⟩)
  (λb u _ e n=>n) (λb u hc e=>⟨u,k b u hc e⟩) (λb xs e=>e) (λb p u e=>e) (λb ps e=>⟨#[],by rw[e];simp⟩) (λm hm=>?_) (λb u e=>?_) I.bare
 .obtain ⟨p,es,ep,ho,r⟩:=hm;exact ⟨p,es,ep,k _ p (λz=>(hf _ z).2.1 rfl) ho,r⟩
 .refine (I.hok b u e).stay (λc v hc q=>k c v ?_ q) (λc q=>q) λc xs q=>q;rcases hc with z|z
  .rw[z];exact nch b u e
  .exact nch c _ z
def Itz (K:Yb) (a b:Yt):It :=
 ⟨λi H=>∃ xs ys x y,SqT K H a xs/\SqT K H b ys/\xs[i]?=some x/\ys[i]?=some y,
  λi H v H'=>∃ T x y,v=.ref T/\H T=none/\H'=upd H T (.tup [x,y])/\(∀ xs,SqT K H a xs->xs[i]?=some x) /\ ∀ ys,SqT K H b ys->ys[i]?=some y,
  λi H=>∃ xs ys,SqT K H a xs/\SqT K H b ys/\(xs.length<=i\/ys.length<=i)⟩
def P6 {P:Ym} {w:Yo} {K:Yb} {es:Yi} {ek:Nat} {ep:Pos} {z TI TO i1 i2 a b:Yt} (D:ZipApart z TI TO i1 i2 a b) :
  Turn P w K (.Tuple es ek ep) (Itz K a b) [z,TI,TO,i1,i2] z (λi h=>ZipT h z TI TO i1 i2 a b .none i i) where
 mem:=by simp
 obj:=λi h Z c hc=>by
  let⟨Z0,P0,⟨x,y,O0⟩,⟨o1,e1,_,d1⟩,⟨o2,e2,_,d2⟩⟩:=Z;simp only[AL,Cj,or_false]at hc;rcases hc with rfl|rfl|rfl|rfl|rfl
  .exact ⟨_,Z0,λv m=>by ext m⟩
  .exact ⟨_,P0,λv m=>by ext m⟩
  .exact ⟨_,O0,λv m=>by ext m⟩
  .exact ⟨_,e1,λv m=>by rw[d1]at m;ext m⟩
  .exact ⟨_,e2,λv m=>by rw[d2]at m;ext m⟩
 keep:=λi h h' Z k=>by
  let⟨Z0,P0,⟨x,y,O0⟩,⟨o1,e1,r1⟩,⟨o2,e2,r2⟩⟩:=Z;exact ⟨k z (by simp) _ Z0,k TI (by simp) _ P0,⟨x,y,k TO (by simp) _ O0⟩,⟨o1,k i1 (by simp) _ e1,r1⟩,⟨o2,k i2 (by simp) _ e2,r2⟩⟩
 item:=by
  intro X hP hw hK hc i zB s Y H E I hf Z hg;subst hP hw hK;let⟨xs,ys,x,y,sa,sb,hx,hy⟩:=hg;let⟨its,rv,p1,z1⟩:=I.tuple sa;let⟨its2,rv2,p2,z2⟩:=I.tuple sb;let⟨u,hu,ru⟩:=rv.get hx;let⟨u2,hu2,ru2⟩:=rv2.get hy;refine Zx D Z (show s.heap.IsTuple a its.toArray from p1) (show s.heap.IsTuple b its2.toArray from p2) (~~~hu) (~~~hu2) λh' Z' N' kp=>⟨_,rfl,?_⟩;refine wpAny_letOwnedTupleGo_zip Z'.z λh2 Z2 e2=>?_;let hch:∀ c∈[z,TO,i1,i2],Br X zB H c:=λc hm=>hf c (by
   simp only[AL,Cj,or_false]at hm ⊢;rcases hm with q|q|q|q <;> simp[q])
  let kk:∀ c o,c∉[z,TO,i1,i2]->s.heap.get? c=some o->h2.get? c=some o:=λc o n e=>e2.extBut _ _ (λm=>n (by simp[m])) (kp c o n e);let zlt:z<⇑s:=AG Z.z;let NT:IsPair h2 ⇑s u u2:=e2.extBut _ _ (DM zlt) N';let hfr:H ⇑s=none:=I.hok.fresh (AF _);refine ⟨.ref ⇑s,upd H ⇑s (.tup [x,y]),Ri (s:=s) I hch kk (AF _) ?_,rfl,⟨_,x,y,rfl,hfr,rfl,λws hw=>?_,λws hw=>?_⟩,?_,λc hm=>?_⟩
  .exact ⟨by show 2<=sizeLine;decide,[u,u2],.cons ru (.cons ru2 .nil),⟨_,NT,rfl,⟨_,rfl⟩,rfl⟩⟩
  .rw[I.tuple_inj hw sa];exact hx
  .rw[I.tuple_inj hw sb];exact hy
  .obtain ⟨_,P1,⟨q1,q2,O1⟩,⟨o1,f1,r1⟩,⟨o2,f2,r2⟩⟩:=Z';exact ⟨Z2,e2.extBut _ _ D.TIz P1,⟨q1,q2,e2.extBut _ _ D.TOz O1⟩,⟨o1,e2.extBut _ _ D.i1z f1,r1⟩,⟨o2,e2.extBut _ _ D.i2z f2,r2⟩⟩
  .have lt:c<⇑s:=by
    let⟨Z0,P0,⟨q1,q2,O0⟩,⟨o1,f1,_⟩,⟨o2,f2,_⟩⟩:=Z;simp only[AL,Cj,or_false]at hm;rcases hm with rfl|rfl|rfl|rfl|rfl
    .exact AG Z0
    .exact AG P0
    .exact AG O0
    .exact AG f1
    .exact AG f2
   rw[zT (AY lt)];exact (hf c hm).1
 done:=by
  intro X hP hw hK hc i zB s Y H E I hf Z hg;subst hP hw hK;let⟨xs,ys,sa,sb,hz⟩:=hg;let⟨its,rv,p1,z1⟩:=I.tuple sa;let⟨its2,rv2,p2,z2⟩:=I.tuple sb;let l1:=rv.length;let l2:=rv2.length;refine YQ (I.ok.hd hc) D Z (show s.heap.IsTuple a its.toArray from p1) (show s.heap.IsTuple b its2.toArray from p2) ?_ λh' kp=>⟨rfl,Xk I (λc hm=>hf c (by
   simp only[AL,Cj,or_false]at hm ⊢;rcases hm with q|q|q|q <;> simp[q])) kp⟩
  rcases hz with q|q
  .exact .inl (by simp;omega)
  .exact .inr (by simp;omega)
 self:=λ_ _ _ _ _ Z h=>wpAny_pyIter_zip Z.z h
def Sb {ta:TA} (hg:Gl X "zip") (hm:X.mg "zip" = none) (ha:PA X [a,b] ta) (hs:starEach [a,b] X.env=[(false,eval a X.env),(false,eval b X.env)]:=by rfl) (hs2:starEach [b] X.env=[(false,eval b X.env)]:=by rfl) :
  PI X (.Tuple es ek ep) (.Call (.Name "zip" p) [a,b] [] pos) (λY H R=>ta Y H λvs H1=>∃ l1 l2 xs ys,vs=[.ref l1,.ref l2]/\SqT X.K H1 l1 xs/\SqT X.K H1 l2 ys/\R (Itz X.K l1 l2) H1):=by
 intro zB s Y H R I h;refine Call_ (D5 I hg hm (by rfl) (PyProof.Rows.callWith_type1 (thn (ha pos zB s Y H _ I h) λus s1 ⟨vs,H1,I1,r1,q1⟩=>?_) (by rw[hs,hs2]) (by rw[hs2];rfl)));let⟨l1,l2,xs,ys,rfl,s1',s2',q⟩:=q1;cases r1 with
 |cons r rr=>
  cases rr with
  |cons r' rr=>
   ext rr;ext r;ext r';let⟨its,rv,p1,_⟩:=I1.tuple s1';let⟨its2,rv2,p2,_⟩:=I1.tuple s2';let d1:l1<⇑s1:=by let⟨_,e,_⟩:=p1;exact AG e
   let d2:l2<⇑s1:=by let⟨_,e,_⟩:=p2;exact AG e
   refine VB (show s1.heap.IsTuple l1 its.toArray from p1) (show s1.heap.IsTuple l2 its2.toArray from p2) λh' Z kp=>wpAny_pyIter_zip Z.z ?_;refine ⟨⇑s1+4,[⇑s1+4,⇑s1+2,⇑s1+3,⇑s1,⇑s1+1],_,_,H1,rfl,I1.kept kp,P6 (zipApart_new d1 d2),Z,λc hc=>?_,q⟩;let ge:⇑s1<=c:=by
    simp only[AL,Cj,or_false]at hc;rcases hc with rfl|rfl|rfl|rfl|rfl
    .exact Nat.le_add_right _ 4
    .exact Nat.le_add_right _ 2
    .exact Nat.le_add_right _ 3
    .exact AF _
    .exact Nat.le_add_right _ 1
   calc I1.fpOk ge (I1.hok.fresh ge)
def LN (g:FA):FI:=λY M=>match g Y M with
 |some ([.tup xs,.tup ys],M1)=>some ((xs.zip ys).map λq=>D.tup [q.1,q.2],none,M1)
 |_=>none
def YO (hg:Gl X "zip") (hm:X.mg "zip" = none) (ha:QA X [a,b] g) (hs:starEach [a,b] X.env=[(false,eval a X.env),(false,eval b X.env)]:=by rfl) (hs2:starEach [b] X.env=[(false,eval b X.env)]:=by rfl) :
  QI X (.Tuple es ek ep) (.Call (.Name "zip" p) [a,b] [] pos) (LN g):=.mk <| PI.imp (Sb hg hm ha.un hs hs2) λτ H R zz=>by
 let⟨L,Y,M,xs,gd,M',c,rs,hf,q⟩:=zz;erw[LN]at hf;cbv at hf
 .rename_i ds es' M1 e1;ext hf;refine ⟨L,Y,M,_,_,c,rs,e1,λL1 H1 vs s1 c1 r1=>?_⟩;let⟨v,v',rfl,r2,r3⟩:=r1.two;unfold Rep at r2 r3;let⟨l1,ws1,rfl,h1,q1⟩:=r2;let⟨l2,ws2,rfl,h2,q2⟩:=r3;refine ⟨l1,l2,ws1,ws2,rfl,.of h1,.of h2,q L1 H1 _ s1 c1 λL2 H2 M2 s2 c2 _=>?_⟩;let k1:=s2.tup l1 ws1 h1;let k2:=s2.tup l2 ws2 h2;let p1:=q1.stp s2;let p2:=q2.stp s2;refine ⟨λi d hd=>?_,⟨ws1,ws2,.of k1,.of k2,?_⟩⟩
  .rw[AQ]at hd;cases e2:(ds.zip es')[i]? with
   |none=>rw[e2]at hd;ext hd
   |some pr=>
    rw[e2]at hd;ext hd;let⟨f1,f2⟩:=List.getElem?_zip_eq_some.mp e2;let⟨u,hu,ru⟩:=p1.get f1;let⟨u2,hu2,ru2⟩:=p2.get f2;refine ⟨⟨ws1,ws2,u,u2,.of k1,.of k2,hu,hu2⟩,λv H3 hy=>?_⟩;let⟨T,x,y,rfl,hT,rfl,hxx,hyy⟩:=hy;let ex:=hxx ws1 (.of k1);let ey:=hyy ws2 (.of k2);rw[hu]at ex;ext ex;rw[hu2]at ey;ext ey;exact ⟨λa o e=>by rw[zT (DG e hT)];calc e,Rep.newTup hT (.cons ru (.cons ru2 .nil))⟩
  .rw[AI,List.length_zip,p1.length,p2.length];omega
 .cases hf
def Ks (i j:Nat):FG:=λd Y=>match d with
 |.tup [x,y]=>some ((Y.set i (some x)).set j (some y))
 |_=>none
abbrev gP2 (K:Yb) (i j:Nat):TG:=ND K 2 (Ji (Dx i) (Ji (Dx j) My))
def Uh {K:Yb} {own:Yj} {i j:Nat} (hi:i∈own) (hj:j∈own):Fl own (gP2 K i j) (Ks i j):=by
 intro L H Y Y' τ τ0 d v Q rs ex r hf q;erw[Ks]at hf;cbv at hf
 .rename_i x y;ext hf;erw[Rep]at r;let⟨a,vs,rfl,e,r⟩:=r;let⟨v1,v2,rfl,r1,r2⟩:=r.two;exact ⟨a,_,rfl,.of e,rfl,v1,[v2],rfl,v2,[],rfl,rfl,q _ ((rs.set r1).set r2) ((ex.set hi).set hj)⟩
 .cases hf
section
variable {X:Cx} {a b c e:Expr} {es:Yi} {pos p p2 pos2:Pos} {f g h:FE}
theorem Nz:∀ {bs:List Bool} {its:Yf},zU (bs.map V.bl) its -> ∀ (i:Nat) v,its[i]?=some v -> ∃ k,bs[i]?=some k/\v=.bool k
 |[],_,.nil,_,_,h=>by simp at h
 |k::bs,_,.cons r t,0,v,h=>by
  simp at h;subst h;calc ⟨k,rfl,r⟩
 |k::bs,_,.cons r t,i+1,v,h=>by
  let⟨k',e1,e2⟩:=Nz t i v (~~~h);calc ⟨k',by simpa using e1,e2⟩
def Qm (bs:List Bool):((List.range bs.length).all λi=>(bs[i]?).getD true)=bs.all id:=by
 rw[DC,Aj,Aj];constructor
 .intro q k hk;let⟨i,hi,rfl⟩:=Bo hk;have:=q i (C3.mpr hi);rw[AJ hi]at this;exact this
 .intro q i hi;rw[AJ (C3.mp hi)];calc q _ (Au _)
def Ny (K:Yb) (F:List Bool->Bool):List V->Hp->VK->Prop:=λxs H Q=>∃ q bs,xs=[.ref q]/\SqL K H q (bs.map V.bl)/\Q (.bl (F bs)) H
def YM (hc:X.calm=true):Cp X (.builtin "all") (Ny X.K λbs=>bs.all id):=by
 intro zB s Y H xs us Q I r h;let⟨l,bs,rfl,hq,q⟩:=h;let⟨u,rfl,rx⟩:=F5 r;ext rx;let⟨its,rv,pl,_⟩:=I.list hq;let hlt:l<⇑s:=by let⟨_,z,_⟩:=pl.isList;exact AG z
 refine call_all_walk (wpAny_pyIter_list pl.isList ⟨⇑s,[⇑s,l],[⇑s],its.toArray.size,_,_,λi=>(bs[i]?).getD true,rfl,Walks.list (A:=X.A.in1) (I.ok.hd hc) _ l (AY hlt) its.toArray,
  ⟨⟨_,AN _ rfl,rfl,rfl⟩,pl.isList.push _⟩,λi v s' Q' E' hP hQ=>?_,λh' tk hk=>?_⟩)
 .obtain ⟨k,z,rfl⟩:=Nz rv i v (~~~hP);dsimp only at hQ;rw[z]at hQ;exact EE hQ
 .have hl:=rv.length;rw[AI]at hl;rw[AS,<-hl,Qm];calc ⟨.bl _,H,I.kept (t':=tk) λb o z=>hk b o (λm=>by rw[AW.mp m]at z;calc A7 _ (AG z)) (AH _ z),rfl,q⟩
def EW:List D->Option (List Bool)
 |[]=>some []
 |.bl k::r=>match EW r with
  |some bs=>some (k::bs)
  |none=>none
 |_=>none
theorem Pz:∀ {ds:List D} {bs:List Bool} {vs:List V},EW ds=some bs->zG L H ds vs->vs=bs.map V.bl
 |[],bs,vs,e,r=>by ext e;erw[zG]at r;calc r
 |d::ds,bs,vs,e,r=>by
  erw[zG]at r;let⟨v,r',rfl,r1,r2⟩:=r;cases d with
  |bl k=>
   erw[EW]at e;cases q:EW ds with
   |none=>rw[q]at e;ext e
   |some bs'=>
    rw[q]at e;ext e;erw[Rep]at r1;rw[r1,Pz q r2];rfl
  |_=>ext e
def Fu (F:List Bool->Bool):KB:=λxs M=>match xs with
 |[x]=>match Ba M x with
  |some ds=>match EW ds with
   |some bs=>some (.dat (.bl (F bs)),M)
   |none=>none
  |none=>none
 |_=>none
def Te {K:Yb} {F:List Bool->Bool}:DL K (Ny K F) (Fu F):=by
 intro L M M' H H0 xs d vs Q c r hk q;erw[Fu]at hk;cbv at hk
 .rename_i x;cbv at hk
  .rename_i ds e1;cbv at hk
   .rename_i bs e2;ext hk;let⟨v,rfl,r1⟩:=r.one;let⟨l,ws,rfl,h1,r2⟩:=DN c r1 e1;have:=Pz e2 r2;subst this;exact ⟨l,bs,rfl,.inl h1,q L H _ (.refl L H) c (Cb (L:=L) (H:=H))⟩
   .cases hk
  .cases hk
 .cases hk
abbrev GW:KB:=Fu λbs=>bs.all id
section
variable {fa:FAE}
def Pp (hc:X.calm=true) (hg:Gl X "all") (hm:X.mg "all" = none) (ha:QAE X [e] fa) (he:starEach [e] X.env=(false,eval e X.env)::starEach [] X.env:=by rfl) (hpl:(backTo pos (starEach [] X.env)).any (·.1)=false:=by rfl):QE X (.Call (.Name "all" p) [e] [] pos) (fB GW fa) :=
 Es Te (YM hc) (by rfl) hg hm ha () () he hpl
end
def MD (h:Ba M x=some ds) (hb:EW ds=some bs):Ok (Fu F [x] M) P ↔ P (.dat (.bl (F bs))) M:=by
 have:Fu F [x] M=some (.dat (.bl (F bs)),M):=by erw[Fu];dsimp only;rw[h];dsimp only;rw[hb]
 rw[this,zh]
theorem JP:∀ bs:List Bool,EW (bs.map D.bl)=some bs
 |[]=>rfl
 |k::bs=>by rw[Ad];erw[EW];rw[JP bs]
def JW:V->Bool
 |.non=>true
 |.bl _=>true
 |_=>false
def Nm:OpR X (compareOp .Is) (λx y H Q=>JW y=true/\Q (.bl (decide (x=y))) H):=by
 intro zB s Y H x y v u Q I rx ry h;let⟨hp,q⟩:=h;cases y with
 |non=>
  ext ry;refine wpAny_is_plain (by cases x <;> first|(ext rx;rfl)|(let⟨t,rfl⟩:=rx;rfl)) (zb I q ?_);cases x <;> first|(ext rx;rfl)|(let⟨t,rfl⟩:=rx;rfl)
 |bl k=>
  ext ry;refine wpAny_is_plain (by cases x <;> first|(ext rx;rfl)|(let⟨t,rfl⟩:=rx;rfl)) (zb I q ?_);cases x with
  |bl k'=>ext rx;cases k <;> cases k' <;> rfl
  |_=>first|(ext rx;rfl)|(let⟨t,rfl⟩:=rx;rfl)
 |_=>ext hp
def isD:EV->D->Option Bool
 |x,.non=>match x with
  |.dat .non=>some true
  |_=>some false
 |x,.bl k=>match x with
  |.dat (.bl k')=>some (decide (k'=k))
  |_=>some false
 |_,_=>none
def kIs (neg:Bool):K2:=λx y M=>match y with
 |.dat d=>match isD x d with
  |some k=>some (.dat (.bl (if neg then !k else k)),M)
  |none=>none
 |_=>none
def S3 (rx:zR H0 L H x v) (ry:Rep L H d w) (e:isD x d=some k):JW w=true/\decide (v=w)=k:=by
 cases d with
 |non=>
  erw[Rep]at ry;subst ry;calc ⟨rfl,?_⟩;cases x with
  |fl xs=>let⟨q,vs,rfl,_⟩:=rx;ext e;rfl
  |dat d'=>
   cases d' with
   |non=>erw[zR,Rep]at rx;subst rx;ext e;rfl
   |bl _=>erw[zR,Rep]at rx;subst rx;ext e;rfl
   |int _=>erw[zR,Rep]at rx;subst rx;ext e;rfl
   |str _=>erw[zR,Rep]at rx;subst rx;ext e;rfl
   |tup _=>erw[zR,Rep]at rx;let⟨q,vs,rfl,_⟩:=rx;ext e;rfl
   |ref _=>erw[zR,Rep]at rx;let⟨q,rfl,_⟩:=rx;ext e;rfl
   |fn _ _=>erw[zR,Rep]at rx;let⟨rfl,_⟩:=rx;ext e;rfl
 |bl k'=>
  erw[Rep]at ry;subst ry;calc ⟨rfl,?_⟩;cases x with
  |fl xs=>let⟨q,vs,rfl,_⟩:=rx;ext e;rfl
  |dat d'=>
   cases d' with
   |non=>erw[zR,Rep]at rx;subst rx;ext e;rfl
   |bl j=>erw[zR,Rep]at rx;subst rx;ext e;cases j <;> cases k' <;> rfl
   |int _=>erw[zR,Rep]at rx;subst rx;ext e;rfl
   |str _=>erw[zR,Rep]at rx;subst rx;ext e;rfl
   |tup _=>erw[zR,Rep]at rx;let⟨q,vs,rfl,_⟩:=rx;ext e;rfl
   |ref _=>erw[zR,Rep]at rx;let⟨q,rfl,_⟩:=rx;ext e;rfl
   |fn _ _=>erw[zR,Rep]at rx;let⟨rfl,_⟩:=rx;ext e;rfl
 |_=>ext e
def Qi (h:kIs neg x y M=some (r,M')):∃ d k,y=.dat d/\isD x d=some k/\r=.dat (.bl (if neg then !k else k))/\M'=M:=by
 erw[kIs]at h;cbv at h
 .rename_i d;cbv at h
  .rename_i k e1;ext h;exact ⟨d,k,rfl,e1,rfl,rfl⟩
  .cases h
 .cases h
def Ph {K:Yb}:BP K (λx y H Q=>JW y=true/\Q (.bl (decide (x=y))) H) (kIs false):=by
 intro L M M' H H0 x y d v w Q cc rx ry hk q;let⟨d',k,rfl,e,rfl,rfl⟩:=Qi hk;let⟨h1,h2⟩:=S3 rx ry e;calc ⟨h1,?_⟩;rw[h2];calc q L H _ (.refl L H) cc (Cb (L:=L) (H:=H))
def Rc (h1:QE X a f) (h2:QE X b g):QE X (.Compare a [.Is] [b] pos) (fOp (kIs false) f g):=IS Ph Nm h1 h2 (D8 _)
def Mm (h1:QE X a f) (h2:QE X b g):QT X (.Compare a [.Is] [b] pos) (tst (fOp (kIs false) f g)):=Dz Ph Nm h1 h2 (D8 _)
end
open AutoSeq1 (wpAny_loadPart')
def UU {P:Ym} {w:Yo} {K:Yb} {mg:Yh} {base:Heap} {k:Nat} {f:Yt} {fd:Yz} {ps:Yk} {n:Nat}:FnOk P w K mg base CX0 k f fd ps (spF K n λ_ _=>none):=by
 let no:∀ vs H Q E,¬ spF K n (λ_ _=>none) vs H Q E:=λvs H Q E ⟨_,_,_,_,_,_,_,_,h,_⟩=>by ext h
 calc ⟨λvs H Q E h=>absurd h (no vs H Q E),λA outer s H args us vs Q E _ _ _ _ h=>absurd h (no vs H Q E)⟩
def HW:Expr->Bool
 |.Starred .. =>false
 |_=>true
def zE (h:HW e=true):starEach (e::es) env=(false,eval e env)::starEach es env:=by
 cases e <;> first|rfl|ext h
def Ho (h:HW e=true):starEach [e] env=[(false,eval e env)]:=zE h
def NS (h:HW e=true) (h':HW e'=true):starEach [e,e'] env=[(false,eval e env),(false,eval e' env)]:=by rw[zE h,Ho h']
theorem C9:∀ {es:Yi},es.all HW=true->(backTo pos (starEach es env)).any (·.1)=false
 |[],_=>rfl
 |e::es,h=>by
  rw[List.all_cons,A8]at h;rw[zE h.1];have:=C9 (pos:=pos) (env:=env) h.2;simpa [backTo] using this
def Cor.pushO {K:Yb} {L:Yg} {M:List MO} {H:Hp} {p:Yt} {o:HO} {m:MO} (c:Cor K L M H) (h:H p=none) (new:Cr K (L++[p]) (L2.upd H p o) p m) :
  Cor K (L++[p]) (M++[m]) (L2.upd H p o)/\Stp L H (L++[p]) (L2.upd H p o):=by
 let hp:p∉L:=λz=>by let⟨o,e⟩:=c.tracked z;rw[h]at e;ext e
 let st:Stp L H (L++[p]) (L2.upd H p o):=by
  refine ⟨⟨[p],rfl⟩,λa ha=>?_,λa o e _ _=>?_,λa o e=>?_,λa o u e=>?_,I0 (λa o u e=>?_) λa ps e=>?_⟩
  .rcases Ab.mp ha with z|z
   .exact .inl z
   .have:a=p:=by simpa using z
    subst this;exact .inr h
  all_goals (rw[zT (DG e h)];calc e)
 refine ⟨⟨by simp[c.len],?_,λn a m e1 e2=>?_,c.tab.stp st⟩,st⟩
 .rw[EX];exact ⟨c.nd,by simp,λa ha b hb z=>by
   have:b=p:=by simpa using hb
   subst this;subst z;calc hp ha⟩
 .by_cases hn:n<L.length
  .rw[BI hn]at e1;rw[BI (by rw[<-c.len];calc hn)]at e2;exact (c.obj n a m e1 e2).stp st λo _ e=>by rw[zT (DG e h)];exact e
  .have hn':n=L.length:=by
    have:=(AK.mp e1).1;rw[BK]at this;simp at this;omega
   subst hn';simp at e1;rw[c.len]at e2;simp at e2;subst e1;subst e2;calc new
def Cr.nt {K:Yb} {L:Yg} {H:Hp} {a:Yt} {m:MO} (h:Cr K L H a m) {o:HO} (e:H a=some o):NT o:=λps z=>by
 subst z;cases m with
 |lst xs=>let⟨vs,e',_⟩:=h;rw[e]at e';ext e'
 |fro xs=>let⟨o,vs,e',_⟩:=h;rw[e]at e';ext e'
 |dict ps=>let⟨vs,e',_⟩:=h;rw[e]at e';ext e'
 |dicT ps=>let⟨vs,e',_⟩:=h;rw[e]at e';ext e'
 |set _=>let⟨o,u,e'⟩:=h;rw[e]at e';ext e'
 |froT ps=>let⟨o,vs,e',_⟩:=h;rw[e]at e';ext e'
 |froK ps=>let⟨o,vs,e',_⟩:=h;rw[e]at e';ext e'
def Cor.nt {K:Yb} {L:Yg} {M:List MO} {H:Hp} {n:Nat} {p:Yt} {o:HO} (c:Cor K L M H) (h1:L[n]?=some p) (ho:H p=some o):NT o :=
 (c.obj n p _ h1 (AJ (by rw[<-c.len];calc (AK.mp h1).1))).nt ho
def Cor.put {K:Yb} {L:Yg} {M:List MO} {H:Hp} {n:Nat} {p:Yt} {o o':HO} {m:MO} (c:Cor K L M H) (h1:L[n]?=some p) (ho:H p=some o) (ht:∀ xs,o≠.tup xs) (hf:∀ a u,o≠.frz a u)
  (new:Stp L H L (L2.upd H p o')->Cr K L (L2.upd H p o') p m):Cor K L (M.set n m) (L2.upd H p o')/\Stp L H L (L2.upd H p o'):=by
 let st:Stp L H L (L2.upd H p o'):=by
  let nt:=c.nt h1 ho;refine ⟨⟨[],by simp⟩,λa ha=> .inl ha,λa o e ha _=>?_,λa xs e=>?_,λa b u e=>?_,I0 (λa b u e=>?_) λa ps e=>?_⟩
  .rw[zT (show a≠p from λz=>ha (by rw[z];calc Ax h1))];exact e
  .rw[zT (GC e ho (λz=>ht xs z.symm))];exact e
  .rw[zT (GC e ho (λz=>hf b u z.symm))];exact e
  .rw[zT (GC e ho (λz=>hf b u z.symm))];exact e
  .rw[zT (GC e ho (λz=>nt ps z.symm))];exact e
 refine ⟨⟨by simp[c.len],c.nd,λk a m' e1 e2=>?_,c.tab.stp st⟩,st⟩;rw[CJ]at e2;cbv at e2
 .rename_i hk;subst hk;rw[h1]at e1;ext e1;cbv at e2
  .cases e2;exact new st
  .cases e2
 .rename_i hk;let hne:a≠p:=λz=>hk (by
   subst z;calc (List.getElem?_inj (AK.mp h1).1 c.nd).mp (h1.trans e1.symm))
  exact (c.obj k a m' e1 e2).stp st λo _ e=>by rw[zT hne];calc e
section
variable {X:Cx} {a b e:Expr} {pos:Pos} {f g:FE}
def EC (fk fv:FE):FE:=λY M=>match toD fk Y (M++[.dict []]) with
 |some (k,M1)=>match toD fv Y M1 with
  |some (v,M2)=>match M2[M.length]?,Ak k with
   |some (.dict []),some _=>some (.dat (.ref M.length),M2.set M.length (.dict [(k,v)]))
   |_,_=>none
  |none=>none
 |none=>none
def HR (h:Rep L H d v) (e:Ak d=some k):v=kV k:=by
 cases d with
 |int i=>ext e;erw[Rep]at h;calc h
 |str x=>ext e;erw[Rep]at h;calc h
 |_=>ext e
def YD {fk fv:FE} (h1:QE X a fk) (h2:QE X b fv):QE X (.Dict [some a] [b] pos) (EC fk fv):=.mk <| PE.imp (Qd (X1 (CP h1).un (CP h2).un Ve) rfl rfl (by simp) (by simp)) λτ H Q ⟨L,Y,M,d,M',c,rs,hf,q⟩ p hp=>by
 erw[EC]at hf;cbv at hf
 .rename_i k M1 e1;cbv at hf
  .rename_i v M2 e2;cbv at hf
   .rename_i kk e3 e4;ext hf;let⟨c0,s0⟩:=c.pushO (m:=.dict []) hp ⟨[],DI,rfl⟩;refine ⟨L++[p],Y,_,_,_,c0,rs.stp s0,e1,λL1 H1 x st1 c1 r1=>⟨L1,Y,M1,_,_,c1,(rs.stp s0).stp st1,e2,λL2 H2 y st2 c2 r2=>?_⟩⟩;let st:=(s0.trans st1).trans st2;let hx:=HR r1 e4;let lp:L2[M.length]?=some p:=by
     let⟨N,hN⟩:=(st1.trans st2).pre;rw[hN,<-c.len];simp
    let⟨vs,ev,dv⟩:=c2.obj _ p _ lp e3;erw[AR]at dv;subst dv;calc ⟨ev,[(kk,y)],by rw[hx];rfl,by simp,?_⟩;let⟨c3,s3⟩:=c2.put (m:=.dict [(k,v)]) lp ev (λ_ z=>by ext z) (λ_ _ z=>by ext z) λs3=>⟨_,DI,kk,y,[],rfl,e4,r2.stp s3,rfl⟩;calc q _ _ _ (st.trans s3) c3 ?_;erw[zR,Rep];exact ⟨p,rfl,lp⟩
   .cases hf
  .cases hf
 .cases hf
def EL (M:Mem):EV->Option (List D)
 |.fl xs=>some xs
 |.dat (.ref n)=>match M[n]? with
  |some (.lst xs)=>some xs
  |_=>none
 |_=>none
def P4 {K:Yb} {L:Yg} {M:Mem} {H H0:Hp} {x:EV} {v:V} {xs:List D} (c:Cor K L M H) (r:zR H0 L H x v) (h:EL M x=some xs):∃ a vs,v=.ref a/\H a=some (.lst vs)/\zG L H xs vs:=by
 cases x with
 |fl ys=>
  ext h;let⟨p,vs,rfl,_,e,_,r⟩:=r;calc ⟨p,vs,rfl,e,r⟩
 |dat d=>
  cases d with
  |ref n=>
   erw[zR,Rep]at r;let⟨a,rfl,e⟩:=r;erw[EL]at h;dsimp only at h;cbv at h
   .rename_i ys q;ext h;let⟨vs,e1,r1⟩:=c.obj n a _ e q;exact ⟨a,vs,rfl,e1,r1⟩
   .cases h
  |_=>ext h
def FY:K2:=λx y M=>match EL M x,EL M y with
 |some xs,some ys=>if xs.length+ys.length<=sizeLine then some (.fl (xs++ys),M) else none
 |_,_=>none
def XY {K:Yb}:BP K NO FY:=by
 intro L M M' H H0 x y d v w Q c rx ry hk q;erw[FY]at hk;cbv at hk
 .rename_i xs ys e1 e2;cbv at hk
  .rename_i hz;ext hk;let⟨l,vs,rfl,h1,r1⟩:=P4 c rx e1;let⟨l2,ws,rfl,h2,r2⟩:=P4 c ry e2;refine ⟨l,l2,vs,ws,rfl,rfl,h1,h2,by rw[r1.length,r2.length];exact hz,λp hp=>?_⟩;exact q L _ _ (.upd hp) (c.upd hp) (zR.newLst (.refl L H) c c hp (r1.app r2))
  .cases hk
 .cases hk
def QY (h1:QE X a f) (h2:QE X b g):QE X (.BinOp a .Add b pos) (fOp FY f g):=FN XY UX h1 h2
end
def CA:List D->Option (List Int)
 |[]=>some []
 |.int i::r=>match CA r with
  |some bs=>some (i::bs)
  |none=>none
 |_=>none
theorem G6:∀ {ds:List D} {bs:Ye} {vs:List V},CA ds=some bs->zG L H ds vs->vs=bs.map V.int
 |[],bs,vs,e,r=>by ext e;erw[zG]at r;calc r
 |d::ds,bs,vs,e,r=>by
  erw[zG]at r;let⟨v,r',rfl,r1,r2⟩:=r;cases d with
  |int k=>
   erw[CA]at e;cases q:CA ds with
   |none=>rw[q]at e;ext e
   |some bs'=>
    rw[q]at e;ext e;erw[Rep]at r1;rw[r1,G6 q r2];rfl
  |_=>ext e
theorem E6:∀ xs:List Int,CA (xs.map D.int)=some xs
 |[]=>rfl
 |x::r=>by rw[Ad];erw[CA];rw[E6 r]
def Q2 (xs:Ye):(xs.map V.int).all Ds=true:=by
 rw[Aj];intro x hx;let⟨i,_,rfl⟩:=Af.mp hx;rfl
def SR (i:Int) (xs:Ye):inV (.int i) (xs.map V.int)=xs.any λy=>decide (y=i):=by
 erw[inV];rw[List.any_map];congr 1
def kIn (neg:Bool):K2:=λx y M=>match x with
 |.dat (.int i)=>match zu M y with
  |some ds=>match CA ds with
   |some xs=>some (.dat (.bl (if neg then !(xs.any λy=>decide (y=i)) else xs.any λy=>decide (y=i))),M)
   |none=>none
  |none=>none
 |_=>none
def Kv {K:Yb} {neg:Bool}:BP K (rIn K neg) (kIn neg):=by
 intro L M M' H H0 x y d v w Q cc rx ry hk q;erw[kIn]at hk;cbv at hk
 .rename_i i;cbv at hk
  .rename_i ds e1;cbv at hk
   .rename_i xs e2;ext hk;let ev:v=.int i:=by erw[zR,Rep]at rx;exact rx
    let⟨p,vs,rfl,hs,r⟩:=FV cc ry e1;have:=G6 e2 r;subst this;calc ⟨p,_,rfl,hs,by rw[ev];rfl,Q2 xs,?_⟩;rw[ev,SR];exact q L H _ (.refl L H) cc (Cb (L:=L) (H:=H))
   .cases hk
  .cases hk
 .cases hk
def Rg (h1:QE X a f) (h2:QE X b g) (hm:behindInMarks .In b=false:=by rfl):QE X (.Compare a [.In] [b] pos) (fOp (kIn false) f g):=IS Kv L5 h1 h2 hm
def S5 (h1:QE X a f) (h2:QE X b g) (hm:behindInMarks .In b=false:=by rfl):QT X (.Compare a [.In] [b] pos) (tst (fOp (kIn false) f g)):=Dz Kv L5 h1 h2 hm
def ZK (h1:QE X a f) (h2:QE X b g) (hm:behindInMarks .NotIn b=false:=by rfl):QT X (.Compare a [.NotIn] [b] pos) (tst (fOp (kIn true) f g)):=Dz Kv Wz h1 h2 hm
end L3
namespace L2
def Qr (elt target iter:Expr) (ifs:Yi) (scope:Y0) (pos:Pos) (it acc:Yu) (env:Env) :
  compTurn (.SetComp elt [⟨target,iter,ifs,0⟩] scope pos) 0 it acc env=(do
   standAt iter.pos;match <- pyNext it with
   |none=>pure (.done .next)
   |some v=>
    letOwnedTupleGo target it v;assign target env v;let mut ok:=true
    for c in ifs do
     if ok then ok <- isTrue c env (eval c env)
    if ok then (do let v <- eval elt env;standAt elt.pos;let _ <- call (.builtin "set.add") [acc,v])
    again (.compLoop (.SetComp elt [⟨target,iter,ifs,0⟩] scope pos) 0 it acc env)):=by rfl
def Uy (I:Nat->Shared->Prop)
  (turn:∀ n s,I n s->wpAny (model prog w) A (pyNext it) (λr s₁=>match r with
   |none=>R (.ok .next) s₁
   |some v=>wpAny (model prog w) A (letOwnedTupleGo target it v) (λ_ s₁'=>wpAny (model prog w) A (assign target env v) (λ_ s₂=>
     wpAny (model prog w) A (forIn ifs true λc r=>if r=true then do let ok <- isTrue c env (eval c env);pure (ForInStep.yield ok) else pure (ForInStep.yield r)) (λok s₃=>
      if ok=true then wpAny (model prog w) A (eval elt env) (λx s₄=>
       wpAny (model prog w) A (call (.builtin "set.add") [acc,x]) (λ_ s₅=>∃ m,m<n/\I m s₅) (λ_ _=>False) s₄) (λ_ _=>False) s₃
      else ∃ m,m<n/\I m s₃) (λ_ _=>False) s₂) (λ_ _=>False) s₁') (λ_ _=>False) s₁) (λ_ _=>False) s)
  (n:Nat) (h:I n s) :
  codeAny (model prog w) A (.compLoop (.SetComp elt [⟨target,iter,ifs,0⟩] scope pos) 0 it acc env) R s:=by
 refine codeAny_loop rfl I (λn s hI=>?_) n h;show wpAny _ A ((compTurn (.SetComp elt [⟨target,iter,ifs,0⟩] scope pos) 0 it acc env).onRaise (λx=>do noteFrame x env;theTreesLotGoes x)) _ _ s;calc wpAny_noted ?_;rw[Qr];refine AA (wpAny_standAt (AA (Aq (turn n s hI) (λr s₁ h₁=>?_) λ_ _ h'=>h'.elim)));cases r with
 |none=>calc AB h₁
 |some v=>
  refine AA (Aq h₁ (λ_ s₁' h₁'=>?_) λ_ _ h'=>h'.elim);refine AA (Aq h₁' (λ_ s₂ h₂=>AA (Aq h₂ (λok s₃ h₃=>?_) λ_ _ h'=>h'.elim)) λ_ _ h'=>h'.elim);cases ok with
  |false=>calc AB ⟨rfl,h₃⟩
  |true=>
   calc AA (AA (Aq h₃ (λx s₄ h₄=>AA (wpAny_standAt (AA (Aq h₄ (λ_ s₅ h₅=>AB (AB ⟨rfl,h₅⟩)) λ_ _ h'=>h'.elim)))) λ_ _ h'=>h'.elim))
end L2
end
namespace ST
open PySem
abbrev Up (xs:Array Nat):Prop:=xs.toList.Pairwise (· < ·)
def Up.get (h:Up xs) (hik:i<k) (hk:k<xs.size):xs[i]'()<xs[k]:=by
 have:=List.pairwise_iff_getElem.mp h i k (by simpa using (show i<xs.size by omega)) (~~~hk) hik;simpa using this
theorem KU (h:Up xs) (j:Nat):∀ (fuel lo hi:Nat),lo<=hi->hi<=xs.size->hi-lo<=fuel->(∀ i (hi':i<xs.size),i<lo->xs[i]<j)->(∀ i (hi':i<xs.size),hi<=i->j<=xs[i]) ->
  (SetTable.below.go xs j fuel lo hi<=xs.size)/\(∀ i (hi':i<xs.size),i<SetTable.below.go xs j fuel lo hi->xs[i]<j)/\(∀ i (hi':i<xs.size),SetTable.below.go xs j fuel lo hi<=i->j<=xs[i])
 |0,lo,hi,h1,h2,h3,a,b=>by
  have:lo=hi:=()
  subst this;erw[SetTable.below.go];calc ⟨h2,a,b⟩
 |fuel+1,lo,hi,h1,h2,h3,a,b=>by
  erw[SetTable.below.go];by_cases hl:lo<hi
  .rw[AD hl];dsimp only;let hm:(lo+hi) / 2<xs.size:=()
   let eg:xs.getD ((lo+hi) / 2) j=xs[(lo+hi) / 2]:=by simp[Array.getD,hm]
   rw[eg];by_cases hc:xs[(lo+hi) / 2]<j
   .rw[AD hc];refine KU h j fuel _ _ () h2 () (λi hi' hlt=>?_) b;rcases DH i ((lo+hi) / 2)with z|z
    .exact Nat.lt_trans (h.get z hm) hc
    .have:i=(lo+hi) / 2:=()
     subst this;exact hc
   .rw[AE hc];refine KU h j fuel _ _ () () () a (λi hi' hge=>?_);rcases DH ((lo+hi) / 2) i with z|z
    .have:=h.get z hi';omega
    .have:i=(lo+hi) / 2:=()
     subst this;omega
  .rw[AE hl];have:lo=hi:=()
   subst this;calc ⟨h2,a,b⟩
def Fh (h:Up xs) (j:Nat):SetTable.below xs j<=xs.size/\(∀ i (hi':i<xs.size),i<SetTable.below xs j->xs[i]<j)/\(∀ i (hi':i<xs.size),SetTable.below xs j<=i->j<=xs[i]):=by
 erw[SetTable.below];calc KU h j xs.size 0 xs.size (Bh _) (AF _) () (λi _ z=>()) (λi hi' z=>())
def Pj (h:Up xs):SetTable.below xs 0=0:=by
 let⟨a,b,c⟩:=Fh h 0;rcases Nat.eq_zero_or_pos (SetTable.below xs 0)with z|z
 .exact z
 .have:=b 0 () z;omega
def Oz (h:Up xs) (hk:k<xs.size):SetTable.below xs (xs[k]+1)=k+1:=by
 let⟨a,b,c⟩:=Fh h (xs[k]+1);rcases Nat.lt_trichotomy (SetTable.below xs (xs[k]+1)) (k+1)with z|z|z
 .have:=c k hk ();omega
 .exact z
 .have h1:k+1<xs.size:=()
  have:=b (k+1) h1 z;have:=h.get (show k<k+1 by omega) h1;omega
def HJ {α:Type} (xs:Array α) (p:Nat) (x:α):(SetTable.insertAt xs p x).toList=xs.toList.take p++x::xs.toList.drop p:=by
  erw[SetTable.insertAt];simp;have:xs.toList.length<=xs.size:=by simp
  rw[List.take_of_length_le (by simp)]
def Ld (h : Up xs) (hj : j ∉ xs.toList) : Up (SetTable.insertAt xs (SetTable.below xs j) j) := by
  obtain ⟨a, b, c⟩ := Fh h j;unfold Up;rw [HJ];rw [List.pairwise_append];have hT : ∀ x ∈ xs.toList.take (SetTable.below xs j), x < j := fun x hx => by
    let⟨i,hi,e⟩:=Bo hx;rw[List.getElem_take]at e;rw[BY]at hi
    have h1 : i < xs.size := by have : xs.toList.length = xs.size := by simp
                                omega
    have:=b i h1 ();rw[<-e];simpa using this
  have hD : ∀ x ∈ xs.toList.drop (SetTable.below xs j), j < x := fun x hx => by
    let⟨i,hi,e⟩:=Bo hx;rw[List.getElem_drop]at e;rw[D0]at hi
    have h1 : SetTable.below xs j + i < xs.size := by have : xs.toList.length = xs.size := by simp
                                                      omega
    let h2:=c _ h1 ();let h3:x≠j:=λz=>hj (z▸FX hx);let e':xs[SetTable.below xs j+i]=x:=by simpa using e
    omega
  refine ⟨h.sublist (List.take_sublist _ _),Eb.mpr ⟨hD,h.sublist (List.drop_sublist _ _)⟩,λx hx y hy=>?_⟩;rcases AL.mp hy with z|z
  .rw[z];exact hT x hx
  .exact Nat.lt_trans (hT x hx) (hD y z)
def Hi (j:Nat):SetTable.has #[] j=false:=by
 erw[SetTable.has];simp
def Zu {t:SetTable} (h:Up t.place) (he:t.slot j=.empty):j∉t.place.toList:=λhm=>by
 let⟨a,b,c⟩:=Fh h j;let⟨k,hk,e⟩:=Bo hm;let hk':k<t.place.size:=by simpa using hk
 let e':t.place[k]=j:=by simpa using e
 let eb:SetTable.below t.place j=k:=by
  rcases Nat.lt_trichotomy (SetTable.below t.place j) k with z|z|z
  .have h1:SetTable.below t.place j<t.place.size:=()
   have:=c _ h1 (AF _);have:=h.get z hk';omega
  .exact z
  .have:=b k hk' z;omega
 erw[SetTable.slot]at he;rw[eb,AD (by simp[hk',e'])]at he;ext he
theorem NR (hd:t.dummies = #[]):∀ (fuel:Nat) (p:SetTable.Probe) {j:Nat} {d:Option Nat},p.dummy=none->SetTable.probe.go t hashAt h fuel p=some (.empty j d)->d=none/\t.slot j=.empty
 |0,_,_,_,_,e=>by erw[SetTable.probe.go]at e;ext e
 |fuel+1,p,j,d,hp,e=>by
  erw[SetTable.probe.go]at e;cbv at e
  .rename_i hs;ext e;exact ⟨hp,hs⟩
  .rename_i hs;erw[SetTable.slot]at hs;dsimp only at hs;rw[hd,Hi]at hs;split at hs <;> first|cases hs|simp at hs
  .split at e
   .cases e
   .refine NR hd fuel _ ?_ e;erw[SetTable.advance];split <;> simp[hp]
def Vp {t:SetTable} (hu:Up t.place) (hd:t.dummies = #[]) (e:t.freeSlot h=some (j,b)):b=false/\j∉t.place.toList:=by
 erw[SetTable.freeSlot]at e;cbv at e
 .rename_i j' d hp;erw[SetTable.probe]at hp;let⟨h1,h2⟩:=NR hd _ _ (by rfl) hp;subst h1;simp at e;let⟨rfl,rfl⟩:=e;exact ⟨rfl,Zu hu h2⟩
 .cases e
structure TabOk (w:Yo) (t:SetTable):Prop where
 led:t.led = !w.params.followText "set-order"
 up:Up t.place
 nod:t.dummies = #[]
def VD (n:Nat):Up (Array.range n):=by
 erw[Up];rw[Array.toList_range];calc List.pairwise_lt_range
def TabOk.standIn (h:TabOk w t) (n:Nat):TabOk w (t.standIn n):=⟨h.led,VD n,rfl⟩
def TabOk.orStandIn (h:TabOk w t) (n:Nat):TabOk w (t.orStandIn n):=by
 erw[SetTable.orStandIn];split
 .exact h
 .exact h.standIn n
def TabOk.put (h:TabOk w t) (hj:j∉t.place.toList):TabOk w (t.put j).1:=by
 erw[SetTable.put];calc ⟨h.led,Ld h.up hj,?_⟩;rw[h.nod,Hi];rfl
theorem TabOk.layNew (h:TabOk w t) (es:Yw) (hh:Int) (x:Yu):TabOk w (layNew t es hh x).2.1:=by
 erw[PySem.layNew];split
 .rename_i j b e;exact (h.put (Vp h.up h.nod e).2).orStandIn _
 .exact h.standIn _
def TabOk.relaid (h:TabOk w t) (e:t.relaid hs wanted=some (t',order)):TabOk w t':=by
 erw[SetTable.relaid,SetTable.laid]at e;cases q:SetTable.layClean (SetTable.sizeAbove wanted-1) hs with
 |none=>rw[q]at e;ext e
 |some owner=>
  rw[q]at e;simp only[Option.bind_eq_bind,Option.bind_some,Option.pure_def,Option.some.injEq,Prod.mk.injEq]at e;let⟨rfl,_⟩:=e;calc ⟨h.led,?_,rfl⟩;erw[Up];rw[List.pairwise_map,List.pairwise_filterMap];refine List.pairwise_lt_range.imp λ{a b} hab x hx y hy=>?_;cases o1:owner.getD a none with
  |none=>rw[o1]at hx;ext hx
  |some u=>
   cases o2:owner.getD b none with
   |none=>rw[o2]at hy;ext hy
   |some v=>
    rw[o1]at hx;rw[o2]at hy;ext hx;ext hy;calc hab
theorem TabOk.relayAll (h:TabOk w t) (es:Yw) (wanted:Nat):TabOk w (relayAll t es wanted).2.1:=by
 erw[PySem.relayAll];split
 .rename_i t' order e;dsimp only;split
  .exact h.relaid e
  .exact h.standIn _
 .exact h.standIn _
theorem TabOk.plain (h:TabOk w t) (b:Bool):TabOk w { t with plain:=b }:=⟨h.led,h.up,h.nod⟩
def TabOk.fresh:TabOk w (SetTable.fresh 0 0 (!w.params.followText "set-order")):=⟨rfl,List.Pairwise.nil,rfl⟩
open Sem (wp)
set_option genInjectivity true in
inductive F2 {α β:Type} (R:α->β->Prop):List α->List β->Prop
 |nil:F2 R [] []
 |cons {x y xs ys}:R x y->F2 R xs ys->F2 R (x::xs) (y::ys)
section
variable [DecidableEq K]
def Jv (knd:KeyKind prog w K) (e:Int × Value) (k:K):Prop:=(knd.is k e.2=true/\e.1=knd.hash k)/\e.2.scannable=true
structure SetK (knd:KeyKind prog w K) (o:Obj) (es:Yw) (ep:Nat) (t:SetTable) (ks:List K):Prop where
 ex:o.ExactSet
 data:o.data=.set es ep t
 tab:TabOk w t
 fits:t.fits es.size=true
 bound:es.size<scanBound
 ent:∃ ks',ks'.Perm ks/\F2 (Jv knd) es.toList ks'
def ins (ks:List K) (k:K):List K:=if k∈ks then ks else ks++[k]
variable {knd:KeyKind prog w K}
theorem E8 {α β:Type} {R:α->β->Prop}:∀ {xs:List α} {ys:List β},F2 R xs ys->xs.length=ys.length
 |_,_,.nil=>rfl
 |_,_,.cons _ h=>by simp[E8 h]
theorem IV {α β:Type} {R:α->β->Prop}:∀ {xs:List α} {ys:List β},F2 R xs ys -> ∀ x∈xs,∃ y∈ys,R x y
 |_,_,.nil,x,hx=>by ext hx
 |_,_,.cons h r,x,hx=>by
  rcases AL.mp hx with z|z
  .subst z;exact ⟨_,Az,h⟩
  .obtain ⟨y,hy,q⟩:=IV r x z;calc ⟨y,Ay _ hy,q⟩
theorem Np {α β:Type} {R:α->β->Prop}:∀ {xs:List α} {ys:List β},F2 R xs ys -> ∀ y∈ys,∃ x∈xs,R x y
 |_,_,.nil,x,hx=>by ext hx
 |_,_,.cons h r,x,hx=>by
  rcases AL.mp hx with z|z
  .subst z;exact ⟨_,Az,h⟩
  .obtain ⟨y,hy,q⟩:=Np r x z;calc ⟨y,Ay _ hy,q⟩
theorem JR {α β:Type} {R:α->β->Prop}:∀ {xs:List α} {ys:List β} {us:List α} {vs:List β},F2 R xs ys->F2 R us vs->F2 R (xs++us) (ys++vs)
 |_,_,_,_,.nil,h=>h
 |_,_,_,_,.cons h r,q=> .cons h (JR r q)
def Gx {α β:Type} {R:α->β->Prop} {xs xs':List α} (p:xs'.Perm xs):∀ {ys:List β},F2 R xs ys -> ∃ ys',ys'.Perm ys/\F2 R xs' ys':=by
 let p':=p.symm;clear p;induction p' with
 |nil=>intro ys h;calc ⟨ys,.refl _,h⟩
 |cons x _ ih=>
  intro ys h;cases h with
  |cons h r=>
   let⟨ys',q1,q2⟩:=ih r;calc ⟨_,q1.cons _,.cons h q2⟩
 |swap x y l=>
  intro ys h;cases h with
  |cons h r=>
   cases r with
   |cons h2 r=>
    calc ⟨_,List.Perm.swap _ _ _,.cons h2 (.cons h r)⟩
 |trans _ _ ih1 ih2=>
  intro ys h;let⟨ys',q1,q2⟩:=ih1 h;let⟨ys'',r1,r2⟩:=ih2 q2;calc ⟨ys'',r1.trans q1,r2⟩
def SetK.size (h:SetK knd o es ep t ks):es.size=ks.length:=by
 let⟨ks',p,f⟩:=h.ent;rw[<-p.length_eq,<-E8 f,AU]
def SetK.elems (h:SetK knd o es ep t ks):ElemsOf knd es.toList:=λe he=>by
 let⟨ks',p,f⟩:=h.ent;let⟨k,_,q⟩:=IV f e he;calc ⟨⟨k,q.1⟩,q.2⟩
def SetK.mem (h:SetK knd o es ep t ks) (k:K):k∈ks ↔ ∃ e∈es.toList,knd.is k e.2=true:=by
 let⟨ks',p,f⟩:=h.ent;rw[<-p.mem_iff];constructor
 .intro hk;let⟨e,he,q⟩:=Np f k hk;exact ⟨e,he,q.1.1⟩
 .rintro ⟨e,he,q⟩;let⟨k',hk',q'⟩:=IV f e he;rw[knd.inj e.2 k k' q q'.1.1];calc hk'
variable {s:Yl}
def SetK.typeIs (h:SetK knd o es ep t ks) (ho:s.heap.get? a=some o):s.TypeIs (.ref a) "set" := ⟨o,ho,h.ex.1⟩
def Hs {h:Heap} (ho:h.get? a=some o) (hd:o.data=.set es ep t) :
  (h.update a (Obj.putSet es' t')).get? a=some { o with data:=.set es' (ep+1) t' }:=by
 have:=B8 (Obj.putSet es' t') ho (by rw[putSet_of es' t' hd];rfl);rw[putSet_of es' t' hd]at this;calc this
def Zy {Q:Bool->Shared->Prop} (hkey:knd.is k x=true) (hsc:x.scannable=true) (ho:s.heap.get? a=some o) (hS:SetK knd o es ep t ks) (hroom:ks.length+1<scanBound)
  (h:∀ h' o' es' ep' t' b,Heap.SameBut a s.heap h'->h'.get? a=some o'->SetK knd o' es' ep' t' (ins ks k)->Q b { s with heap:=h' }) :
  wpAny (model prog w) A (setAddHashed a x (knd.hash k)) Q E s:=by
 let hd:=hS.data;let hf:=hS.fits;let hel:=hS.elems;let hb:=hS.bound;let hb1:es.size+1<scanBound:=by rw[hS.size];exact hroom
 erw[setAddHashed,setAddHashedIn];calc Bl (AA (B4 ho hd hf ?_));dsimp only;rw[byScan_of hsc hb hel];simp only[↓reduceIte];erw[setAddByScan];calc AA ?_;calc AA (Bc ?_);calc AA (wpAny_setScan_of hkey ho hd hf hel ?_);cases hr:List.findIdx? (λe=>knd.is k e.2) es.toList with
 |some j=>
  let⟨hj,hpj,_⟩:=List.findIdx?_eq_some_iff_getElem.mp hr;let hSk:k∈ks:=(hS.mem k).mpr ⟨es.toList[j],Au hj,hpj⟩;calc AB (AB ?_);let e:s={ s with heap:=s.heap }:=by ext s;rfl
  rw[e];calc h s.heap o es ep t _ (Heap.SameBut.refl a s.heap) ho ?_;erw[ins];rw[AD hSk];calc hS
 |none=>
  let hSk:k∉ks:=λhk=>by
   let⟨e,he,hp⟩:=(hS.mem k).mp hk;have:=List.findIdx?_eq_none_iff.mp hr e he;rw[hp]at this;exact Bool.noConfusion this
  let hgw:∀ (b:Bool) {s₁:Shared} {Q':Unit->Shared->Prop},Q' Unit.unit s₁->wpAny (model prog w) A (match b with|true=>rule "set.scan.the-table-gave-way" |false=>pure Unit.unit) Q' E s₁ :=
   λb s₁ Q' hq=>by cases b <;> first|exact AB hq|exact Bc hq
  let hperm:=layNew_perm t es (knd.hash k) x;let hfits:=layNew_fits t es (knd.hash k) x;let htab:=hS.tab.layNew es (knd.hash k) x;generalize hL:layNew t es (knd.hash k) x=L at hperm hfits htab ⊢;let⟨es1,t1,wasDummy,gave⟩:=L;rw[Array.toList_push]at hperm;let hb1':es1.size<scanBound:=by rw[<-AU,hperm.length_eq,BK,AU];simpa using hb1
  let⟨ks',p,f⟩:=hS.ent;let f1:F2 (Jv knd) (es.toList++[(knd.hash k,x)]) (ks'++[k]):=JR f (.cons ⟨⟨hkey,rfl⟩,hsc⟩ .nil);let⟨ks1,p1,f2⟩:=Gx hperm f1;let pI:ks1.Perm (ins ks k):=by
   erw[ins];rw[AE hSk];exact p1.trans (p.append_right _)
  refine AA (hgw _ ?_)
  let tail:∀ t2:SetTable,TabOk w t2->t2.fits es1.size=true->wpAny (model prog w) A (do
    storeSet a es1 t2
    if (!wasDummy&&t2.tooFull)=true then do
      (match (relayAll t2 es1 (SetTable.grown es1.size)).2.2 with|true=>rule "set.scan.the-table-gave-way" |false=>pure Unit.unit)
      storeSet a (relayAll t2 es1 (SetTable.grown es1.size)).1 (relayAll t2 es1 (SetTable.grown es1.size)).2.1;pure (some true)
     else pure (some true)) (λr s'=>wpAny (model prog w) A (match r with|some added=>pure added|none=>setAddHashedIn a x (knd.hash k) 99999) Q E s') E s:=by
   intro t2 T2 F2;calc AA (wpAny_storeSet_of ho hd ?_ (fits_of_scanBound hb1'));let g1:=Hs (es':=es1) (t':=t2) ho hd;let sb1:=BS s.heap a (Obj.putSet es1 t2);let S1:SetK knd { o with data:=.set es1 (ep+1) t2 } es1 (ep+1) t2 (ins ks k):=⟨hS.ex,rfl,T2,F2,hb1',ks1,pI,f2⟩;split
   .have hp:=relayAll_perm t2 es1 (SetTable.grown es1.size);let hfr:=relayAll_fits t2 es1 (SetTable.grown es1.size);let htr:=T2.relayAll es1 (SetTable.grown es1.size);generalize hRl:relayAll t2 es1 (SetTable.grown es1.size)=Rl at hp hfr htr ⊢;let⟨es2,t3,gave2⟩:=Rl;let hsz:es2.size=es1.size:=by rw[<-AU,hp.length_eq,AU]
    let hb2:es2.size<scanBound:=by rw[hsz];exact hb1'
    let⟨ks2,p2,f3⟩:=Gx hp f2;calc AA (hgw _ ?_);calc AA (wpAny_storeSet_of g1 rfl ?_ (fits_of_scanBound hb2));let g2:=Hs (es':=es2) (t':=t3) g1 rfl;exact AB (AB (h _ _ _ _ _ _ (sb1.trans (BS _ a _)) g2 ⟨hS.ex,rfl,htr,hfr,hb2,ks2,p2.trans pI,f3⟩))
   .exact AB (AB (h _ _ _ _ _ _ sb1 g1 S1))
  split
  .refine AA ?_;rw[hashByValue_scannable 8 hsc];refine AB ?_;refine tail _ ?_ ?_
   .split
    .exact htab
    .exact htab.plain _
   .split
    .exact hfits
    .exact SetTable.fits_plain_off hfits
  .refine AA (AB ?_);simp only[↓reduceIte];calc tail _ htab hfits
def zP (w:World):Obj:={ cls:=.type "set", dict:=none,data:=.set #[] 0 (.fresh 0 0 (!w.params.followText "set-order")) }
def SetK.fresh:SetK knd (zP w) #[] 0 (.fresh 0 0 (!w.params.followText "set-order")) []:=⟨⟨rfl,rfl,rfl⟩,rfl,.fresh,by rfl,(),[],.refl _,.nil⟩
def ZW (h:Q (.ref ⇑s) { s with heap:=s.heap.push (zP w) }) :
  wpAny (model prog w) A (newSet (.type "set")) Q E s:=by
 erw[newSet,setsByText];calc AA (AA (wpAny_askSetting (AB ?_)));simp only[newObj];calc AA (wpAny_alloc (AB h))
end
open PySem.Spec PyProof.Rows
open Sem (wp)
def Mh:Manifest.owners.lookup (String.ofList ['r','o','t','a','r','e','t','i','_','t','e','s'].reverse)=some Manifest.sig_set_iterator:=by kernel_rfl
def zL:Slot "set_iterator" "__next__" "set_iterator.__next__" := .of (owner := "set_iterator") (n := "__next__") (by rw[typeLookup_type,builtinLookup_eq_fast];kernel_rfl) (by decide+kernel) (by decide+kernel) (by decide+kernel) (by first|exact .inl (by decide+kernel)|calc .inr (by decide+kernel)) (by rw[isSubtype_type];kernel_rfl)
def N1:Slot "set_iterator" "__iter__" "set_iterator.__iter__" := .of (owner := "set_iterator") (n := "__iter__") (by rw[typeLookup_type,builtinLookup_eq_fast];kernel_rfl) (by decide+kernel) (by decide+kernel) (by decide+kernel) (by first|exact .inl (by decide+kernel)|calc .inr (by decide+kernel)) (by rw[isSubtype_type];kernel_rfl)
def Ec (a:Value):argsOk "set_iterator.__next__" ⟨[a],[]⟩:=by
 erw[argsOk];rw[signature?_of (n:=['_','_','t','x','e','n','_','_']) (by kernel_rfl) Mh];kernel_rfl
def X2 (a:Value):argsOk "set_iterator.__iter__" ⟨[a],[]⟩:=by
 erw[argsOk];rw[signature?_of (n:=['_','_','r','e','t','i','_','_']) (by kernel_rfl) Mh];kernel_rfl
def zr:entryFor table "set_iterator.__next__" = some Builtin.«set_iterator.__next__»:=entryFor_of_tree (by kernel_rfl)
def Wv:entryFor table "set_iterator.__iter__" = some Builtin.«dict_keyiterator.__iter__» :=
 entryFor_alias (id' := "dict_keyiterator.__iter__") (by kernel_rfl) (by first|rfl|decide+kernel|(erw[String.splitOn];simp +decide [String.splitOnAux])) (by decide+kernel) (by kernel_rfl)
def NM:entryFor table "set.__iter__" = some Builtin.«frozenset.__iter__» :=
 entryFor_alias (id' := "frozenset.__iter__") (by kernel_rfl) rfl (by decide+kernel) (by kernel_rfl)
def zi (f:Value) (i:Nat) (a:Addr) (n ep:Nat):Obj:={ cls:=.type "set_iterator", data:=.fields #[f,rawInt i,.ref a,rawInt n,rawInt ep] }
theorem JU {α:Type}:∀ {l:List α} {i:Nat} (h:i<l.length),(l[i]::l.eraseIdx i).Perm l
 |[],i,h=>by simp at h
 |x::l,0,h=>by simp
 |x::l,i+1,h=>by
  have:=JU (~~~h);rw[List.getElem_cons_succ,List.eraseIdx_cons_succ];calc (List.Perm.swap _ _ _).trans (this.cons x)
def Lv {α:Type} {l:List α} (h:i<l.length) (e:n+1=l.length):n=(l.eraseIdx i).length:=by
 rw[List.length_eraseIdx,AD h];omega
theorem PM {α:Type} (next:Nat->Nat):∀ (fuel k:Nat) (left:List α) (out:Array α),fuel=left.length->(pickOrder.go next fuel k left out).toList.Perm (out.toList++left)
 |0,k,left,out,h=>by
  have:left=[]:=Ea.mp h.symm;subst this;erw[pickOrder.go];simp
 |fuel+1,k,left,out,h=>by
  erw[pickOrder.go];let hl:0<left.length:=()
  let hm:next k % left.length<left.length:=Nat.mod_lt _ hl
  rw[AJ hm];calc (PM next fuel (k+1) _ _ (Lv hm h)).trans ?_;rw[Array.toList_push,CS];calc (JU hm).append_left _
def Hq {α:Type} (next:Nat->Nat) (xs:Array α):(pickOrder next xs).toList.Perm xs.toList:=by
 erw[pickOrder];simpa using PM next xs.size 0 xs.toList #[] (by simp)
section
variable {s:Yl}
def YI (h0:n≠0) (h:∀ r d,r<n->Q r { s with drawn:=d }):wpAny (model prog w) A (choose src n) Q E s :=
 λΓ p hΓ=>⟨h0,h _ _ (Nat.mod_lt _ ())⟩
theorem Kt {α:Type}:∀ (n:Nat) (xs:List α) {s:Yl} {Q:List α->Shared->Prop},n=xs.length->(∀ ys d,ys.Perm xs->Q ys { s with drawn:=d })->wpAny (model prog w) A (drawOrder n xs) Q E s
 |0,xs,s,Q,h,q=>by
  have:xs=[]:=Ea.mp h.symm;subst this;let e:s={ s with drawn:=s.drawn }:=by ext s;rfl
  rw[e];calc AB (q [] s.drawn (.refl _))
 |n+1,[],s,Q,h,q=>by ext h
 |n+1,x::xs,s,Q,h,q=>by
  erw[drawOrder];refine AA (YI (by simp) λr d hr=>?_);rw[AJ hr];refine AA (Kt n _ (Lv hr h) λys d' hp=>AB ?_);calc q _ d' ((hp.cons _).trans (JU hr))
variable {K:Type} [DecidableEq K] {ks:List K}
def DE (h:s.heap.get? I=some (zi f i a n ep)):s.TypeIs (.ref I) "set_iterator" := ⟨_,h,rfl⟩
def Ia (hI:s.heap.get? I=some (zi f i a n ep)) (h:Q (.ref I) s):wpAny (model prog w) A (pyIter (.ref I)) Q E s:=by
 calc wpAny_pyIter_slot (DE hI) N1 (A9 N1 (DE hI) Wv ?_ (X2 _));calc AB ⟨_,rfl, "set_iterator", _,DE hI,zL.lookup,h⟩
structure Nexts (prog:Ym) (w:Yo) (o:Obj) (a:Yt) (ep:Nat) (n:Nat) (at_:Nat->Nat) (ord:Yf):Prop where
 len:ord.length=n
 nx:∀ (A:Yn) (E:Yc) (i:Nat) (s:Yl) (Q:Option (Value × Nat)->Shared->Prop),i<=n->s.heap.get? a=some o->Q ((ord[i]?).map λx=>(x,at_ (i+1))) s->wpAny (model prog w) A (setNext a (at_ i) i ep) Q E s
def JG (N:Nexts prog w o a ep ks.length at_ ord) (hS:SetK knd o es ep t ks) (hI:s.heap.get? I=some (zi (rawInt (at_ i)) i a ks.length ep)) (ho:s.heap.get? a=some o)
  (hx:ord[i]?=some x) (hQ:∀ h',h'.get? I=some (zi (rawInt (at_ (i+1))) (i+1) a ks.length ep)->Heap.SameBut I s.heap h'->Q (some x) { s with heap:=h' }):wpAny (model prog w) A (pyNext (.ref I)) Q E s:=by
 let hT:=DE hI;let hi:i<ks.length:=by have:=(AK.mp hx).1;rw[N.len]at this;exact this
 erw[pyNext];calc AA (Cm (B6 hT zL (A9 zL hT zr ?_ (Ec _))));unfold Builtin.«set_iterator.__next__» slotArgs;simp only[C6,Bx,AZ,↓reduceIte,Bq,DK,BX,Be];calc AA (DY hI rfl ?_);dsimp only[rawInt];calc AA (DW ho hS.data hS.fits ?_);rw[AE (by rw[hS.size];simp)];calc AA (N.nx _ _ i s _ () ho ?_);rw[hx];dsimp only[Option.map];calc AA (B1 hI rfl (by simp) ?_);let e1:=B8 (Obj.mapFields λvs=>vs.set! 0 (rawInt (at_ (i+1)))) hI (DO (Bi rfl _));calc AA (B1 e1 (Bi rfl _) (by simp) ?_);let e2:=B8 (Obj.mapFields λvs=>vs.set! 1 (rawInt ((i:Int)+1))) e1 (DO (Bi (Bi rfl _) _));calc AB ⟨x,rfl,AB (hQ _ ?_ ((BS ..).trans (BS ..)))⟩;calc e2.trans ?_;simp[Obj.mapFields,zi,rawInt]
end
open Sem (wp)
section
variable {K:Type} [DecidableEq K] {knd:KeyKind prog w K}
def Jp (hh:A.handled=none) (N:Nexts prog w o a ep ks.length at_ ord) (hS:SetK knd o es ep t ks) (hI:s.heap.get? I=some (zi (rawInt (at_ ks.length)) ks.length a ks.length ep)) (ho:s.heap.get? a=some o)
  (hQ:∀ h',Heap.ExtBut I s.heap h'->Q none { s with heap:=h' }):wpAny (model prog w) A (pyNext (.ref I)) Q E s:=by
 let hT:=DE hI;erw[pyNext];calc AA (Cm (B6 hT zL (A9 zL hT zr ?_ (Ec _))));unfold Builtin.«set_iterator.__next__» slotArgs;simp only[C6,Bx,AZ,↓reduceIte,Bq,DK,BX,Be];calc AA (DY hI rfl ?_);dsimp only[rawInt];calc AA (DW ho hS.data hS.fits ?_);rw[AE (by rw[hS.size];simp)];calc AA (N.nx _ _ ks.length s _ (AF _) ho ?_);rw[DA (by rw[N.len];calc AF _)];dsimp only[Option.map];calc AA (B1 hI rfl (by simp) ?_);simp only[newExc,newTuple,Be,BX];calc AA (Aw (AA (wpAny_of_eq (by first|rfl|(simp only[firstArgMember];rfl)) (AA (Aw ?_ (by size_fits))))) (by size_fits));simp only[raiseNew];calc AA (wpAny_handled ?_);rw[show A.in1.handled=none from hh];calc AA (AB (wpAny_throw ?_));calc AA (wpAny_isInstance ⟨_,AN _ rfl,rfl⟩ isSubtype_stop (AB ?_));calc hQ _ (((BS ..).extBut.push _).push _)
def KD (hh:A.handled=none) (hne:a≠I) (N:Nexts prog w o a ep ks.length at_ ord) (hS:SetK knd o es ep t ks) :
  Walks prog w A I [I,a] [I] ks.length (λi v=>ord[i]?=some v) (λi h=>h.get? I=some (zi (rawInt (at_ i)) i a ks.length ep)/\h.get? a=some o) where
 sub:=λb hb=>by simp at hb;simp[hb]
 frame:=λ_ _ _ st hk=>⟨hk I (by simp) _ st.1,hk a (by simp) _ st.2⟩;item:=λi s Q E hi st hQ=>by
  let hx:ord[i]?=some (ord[i]'(by rw[N.len];calc hi)):=AJ _;refine JG N hS st.1 st.2 hx λh' hI' hs'=>?_;exact hQ _ h' s.toks hx ⟨hI',hs'.extBut a o hne st.2⟩ λb u hb ee=>hs'.extBut b u (λh=>hb (by simp[h])) ee
 done:=λs Q E st hQ=>Jp hh N hS st.1 st.2 λh' he'=>hQ h' s.toks λb u hb ee=>he' b u (λh=>hb (by simp[h])) ee;self:=λ_ _ _ _ st hQ=>Ia st.1 hQ
def Jl {pl:Yj} (hS:SetK knd o es ep t ks) (hl:pl.length=ks.length) (hI:s.heap.get? I=some (zi (.ref T) i a ks.length ep)) (ho:s.heap.get? a=some o)
  (hT:IsTup s.heap T (pl.map λ(k:Nat)=>rawInt k).toArray)
  (hx:(pl[i]?).bind (λk=>(es[k]?).map (·.2))=some x) (hQ:∀ h',h'.get? I=some (zi (.ref T) (i+1) a ks.length ep)->Heap.SameBut I s.heap h'->Q (some x) { s with heap:=h' }):wpAny (model prog w) A (pyNext (.ref I)) Q E s:=by
 let hTy:=DE hI;let⟨oT,hoT,hcT,nT,hdT⟩:=id hT;cases hp:pl[i]? with
 |none=>rw[hp]at hx;ext hx
 |some k=>
  rw[hp]at hx;cases he:es[k]? with
  |none=>simp only[Option.bind_some]at hx;rw[he]at hx;ext hx
  |some e=>
   simp only[Option.bind_some]at hx;rw[he]at hx;ext hx;erw[pyNext];calc AA (Cm (B6 hTy zL (A9 zL hTy zr ?_ (Ec _))));unfold Builtin.«set_iterator.__next__» slotArgs;simp only[C6,Bx,AZ,↓reduceIte,Bq,DK,BX,Be];calc AA (DY hI rfl ?_);dsimp only[rawInt];calc AA (DW ho hS.data hS.fits ?_);rw[AE (by rw[hS.size];simp)];calc AA (Cg hoT hdT ?_);dsimp only;let e5:(List.map (λ(k:Nat)=>rawInt k) pl).toArray[(i:Int).toNat]?=some (rawInt k):=by simp[hp]
   rw[e5];dsimp only[rawInt];erw[setNextDrawn];simp only[Be];calc AA (B4 ho hS.data hS.fits ?_);rw[AE (by simp)];let e6:es[(k:Int).toNat]?=some e:=by simpa using he
   rw[e6];let⟨e1,e2⟩:=e;simp only[BX];calc AA (B1 hI rfl (by simp) ?_);calc AB ⟨e2,rfl,AB (hQ _ ?_ (BS ..))⟩;calc (B8 _ hI (DO (Bi rfl _))).trans ?_;simp[Obj.mapFields,zi,rawInt]
def LQ {pl:Yj} (hh:A.handled=none) (hS:SetK knd o es ep t ks) (hl:pl.length=ks.length) (hI:s.heap.get? I=some (zi (.ref T) ks.length a ks.length ep)) (ho:s.heap.get? a=some o)
  (hT:IsTup s.heap T (pl.map λ(k:Nat)=>rawInt k).toArray) (hQ:∀ h',Heap.ExtBut I s.heap h'->Q none { s with heap:=h' }):wpAny (model prog w) A (pyNext (.ref I)) Q E s:=by
 let hTy:=DE hI;let⟨oT,hoT,hcT,nT,hdT⟩:=id hT;erw[pyNext];calc AA (Cm (B6 hTy zL (A9 zL hTy zr ?_ (Ec _))));unfold Builtin.«set_iterator.__next__» slotArgs;simp only[C6,Bx,AZ,↓reduceIte,Bq,DK,BX,Be];calc AA (DY hI rfl ?_);dsimp only[rawInt];calc AA (DW ho hS.data hS.fits ?_);rw[AE (by rw[hS.size];simp)];calc AA (Cg hoT hdT ?_);dsimp only;let e5:(List.map (λ(k:Nat)=>rawInt k) pl).toArray[(ks.length:Int).toNat]?=none:=by simp[hl]
 rw[e5];dsimp only[rawInt];calc AA (B1 hI rfl (by simp) ?_);let e1:=B8 (Obj.mapFields λvs=>vs.set! 0 (rawInt 0)) hI (DO (Bi rfl _));calc AA (B1 e1 (Bi rfl _) (by simp) ?_);simp only[newExc,newTuple,Be,BX];calc AA (Aw (AA (wpAny_of_eq (by first|rfl|(simp only[firstArgMember];rfl)) (AA (Aw ?_ (by size_fits))))) (by size_fits));simp only[raiseNew];calc AA (wpAny_handled ?_);rw[show A.in1.handled=none from hh];calc AA (AB (wpAny_throw ?_));calc AA (wpAny_isInstance ⟨_,AN _ rfl,rfl⟩ isSubtype_stop (AB ?_));calc hQ _ ((((BS ..).trans (BS ..)).extBut.push _).push _)
def KZ {pl:Yj} (hh:A.handled=none) (hne:a≠I) (hneT:T≠I) (hS:SetK knd o es ep t ks) (hl:pl.length=ks.length) (hb:∀ k∈pl,k<es.size) :
  Walks prog w A I [I,a,T] [I] ks.length (λi v=>(pl[i]?).bind (λk=>(es[k]?).map (·.2))=some v) (λi h=>h.get? I=some (zi (.ref T) i a ks.length ep)/\h.get? a=some o/\IsTup h T (pl.map λ(k:Nat)=>rawInt k).toArray) where
 sub:=λb hb=>by simp at hb;simp[hb]
 frame:=λ_ _ _ st hk=>⟨hk I (by simp) _ st.1,hk a (by simp) _ st.2.1,let ⟨oT,ho,r⟩:=st.2.2;⟨oT,hk T (by simp) oT ho,r⟩⟩;item:=λi s Q E hi st hQ=>by
  let hi':i<pl.length:=by rw[hl];exact hi
  let hk:pl[i]<es.size:=hb _ (Au hi');let hx:(pl[i]?).bind (λk=>(es[k]?).map (·.2))=some (es[pl[i]].2):=by
   rw[AJ hi'];simp[hk]
  refine Jl hS hl st.1 st.2.1 st.2.2 hx λh' hI' hs'=>?_;exact hQ _ h' s.toks hx ⟨hI',hs'.extBut a o hne st.2.1,st.2.2.extBut hs'.extBut hneT⟩ λb u hb ee=>hs'.extBut b u (λh=>hb (by simp[h])) ee
 done:=λs Q E st hQ=>LQ hh hS hl st.1 st.2.1 st.2.2 λh' he'=>hQ h' s.toks λb u hb ee=>he' b u (λh=>hb (by simp[h])) ee;self:=λ_ _ _ _ st hQ=>Ia st.1 hQ
end
open Sem (wp)
def Mq {prog:Ym} {w:Yo} {A:Yn} {I:Yt} {fp wr:Yg} {n:Nat} {P P':Nat->Value->Prop} {St:Nat->Heap->Prop} (W:Walks prog w A I fp wr n P St) (h:∀ i v,P i v->P' i v):Walks prog w A I fp wr n P' St where
 sub:=W.sub;frame:=W.frame;item:=λi s Q E hi st hQ=>W.item i s Q E hi st λv h' tk hP=>hQ v h' tk (h i v hP);done:=W.done;self:=W.self
section
variable {K:Type} [DecidableEq K] {knd:KeyKind prog w K}
def Ei (h:Q (w.params.followText "set-order") s):wpAny (model prog w) A setsByText Q E s:=by
 erw[setsByText];calc AA (wpAny_askSetting (AB h))
def Kp (hS:SetK knd o es ep t ks) (hT:w.params.followText "set-order" = true):Nexts prog w o a ep ks.length (λ_=>0) ((pickOrder (w.params.setOrder a ep) es).toList.map (·.2)) where
 len:=by rw[AI,(Hq _ es).length_eq,AU,hS.size]
 nx:=λA E i s Q hi ho hQ=>by
  erw[setNext];refine AA (B4 ho hS.data hS.fits ?_);refine AA (Ei ?_);rw[hT,AD rfl,AE (by simp)];refine AA ?_;erw[setWalk];refine AA (B4 ho hS.data hS.fits ?_);refine AA (Ei ?_);rw[hT,AD rfl];refine AA (wpAny_askSetting (AB ?_));refine AB ?_;let e:(Option.map (λ(e:Int × Value)=>(e.2,0)) (pickOrder (w.params.setOrder a ep) es)[i]?)=Option.map (λx=>(x,0)) ((pickOrder (w.params.setOrder a ep) es).toList.map (·.2))[i]?:=by
   rw[AQ,Am];cases (pickOrder (w.params.setOrder a ep) es)[i]? <;> rfl
  show Q (Option.map (λ(e:Int × Value)=>(e.2,0)) (pickOrder (w.params.setOrder a ep) es)[i]?) s;rw[e];calc hQ
def Gp (t:SetTable):Nat->Nat
 |0=>0
 |i+1=>t.place.getD i 0+1
def Nb (h:Up t.place) (hi:i<=t.place.size):SetTable.below t.place (Gp t i)=i:=by
 cases i with
 |zero=>calc Pj h
 |succ i=>
  show SetTable.below t.place (t.place.getD i 0+1)=i+1;let hl:i<t.place.size:=()
  let e:t.place.getD i 0=t.place[i]:=by simp[Array.getD,hl]
  rw[e];calc Oz h hl
def J6 (hS:SetK knd o es ep t ks):t.place.size=es.size:=by
 have:=hS.fits;simp only[SetTable.fits,A8,beq_iff_eq]at this;calc this.1
def LF (hS:SetK knd o es ep t ks) (hT:w.params.followText "set-order" = false) (hd:(!t.plain&&decide (es.size>1))=false):Nexts prog w o a ep ks.length (Gp t) (es.toList.map (·.2)) where
 len:=by rw[AI,AU,hS.size]
 nx:=λA E i s Q hi ho hQ=>by
  let hz:=J6 hS;erw[setNext];calc AA (B4 ho hS.data hS.fits ?_);calc AA (Ei ?_);rw[hT,AE ()];show wpAny _ _ (if (!t.plain&&decide (es.size>1))=true then _ else _) _ _ _;rw[AE (by rw[hd];decide)];let hl:t.led=true:=by rw[hS.tab.led,hT];rfl
  calc AA ?_;show wpAny _ _ (if (!t.led && !es.isEmpty)=true then unsupported "set:maker-not-led" else pure Unit.unit) _ _ _;rw[AE (by rw[hl];simp)];calc AB ?_;rw[Nb hS.tab.up (by rw[hz,hS.size];calc hi)];calc AB ?_;rw[AQ,Am]at hQ;by_cases q:i<es.size
  .have q2:i<t.place.size:=by rw[hz];exact q
   rw[BQ q,BQ q2];rw[BQ q]at hQ;let e:Gp t (i+1)=t.place[i]+1:=by
    show t.place.getD i 0+1=_;simp[Array.getD,q2]
   simp only[Option.map]at hQ;rw[e]at hQ;exact hQ
  .have:i=es.size:=by rw[hS.size]at q ⊢;omega
   rw[FR ()]at hQ ⊢;calc hQ
def JN (ho:s.heap.get? a=some o) (hS:SetK knd o es ep t ks)
  (h:∀ (h':Heap) (d:Drawn) (I:Yt) (fp:Yg) (ord:Yf) (St:Nat->Heap->Prop),(∀ b u,s.heap.get? b=some u->h'.get? b=some u)->⇑s<=I->(∀ b∈fp,b<h'.objs.size/\(b=a\/⇑s<=b)) ->
   (∀ A:Around,A.handled=none->Walks prog w A I fp [I] ks.length (λi v=>ord[i]?=some v) St)->St 0 h'->ord.Perm (es.toList.map (·.2))->Q (.ref I) { s with heap:=h',drawn:=d }) :
  wpAny (model prog w) A (pyIter (.ref a)) Q E s:=by
 let hT:=hS.typeIs ho;let hal:a<⇑s:=AG ho;refine wpAny_pyIter_slot hT F.slot_set_iter (A9 F.slot_set_iter hT NM ?_ (F.args_set_iter_1 _));unfold Builtin.«frozenset.__iter__» Builtin.Frozenset.slot0 slotArgs Builtin.Frozenset.addrOf Builtin.Frozenset.sizeOf;simp only[C6,Bx,AZ,↓reduceIte,Bq,DK,BX,Be];refine AA (DW ho hS.data hS.fits ?_);erw[setDrawn];simp only[Be];refine AA (B4 ho hS.data hS.fits ?_);refine AA (Ei ?_);simp only[BX];let hsz:=hS.size;let plain:∀ (at_:Nat->Nat) (ord:Yf),at_ 0=0->Nexts prog w o a ep ks.length at_ ord->ord.Perm (es.toList.map (·.2))->Q (.ref ⇑s) { s with heap:=s.heap.push (zi (rawInt 0) 0 a ks.length ep) }:=by
  intro at_ ord h0 N hp;let e:s.heap.push (zi (rawInt 0) 0 a ks.length ep)=s.heap.push (zi (rawInt 0) 0 a ks.length ep):=rfl
  have:=h (s.heap.push (zi (rawInt 0) 0 a ks.length ep)) s.drawn ⇑s [⇑s,a] ord (λi h=>h.get? ⇑s=some (zi (rawInt (at_ i)) i a ks.length ep)/\h.get? a=some o)
   (λb u e=>AH _ e) (AF _) (λb hb=>by
    rw[BR];rcases AL.mp hb with z|z
    .rw[z];exact ⟨CL _,.inr (AF _)⟩
    .rw[AW.mp z];calc ⟨Ce hal,.inl rfl⟩)
   (λA hh=>KD hh (AY hal) N hS) ⟨by rw[h0];calc AN _ rfl,AH _ ho⟩ hp
  exact this
 let mk:∀ (s1:Yl) (f:Yu) (hv:s1.heap.get? a=some o) {Q':Fin->Shared->Prop},Q' (.done (.ret (.ref ⇑s1))) { s1 with heap:=s1.heap.push (zi f 0 a ks.length ep) }->wpAny (model prog w) A.in1 (do
   let e <- setEpoch a;let r <- newFields "set_iterator" [f,rawInt 0,Value.ref a,rawInt es.size,rawInt e];ret r) Q' E s1:=by
  intro s1 f hv Q' hq;calc AA (wpAny_setEpoch_of hv hS.data hS.fits ?_);erw[newFields];calc AA (Aw (AB ?_));rw[hsz];exact hq
 let ty:∀ (s1:Shared) (f:Value),(∃ T' r,Shared.TypeIs { s1 with heap:=s1.heap.push (zi f 0 a ks.length ep) } (.ref ⇑s1) T'/\typeLookup (Value.type T') (Str.ofString "__next__")=pure (some r)/\True):=λs1 f=>⟨"set_iterator", _,⟨_,AN _ rfl,rfl⟩,zL.lookup,trivial⟩;show wpAny _ _ (if (!w.params.followText "set-order" && (!t.plain&&decide (es.size>1)))=true then _ else _) _ _ _;by_cases hc:(!w.params.followText "set-order" && (!t.plain&&decide (es.size>1)))=true
 .rw[AD hc];refine AA (Kt _ _ (by simp) λpl d hp=>?_);refine AA ?_;erw[newTuple];let hpl:pl.length=ks.length:=by rw[hp.length_eq,Di,hsz]
  refine Aw ?_ (by
   show (List.map (λ(i:Nat)=>rawInt i) pl).toArray.size<=sizeLine;rw[AS,AI,hpl,<-hsz];calc fits_of_scanBound hS.bound)
  generalize hH:s.heap.push { cls:=.type "tuple", data:=.seq (List.map (λ(i:Nat)=>rawInt i) pl).toArray }=H;let kH:∀ b u,s.heap.get? b=some u->H.get? b=some u:=λb u e=>by rw[<-hH];exact AH _ e
  let hT1:IsTup H ⇑s (pl.map λ(k:Nat)=>rawInt k).toArray:=⟨_,by rw[<-hH];calc AN _ rfl,rfl,0,rfl⟩;let szH:H.objs.size=⇑s+1:=by rw[<-hH];exact BR ..
  let szlt:⇑s<H.objs.size:=by rw[szH];exact CL _
  let alt:a<H.objs.size:=Nat.lt_trans hal szlt;calc mk { s with heap:=H,drawn:=d } (.ref ⇑s) (kH _ _ ho) ?_;let⟨T',r,e1,e2,_⟩:=ty { s with heap:=H,drawn:=d } (.ref ⇑s);calc ⟨_,rfl,T',r,e1,e2,?_⟩;let kH2:∀ b u,s.heap.get? b=some u->(H.push (zi (.ref ⇑s) 0 a ks.length ep)).get? b=some u:=λb u e=>AH _ (kH b u e);refine h _ d H.objs.size [H.objs.size,a,⇑s] (pl.map λk=>((es[k]?).map (·.2)).getD .none) (λi h=>h.get? H.objs.size=some (zi (.ref ⇑s) i a ks.length ep)/\h.get? a=some o/\IsTup h ⇑s (pl.map λ(k:Nat)=>rawInt k).toArray) kH2 (by rw[szH];calc Cq _) (λb hb=>?_) (λA hh=>?_) ⟨AN _ rfl,kH2 a o ho,?_⟩ ?_
  .rw[BR];simp only[AL,Cj,or_false]at hb;rcases hb with z|z|z
   .rw[z];exact ⟨CL _,.inr (CH szlt)⟩
   .rw[z];exact ⟨Ce alt,.inl rfl⟩
   .rw[z];exact ⟨Ce szlt,.inr (AF _)⟩
  .have hb:∀ k∈pl,k<es.size:=λk hk=>by have:=hp.mem_iff.mp hk;simpa using this
   refine Mq (KZ hh (AY alt) (AY szlt) hS hpl hb) λi v hv=>?_;rw[AQ];cases q:pl[i]? with
   |none=>rw[q]at hv;ext hv
   |some k=>
    rw[q]at hv;simp only[Option.bind_some]at hv;rw[Option.map_some,hv];rfl
  .exact hT1.push _
  .have e:es.toList.map (·.2)=(List.range es.size).map λk=>((es[k]?).map (·.2)).getD .none:=by
    apply Dm;intro i;rw[AQ,AQ,Am];by_cases q:i<es.size
    .rw[Eu q,BQ q];simp[q]
    .rw[FR (),DA (by simp;omega)];rfl
   rw[e];exact hp.map _
 .rw[AE hc];calc mk s (rawInt 0) ho ?_;let⟨T',r,e1,e2,_⟩:=ty s (rawInt 0);calc ⟨_,rfl,T',r,e1,e2,?_⟩;cases hX:w.params.followText "set-order" with
  |true=>calc plain _ _ rfl (Kp hS hX) ((Hq _ es).map _)
  |false=>
   rw[hX]at hc;calc plain _ _ rfl (LF hS hX (~~~hc)) (.refl _)
end
open Sem (wp)
section
variable {K:Type} [DecidableEq K] {knd:KeyKind prog w K}
def V9:isSubtype (.type "set") (.type "set")=pure true:=sub_set_self
def PR (hT:s.TypeIs (.ref a) "set") (h:Q false s):wpAny (model prog w) A (Builtin.List.listLengthHint (.ref a)) Q E s:=by
 erw[Builtin.List.listLengthHint];calc AA (wpAny_specialOf hT F.slot_set_len.lookup ?_);let hsp:splitId "set.__len__" = some ("set", "__len__"):=by decide+kernel
 dsimp only;rw[hsp];calc AA (wpAny_isInstance hT V9 ?_);rw[AE (),AD (by decide+kernel)];calc AA (wpAny_typeOf hT ?_);calc AB h
def collect_set (hh:A.handled=none) (ho:s.heap.get? a=some o) (hS:SetK knd o es ep t ks)
  (hQ:∀ (s':Yl) (acc:Yf),(∀ b u,s.heap.get? b=some u->s'.heap.get? b=some u)->s'.os=s.os->s'.gens=s.gens->acc.Perm (es.toList.map (·.2))->Q acc s'):wpAny (model prog w) A (collect (.ref a)) Q E s:=by
 let hal:a<⇑s:=AG ho;let hn:ks.length<=sizeLine:=by rw[<-hS.size];exact fits_of_scanBound hS.bound
 erw[collect];calc AA (wpAny_runValue (C2 F.entry_proto_collect ?_));rw[D9 F.plain_proto_collect _];calc AA (Aw (AB ⟨plainId_quiet F.plain_list_iadd _,C2 F.entry_list_iadd ?_⟩));rw[D9 F.plain_list_iadd _];generalize hH:s.heap.push { cls:=.type "list", data:=.seq ([]:List Value).toArray }=H;let kH:∀ b u,s.heap.get? b=some u->H.get? b=some u:=λb u e=>by rw[<-hH];exact AH _ e
 let szH:H.objs.size=⇑s+1:=by rw[<-hH];exact BR ..
 let hL1:H.get? ⇑s=some { cls:=.type "list", data:=.seq ([]:List Value).toArray }:=by rw[<-hH];exact AN _ rfl
 let ho1:=kH a o ho;show wpAny _ A.in1 (Builtin.List.listExtendWith (.ref ⇑s) (.ref a) (.ref ⇑s)) _ _ { s with heap:=H };erw[Builtin.List.listExtendWith];let hT1:Shared.TypeIs { s with heap:=H } (.ref a) "set" := ⟨o,ho1,hS.ex.1⟩;calc AA (wpAny_typeOf hT1 ?_);let hneL:⇑s≠a:=DM hal;let h1:Builtin.List.listSameRef (.ref ⇑s) (.ref a)=false:=by simp[Builtin.List.listSameRef,hneL]
 let h2:(Value.type "set" == Value.type "list")=false:=()
 let h3:(Value.type "set" == Value.type "tuple")=false:=()
 simp only[h1,h2,h3,Bool.or_false,AZ,Ah];refine AA (JN ho1 hS λh2 d I fp ord St k2 hI2 hfp W st0 hp=>?_);let ho2:=k2 a o ho1;refine AA (Bl (PR ⟨o,ho2,hS.ex.1⟩ ?_));rw[AD (by decide+kernel)];refine AA (Bc (AA ?_));let hL2:=k2 _ _ hL1;refine AA (wpAny_updateSeq hL2 rfl ?_);let hS2:=B8 (Obj.mapSeq (·.push Value.none)) hL2 rfl;refine wpAny_updateSeq hS2 rfl ?_;let hS3:=B8 (Obj.mapSeq (·.pop)) hS2 rfl;generalize hH3:(h2.update ⇑s (Obj.mapSeq (·.push Value.none))).update ⇑s (Obj.mapSeq (·.pop))=H3 at hS3;let oth:∀ b u,b≠⇑s->h2.get? b=some u->H3.get? b=some u:=λb u hb e=>by
  rw[<-hH3];exact (CG _ _ (Ne.symm hb)).trans ((CG _ _ (Ne.symm hb)).trans e)
 let hSf:⇑s∉fp:=λhm=>by
  rcases (hfp _ hm).2 with z|z
  .exact hneL z
  .have z':H.objs.size<=⇑s:=z;rw[szH]at z';exact absurd z' (Nat.not_succ_le_self _)
 let WS:=(W A.in1.in1 hh).toS;let st3:St 0 H3:=(W A.in1.in1 hh).frame 0 _ _ st0 λb hb u e=>oth b u (λz=>hSf (z▸hb)) e;let hI3:I≠⇑s:=λz=>by
  let z':H.objs.size<=I:=hI2;rw[szH,z]at z';exact absurd z' (Nat.not_succ_le_self _)
 refine AB ⟨plainId_quiet F.plain_extend_loop _,codeAny_extend_loopS (WalksS.of_in1 WS) hn _ hSf _ ks.length 0 { s with heap:=H3,drawn:=d } _ _ rfl (Bh _) st3 hS3 (ItemsOf.nil _) λs' acc' c' hm hS' hacc=>?_⟩;refine AA (wpAny_load hS' (AB (hQ s' _ (λb u e=>hm.heap b u (λq=>?_) (oth b u (λz=>A7 _ (z▸AG e)) (k2 b u (kH b u e)))) hm.os hm.gens ?_)))
 .rcases AL.mp q with z|z
  .exact A7 _ (z▸AG e)
  .have z':H.objs.size<=I:=hI2;rw[<-AW.mp z,szH]at z';exact A7 _ (Nat.lt_trans (Ao (CL _) z') (AG e))
 .have e:acc'.toList=ord:=by
   let hl:ord.length=ks.length:=by rw[hp.length_eq,AI,AU,hS.size]
   apply Dm;intro i;rw[Am];by_cases q:i<ks.length
   .have q':i<acc'.size:=by rw[hacc.1];exact q
    rw[BQ q'];exact (hacc.2 i _ (BQ q')).symm
   .rw[FR (by rw[hacc.1];omega),DA ()]
  rw[e];calc hp
end
end ST
section
open PySem PySem.Spec PyProof.Rows
namespace L2
open ST
def Y7 {elt target iter ifs rest scope pos it acc env}
  (h0:codeAny (model prog w) A (.compLoop (.SetComp elt (⟨target,iter,ifs,0⟩::rest) scope pos) 0 it acc env) R s)
  (h:wpAny (model prog w) A (pyIter it) (λit' s'=>codeAny (model prog w) A (.compLoop (.SetComp elt (⟨target,iter,ifs,0⟩::rest) scope pos) 0 it' acc env) R s')
   (notedBy (model prog w) A env λx s'=>R (.error x) s') s) :
  codeAny (model prog w) A (.compStart (.SetComp elt (⟨target,iter,ifs,0⟩::rest) scope pos) 0 it acc env) R s:=by
 calc codeAny_of_tree ?_;show wpAny _ _ ((compStart (.SetComp elt (⟨target,iter,ifs,0⟩::rest) scope pos) 0 it acc env).onRaise (λx=>do noteFrame x env;standAt theWindowsPlace)) _ _ s;calc wpAny_notedAt ?_;erw[compStart];calc AA (wpAny_askSetting (wpAny_ite ?_));split
 .first
   |calc AA (AB (AB (And.intro rfl h0)))
   |exact AB (And.intro rfl h0)
 .first
   |exact AA (Bc (AA (wpAny_standAt (AA (Aq h (λit' s' h'=>AB (And.intro rfl h')) λ_ _ x=>x)))))
   | (calc AA (Bc ?_);show wpAny _ _ (standAt iter.pos >>= _) _ _ s;calc AA (wpAny_standAt (AA (Aq h (λit' s' h'=>AB (And.intro rfl h')) λ_ _ x=>x))))
section
variable {pos:Pos}
 {own:Yj} {g:TG} {tc:TT} {te:TE} {E:Yc}
def Vx (I:Inv X zB Y H s) (hf:∀ b∈fp,Br X zB H b)
  (Ic:Inv (zd X zB scope cl s H fp) [(⇑s,oD)] σc H' s') (hs:Heap.SameBut (⇑s+1) s'.heap h') :
  Inv X zB Y H' { s' with heap:=h' }/\h'.get? ⇑s=some oD:=by
 let⟨eD,nD,_⟩:=Ic.pin (⇑s,oD) (by simp);let nC:H' (⇑s+1)=none:=Ic.free;let eD':h'.get? ⇑s=some oD:=hs.extBut _ _ (AY (CL _)) eD;let lt1:∀ {b:Yt} {o:Obj},s.heap.get? b=some o->b≠⇑s+1:=λe=>AY (Ce (AG e));let tr:∀ b u,H' b=some u->b≠⇑s+1:=λb u e z=>by rw[z,nC]at e;ext e
 refine ⟨?_,eD'⟩;let B:=Ic.base;let un:Un (frs X.stack) fp H H' s.heap h':=by
  refine ⟨λb o e q hb hx=>hs.extBut b o (lt1 e) (B.keep b o e q hb hx),λb o e q hb hx=>?_,λb o e q hx=>B.free b o e q hx,λb o e hx=>?_,λb xs e=>B.tups b xs e,λb o xs e=>B.frzs b o xs e,λb ps e=>B.tbls b ps e⟩
  .obtain ⟨sl,e1⟩:=B.slot b o e q hb hx;exact ⟨sl,hs.extBut b _ (lt1 e) e1⟩
  .obtain ⟨o',e1⟩:=B.there b o e hx;exact ⟨o',hs.extBut b _ (lt1 e) e1⟩
 let hok:HOk X.prog X.w H' h':=λb u e=>by
  refine (Ic.hok b u e).stay (λc v hc q=>hs.extBut c v ?_ q) (λc q=>q) λc xs q=>q;rcases hc with z|z
  .rw[z];exact tr b u e
  .exact tr c _ z
 calc I.call' Ic.os un hok Ic.bare λb hb=>⟨(hf b hb).2.2.2.1,(hf b hb).2.1,(hf b hb).2.2.2.2.1,(hf b hb).2.2.2.2.2⟩
end
abbrev TZ:=St->Hp->(List Int->Hp->Prop)->Prop
def PZ (X:Cx) (e:Expr) (t:TZ):Prop:=∀ (zB:Yd) (s:Yl) (Y:St) (H:Hp) (Q:List Int->Hp->Prop),Inv X zB Y H s->t Y H Q ->
 wpAny (model X.prog X.w) X.A (eval e X.env) (λv s'=>∃ a o es ep tb ks H',v=.ref a/\s'.heap.get? a=some o/\SetK (intKind X.prog X.w) o es ep tb ks/\Inv X zB Y H' s'/\Q ks H') X.xe s
end L2
namespace ST
open PySem.Sem (wp)
section
variable {prog:Ym} {w:Yo} {A:Yn} {E:Yc} {s:Yl}
variable {K:Type} [DecidableEq K] {knd:KeyKind prog w K}
def zV (ks:List K):List K:=ks.foldl ins []
def JT (ks:List K) (k:K):zV (ks++[k])=ins (zV ks) k:=by erw[zV];rw[List.foldl_append];rfl
def Xm (ks:List K) (k:K):(ins ks k).length<=ks.length+1:=by erw[ins];split <;> simp
def Sk (ks:List K) (k:K):ks.length<=(ins ks k).length:=by erw[ins];split <;> simp
def TX (val:Nat->K) (h:i<=n):(zV ((List.range i).map val)).length<=(zV ((List.range n).map val)).length:=by
  induction n with
  | zero => have : i = 0 := by omega
            subst this;calc AF _
  |succ n ih=>
    by_cases q:i=n+1
    .subst q;exact AF _
    . rw[List.range_succ,CD,show List.map val [n]=[val n]from rfl,JT]
      calc An (ih ()) (Sk _ _)
def Fp (ks:List K):(zV ks).length<=ks.length:=by
 have:∀ (l acc:List K),(l.foldl ins acc).length<=acc.length+l.length:=by
  intro l;induction l with
  |nil=>intro acc;simp
  |cons x r ih=>intro acc;have:=ih (ins acc x);have:=Xm acc x;simp only[List.foldl_cons,Cu];omega
 simpa [zV] using this ks []
def ZP (ks:List K) (k x:K):x∈ins ks k ↔ x∈ks\/x=k:=by
 erw[ins];split
 .rename_i h;constructor
  .exact .inl
  .rintro (z|z)
   .exact z
   .rw[z];exact h
 .simp
def K5 (ks:List K) (x:K):x∈zV ks ↔ x∈ks:=by
  have:∀ (l acc:List K),x∈l.foldl ins acc ↔ x∈acc\/x∈l:=by
    intro l;induction l with
    |nil=>intro acc;simp
    |cons y r ih=>intro acc;rw[List.foldl_cons,ih,ZP,AL];simp[or_assoc]
  simpa [zV] using this ks []
def XZ (h : ks.Nodup) (k : K) : (ins ks k).Nodup := by
  erw[ins];split
  .exact h
  · rename_i q
    rw[EX]
    exact ⟨h, by simp, fun a ha b hb z => by have : b = k := by simpa using hb
                                             subst this;subst z;calc q ha⟩
def Oo (ks:List K):(zV ks).Nodup:=by
 have:∀ (l acc:List K),acc.Nodup->(l.foldl ins acc).Nodup:=by
  intro l;induction l with
  |nil=>intro acc h;calc h
  |cons y r ih=>intro acc h;exact ih _ (XZ h y)
 calc this ks [] (by simp)
def ZY (a:Yu) (h:Q₁ (.ref ⇑s) { s with heap:=s.heap.push (zP w) }) :
  codeAny (model prog w) A (.call (.builtin "set.__new__") ⟨[.type "set", a],[]⟩) (wants Q₁ E) s:=by
 calc codeAny_of_tree ?_;show wpAny _ A.in1 (do checkBuiltinCall "set.__new__" ⟨[.type "set", a],[]⟩;again (.builtin "set.__new__" ⟨[.type "set", a],[]⟩)) _ _ s;calc AA (wpAny_of_eq (F.newCall_set_1 a) (AB ⟨plainId_quiet F.plain_set_new _,C2 F.entry_set_new ?_⟩));rw[D9 F.plain_set_new _];unfold Builtin.«set.__new__» Builtin.Frozenset.newClass;let hsub:=sub_set_self;let⟨hp,g,d,tk,os⟩:=s;wp_walk;calc wpAny_askSetting (AB ?_);simp only[newObj];calc AA (wpAny_alloc (AB ?_));calc AB h
variable {R:Yx} {I:Yt} {fp wr:Yg} {G:Array GenState->Array GenState->Prop} {n:Nat} {P:Nat->Value->Prop} {St:Nat->Shared->Prop}
def RE (W:WalksS prog w A.in1 I fp wr G n P St) (S:Yt) (hSf:S∉fp) (val:Nat->K) (hval:∀ i v,P i v->knd.is (val i) v=true/\v.scannable=true) (hb:(zV ((List.range n).map val)).length+1<scanBound) :
  ∀ (k i:Nat) (s:Yl) (o:Obj) (es:Yw) (ep:Nat) (t:SetTable),n-i=k->i<=n->St i s->s.heap.get? S=some o->SetK knd o es ep t (zV ((List.range i).map val)) ->
   (∀ s' o' es' ep' t',Moved (S::wr) G s s'->s'.heap.get? S=some o'->SetK knd o' es' ep' t' (zV ((List.range n).map val))->R (.ok (.ret .none)) s') ->
   codeAny (model prog w) A (.builtin "set.update.loop" ⟨[.ref S,.ref I],[]⟩) R s:=by
 let hSw:S∉wr:=λh=>hSf (W.sub _ h);let hsub:∀ b∈wr,b∈S::wr:=λb hb=>Ay _ hb;intro k;induction k with
 |zero=>
  intro i s o es ep t hk hi hst ho hS hR;let hin:i=n:=()
  subst hin;calc C2 F.entry_set_update_loop ?_;rw[D9 F.plain_set_update_loop _];refine AA (W.done s _ _ hst λs' hm=>?_);calc AB (hR s' o es ep t (hm.mono hsub) (hm.heap S _ hSw ho) hS)
 |succ k ih=>
  intro i s o es ep t hk hi hst ho hS hR;let hlt:i<n:=()
  calc C2 F.entry_set_update_loop ?_;rw[D9 F.plain_set_update_loop _];refine AA (W.item i s _ _ hlt hst λv s' hP hst' hm=>?_);let⟨hv1,hv2⟩:=hval i v hP;let ho':=hm.heap S _ hSw ho;calc AA (Bl ?_);erw[setAdd];calc Bl ?_;calc AA (knd.pyHash hv1 ?_);let hroom:(zV ((List.range i).map val)).length+1<scanBound:=by have:=TX val (CH hlt);omega
  refine Zy hv1 hv2 ho' hS hroom λh' o2 es2 ep2 t2 b hsb ho2 hS2=>?_;let hS3:SetK knd o2 es2 ep2 t2 (zV ((List.range (i+1)).map val)):=by
   rw[List.range_succ,CD];rw[show List.map val [i]=[val i]from rfl,JT];exact hS2
  refine AB ⟨plainId_quiet F.plain_set_update_loop _,ih (i+1) _ o2 es2 ep2 t2 () hlt (W.frame _ s' _ _ hst' (Cq _) λb hb o e=>?_) ho2 hS3 λs'' o' es' ep' t' hm'' ho'' hS''=>?_⟩
  .rw[hsb.2 b (λh:b=S=>hSf (by rw[<-h];calc hb))];exact e
  .refine hR s'' o' es' ep' t' (Moved.trans W.gtrans ((hm.mono hsub).then_heap (Cq _) λb o hb e=>?_) hm'') ho'' hS'';rw[hsb.2 b (λh:b=S=>hb (by rw[h];calc Az))];calc e
end
section
variable {prog:Ym} {w:Yo} {A:Yn} {E:Yc} {s:Yl}
variable {K:Type} [DecidableEq K] {knd:KeyKind prog w K}
def Wa:isSubtype (.type "tuple") (.type "set")=pure false:=by rw[isSubtype_type];kernel_rfl
def Sh:isSubtype (.type "tuple") (.type "frozenset")=pure false:=by rw[isSubtype_type];kernel_rfl
def N7 {K:Type} (ks:List K) (d:K):(List.range ks.length).map (λi=>ks.getD i d)=ks:=by
 apply Dm;intro i;rw[AQ];by_cases q:i<ks.length
 .rw[Eu q,AJ q];simp[q]
 .rw[DA (~~~q),DA (Nat.le_of_not_lt q)];rfl
set_option maxHeartbeats 3200000 in
def T7 [Inhabited K] (hty:ty = "list" \/ ty = "tuple")
  (hh:A.handled=none) (hl:∃ ol,s.heap.get? l=some ol/\ol.cls=.type ty /\ ∃ nl,ol.data=.seq items nl) (hi:F2 (λv k=>knd.is k v=true/\v.scannable=true) items.toList ks) (hb:(zV ks).length+1<scanBound)
  (h:∀ (h':Heap) (tk:Nat) (o:Obj) (es:Yw) (ep:Nat) (t:SetTable),h'.get? ⇑s=some o->SetK knd o es ep t (zV ks) ->
   (∀ b o,b<⇑s->s.heap.get? b=some o->h'.get? b=some o)->Q (.ref ⇑s) { s with heap:=h',toks:=tk }) :
  wpAny (model prog w) A (call (.type "set") [.ref l]) Q E s:=by
 let⟨c,tl,hmro⟩:=F.called_set.mro;let hmade:=F.called_set.made;let hsub:=F.called_set.sub;let hlen:items.size=ks.length:=by rw[<-AU];exact E8 hi
 calc wpAny_call (codeAny_of_tree ?_);calc AB ⟨Code.quiet_builtin _ (by decide+kernel),C2 F.entry_type_call ?_⟩;rw[Around.under_plain (weight_type_call_type "set" [.ref l] []) rfl];let h1:=F.called_set.notType;let h2:=F.called_set.canCreate;let hct:=F.typeCall_set_1 (.ref l);repeat (any_goals (first|assumption|wp_step))
 refine codeAny_mono (ZY (.ref l) (E:=E) (Q₁:=λobj s₁=>obj=.ref ⇑s/\s₁={ s with heap:=s.heap.push (zP w) }) ⟨rfl,rfl⟩) λr s₁ hr=>?_;cases r with
 |error e=>calc hr
 |ok fl=>
  cases fl with
  |ret obj=>
   let⟨rfl,rfl⟩:=hr;let hS:(s.heap.push (zP w)).get? ⇑s=some (zP w):=AN _ rfl;let hT:Shared.TypeIs { s with heap:=s.heap.push (zP w) } (.ref ⇑s) "set" := ⟨_,hS,rfl⟩;let hli:=F.called_set.init.lookup;let hbi:=F.called_set.init.bind (.ref ⇑s);repeat (any_goals (first|assumption|wp_step))
   refine codeAny_mono (codeAny_call_builtin (R:=wants (λr s₂=>r=.none /\ ∃ h' tk o es ep t,s₂={ s with heap:=h',toks:=tk }/\h'.get? ⇑s=some o/\SetK knd o es ep t (zV ks) /\
     (∀ b o,b<⇑s->s.heap.get? b=some o->h'.get? b=some o)) E) F.called_set.init.plain F.entry_set_init (check_set_init_1 hT ?_)) λr₂ s₂ hr₂=>?_
   .obtain ⟨ol,hol,hcl,nl,hdl⟩:=hl;let⟨ocls,odict,odata,oslots⟩:=ol;simp only at hcl hdl;subst hcl;subst hdl;let hlS:l<⇑s:=AG hol;let hol':(s.heap.push (zP w)).get? l=some { cls:=.type ty,dict:=odict,data:=.seq items nl,slots:=oslots }:=AH _ hol;let hh3:A.in1.in1.in1.handled=none:=by simp[hh]
    let hneI:l≠(s.heap.push (zP w)).objs.size:=by
     rw[BR];exact AY (Ce hlS)
    let hSf:⇑s∉[(s.heap.push (zP w)).objs.size,l]:=by
     rw[BR];simp only[AL,AW,Cj,or_false,not_or];exact ⟨AY (CL _),DM hlS⟩
    let hval:∀ (d:K) (i:Nat) (v:Yu),items[i]?=some v->knd.is (ks.getD i d) v=true/\v.scannable=true:=λd i v hv=>by
     let e:items.toList[i]?=some v:=by rw[Am];exact hv
     have:∀ {xs:Yf} {ys:List K},F2 (λv k=>knd.is k v=true/\v.scannable=true) xs ys -> ∀ (i:Nat),xs[i]?=some v->knd.is (ys.getD i d) v=true/\v.scannable=true:=by
      intro xs ys f;induction f with
      |nil=>intro i e;simp at e
      |cons q _ ih=>
       intro i e;cases i with
       |zero=>simp at e;subst e;calc q
       |succ i=>exact ih i (~~~e)
     exact this hi i e
    let fin:∀ (I:Yt) (hI:I=(s.heap.push (zP w)).objs.size) (P':Fin->Shared->Prop) (s':Yl) (o':Obj) (es':Yw) (ep':Nat) (t':SetTable) (itO:Obj),
      Moved (⇑s::[I]) (λa b=>b=a) { s with heap:=(s.heap.push (zP w)).push itO } s'->s'.heap.get? ⇑s=some o'->SetK knd o' es' ep' t' (zV ks) ->
      (∃ h' tk o es ep t,s'={ s with heap:=h',toks:=tk }/\h'.get? ⇑s=some o/\SetK knd o es ep t (zV ks)/\(∀ b o,b<⇑s->s.heap.get? b=some o->h'.get? b=some o)):=by
     intro I hI P' s' o' es' ep' t' itO hm ho' hS';let⟨h',g',d',tk',os'⟩:=s';let eg:g'=s.gens:=hm.gens;let ed:d'=s.drawn:=hm.drawn;let eo:os'=s.os:=hm.os;subst eg;subst ed;subst eo;refine ⟨h',tk',o',es',ep',t',rfl,ho',hS',λb o hb e=>?_⟩;let hb1:b≠⇑s:=AY hb;let hb2:b≠I:=by rw[hI,BR];exact AY (Ce hb)
     exact hm.heap b o (by simp only[AL,AW,Cj,or_false,not_or];calc ⟨hb1,hb2⟩) (AH _ (AH _ e))
    let go:∀ (d:K) (St:Nat->Heap->Prop) (itO:Obj) (W:Walks prog w A.in1.in1.in1 (s.heap.push (zP w)).objs.size [(s.heap.push (zP w)).objs.size,l] [(s.heap.push (zP w)).objs.size] items.size (λi v=>items[i]?=some v) St),St 0 ((s.heap.push (zP w)).push itO) ->
      ∀ {R':Yx},(∀ s',(∃ h' tk o es ep t,s'={ s with heap:=h',toks:=tk }/\h'.get? ⇑s=some o/\SetK knd o es ep t (zV ks)/\(∀ b o,b<⇑s->s.heap.get? b=some o->h'.get? b=some o))->R' (.ok (.ret .none)) s') ->
      codeAny (model prog w) A.in1.in1 (.builtin "set.update.loop" ⟨[.ref ⇑s,.ref (s.heap.push (zP w)).objs.size],[]⟩) R' { s with heap:=(s.heap.push (zP w)).push itO }:=by
     intro d St itO W st R' hR;refine RE W.toS ⇑s hSf (λi=>ks.getD i d) (hval d) (by rw[hlen,N7];calc hb) (items.size-0) 0 _ (zP w) _ _ _ () (Bh _) st (AH _ hS) .fresh λs' o' es' ep' t' hm ho' hS'=>?_;refine hR s' (fin _ rfl (λ_ _=>True) s' o' es' ep' t' itO hm ho' ?_);rw[hlen,N7]at hS';exact hS'
    rcases hty with rfl|rfl
    .have hsls:=F.sub_list_set;let hslf:=F.sub_list_frozenset;let hne:(Value.type "list" == Value.type "dict")=false:=()
     let hl1:(s.heap.push (zP w)).IsList l items:=⟨_,hol',rfl,nl,rfl⟩;unfold Builtin.«set.__init__» noKeywords Builtin.Frozenset.updateFrom;generalize hPI:pyIter=PI;wp_walk;subst hPI;calc wpAny_pyIter_list hl1 ?_;calc AA (wpAny_runValue ?_);refine go default _ _ (Walks.list hh3 _ l hneI items) ⟨⟨_,AN _ rfl,rfl,rfl⟩,(hl1.push _)⟩ λs' q=>?_;calc AB ?_;exact AB ⟨rfl,q⟩
    .have hsls:=Wa;let hslf:=Sh;let hne:(Value.type "tuple" == Value.type "dict")=false:=()
     let hl1:(s.heap.push (zP w)).IsTuple l items:=⟨_,hol',rfl,nl,rfl⟩;unfold Builtin.«set.__init__» noKeywords Builtin.Frozenset.updateFrom;generalize hPI:pyIter=PI;wp_walk;subst hPI;calc wpAny_pyIter_tuple hl1 ?_;calc AA (wpAny_runValue ?_);refine go default _ _ (Walks.tuple hh3 _ l hneI items) ⟨⟨_,AN _ rfl,rfl,rfl⟩,(hl1.push _)⟩ λs' q=>?_;calc AB ?_;exact AB ⟨rfl,q⟩
   .cases r₂ with
    |error e=>calc hr₂
    |ok fl₂=>
     cases fl₂ with
     |ret r=>
      let⟨rfl,h',tk,o,es,ep,t,rfl,ho',hS',hk'⟩:=hr₂;repeat (any_goals (first|assumption|wp_step))
      calc h _ _ _ _ _ _ ho' hS' hk'
     |_=>calc hr₂.elim
  |_=>calc hr.elim
end
def zX (ks:Ye):List Int:=ks.mergeSort λa b=>decide (a<=b)
def zo (ks:Ye):(zX ks).Perm ks:=List.mergeSort_perm _ _
def E4 (ks:Ye):(zX ks).Pairwise (· <= ·):=by
 have:=List.pairwise_mergeSort (le:=λ(a b:Int)=>decide (a<=b)) (λa b c h1 h2=>by simp at h1 h2 ⊢;omega) (λa b=>by simp;omega) ks;calc this.imp λh=>by simpa using h
theorem PV:∀ {xs ys:Ye},xs.Perm ys->xs.Pairwise (· <= ·)->ys.Pairwise (· <= ·)->xs=ys
 |[],ys,p,_,_=>by have:=p.length_eq;simp at this;rw[Ea.mp this.symm]
 |x::xs,[],p,_,_=>by have:=p.length_eq;simp at this
 |x::xs,y::ys,p,h1,h2=>by
  let hx:=Eb.mp h1;let hy:=Eb.mp h2;let e:x=y:=by
   let a:x∈y::ys:=p.mem_iff.mp Az;let b:y∈x::xs:=p.mem_iff.mpr Az;rcases AL.mp a with z|z
   .exact z
   .rcases AL.mp b with q|q
    .exact q.symm
    .exact Int.le_antisymm (hx.1 y q) (hy.1 x z)
  subst e;rw[PV (p.cons_inv) hx.2 hy.2]
def Nt (p:xs.Perm ys) (h:xs.Pairwise (· <= ·)):xs=zX ys:=PV (p.trans (zo ys).symm) h (E4 ys)
def J8
  (hc:wpAny (model prog w) A.in1 (collect v) (λvs s1=>∃ ns,IntsAre vs ns/\vs.length<64 /\ ∀ (h':Heap) (out:List Value) (n:Nat),(∀ b u,s1.heap.get? b=some u->h'.get? b=some u)->h'.get? ⇑s1=some (seqObj "list" out.toArray n)->IntsAre out (zX ns)->Q (.ref ⇑s1) { s1 with heap:=h' }) E s) :
  wpAny (model prog w) A (call (.builtin "sorted") [v]) Q E s:=by
 calc Calls.call_function_entry kind_sorted plain_sorted entry_sorted (args_sorted1 _) ?_;unfold Builtin.«sorted»;calc AA (AB ?_);refine AA (Aq hc (λvs s1 h1=>?_) λ_ _ h'=>h');let⟨ns,hI,h64,h⟩:=h1;calc AA (wpAny_newList ?_ (by rw[Cd];omega));let hoL:(s1.heap.push (seqObj "list" vs.toArray 0)).get? ⇑s1=some (seqObj "list" vs.toArray 0):=AN _ rfl;refine AA (Bl (A9 slot_list_sort ⟨_,hoL,rfl⟩ entry_list_sort (list_sort_tree hoL hI h64 λout ns' a1 a2 a3=>⟨_,rfl,?_⟩) (args_list_sort _)));calc AB ⟨_,rfl,?_⟩;let g1:=get?_update_seq hoL (λ_=> #[]);let g2:(((s1.heap.push (seqObj "list" vs.toArray 0)).update ⇑s1 (Obj.mapSeq λ_=> #[])).push (seqObj "tuple" vs.toArray 0)).get? ⇑s1=_:=AH _ g1;let g3:=AH (seqObj "list" #[] 0) g2;let g4:=get?_update_seq g3 (λ_=>out);let eS:=Nt a2 a3;subst eS;refine h _ out.toList _ (λb u e=>?_) (by rw[Array.toArray_toList];calc g4) a1;let hb:⇑s1≠b:=λz=>A7 _ (z▸AG e);calc (CG _ _ hb).trans (AH _ (AH _ ((CG _ _ hb).trans (AH _ e))))
def US (h:F2 (Jv (intKind prog w)) es ks):IntsAre (es.map (·.2)) ks:=by
 induction h with
 |nil=>calc .nil
 |cons h _ ih=>
  let⟨⟨h1,_⟩,_⟩:=h;let⟨t,e⟩:=Value.isInt_shape h1;rw[Ad,e];calc .cons _ _ ih
def Xn (p:us.Perm vs):∀ {ks:Ye},IntsAre vs ks -> ∃ ks',ks'.Perm ks/\IntsAre us ks':=by
 let p':=p.symm;clear p;induction p' with
 |nil=>intro ks h;calc ⟨ks,.refl _,h⟩
 |cons x _ ih=>
  intro ks h;cases h with
  |cons n t r=>
   let⟨ys',q1,q2⟩:=ih r;calc ⟨_,q1.cons _,.cons _ _ q2⟩
 |swap x y l=>
  intro ks h;cases h with
  |cons n t r=>
   cases r with
   |cons n2 t2 r=>calc ⟨_,List.Perm.swap _ _ _,.cons _ _ (.cons _ _ r)⟩
 |trans _ _ ih1 ih2=>
  intro ks h;let⟨ys',q1,q2⟩:=ih1 h;let⟨ys'',r1,r2⟩:=ih2 q2;calc ⟨ys'',r1.trans q1,r2⟩
def XE (p:xs.Perm ys):zX xs=zX ys:=Nt ((zo xs).trans p) (E4 xs)
def P9 (hh:A.handled=none) (ho:s.heap.get? a=some o) (hS:SetK (intKind prog w) o es ep t ks) (h64:ks.length<64)
  (h:∀ (s1:Shared) (h':Heap) (out:List Value) (n:Nat),(∀ b u,s.heap.get? b=some u->s1.heap.get? b=some u)->s1.os=s.os->s1.gens=s.gens->(∀ b u,s1.heap.get? b=some u->h'.get? b=some u)->h'.get? ⇑s1=some (seqObj "list" out.toArray n)->IntsAre out (zX ks)->Q (.ref ⇑s1) { s1 with heap:=h' }) :
  wpAny (model prog w) A (call (.builtin "sorted") [.ref a]) Q E s:=by
 refine J8 (collect_set hh ho hS λs' acc k1 k2 k3 hp=>?_);let⟨ks',p,f⟩:=hS.ent;let⟨ks2,p2,f2⟩:=Xn hp (US f);refine ⟨ks2,f2,?_,λh' out n e1 e2 e3=>?_⟩
 .rw[hp.length_eq,AI,AU,hS.size];exact h64
 .rw[XE (p2.trans p)]at e3;calc h s' h' out n k1 k2 k3 e1 e2 e3
def MB (hty:ty = "list" \/ ty = "tuple") (hl:∃ ol,s.heap.get? l=some ol/\ol.cls=.type ty /\ ∃ nl,ol.data=.seq vs.toArray nl)
  (h:Q vs { s with heap:=(s.heap.push (seqObj "list" #[] 0)).update ⇑s (Obj.mapSeq (· ++ vs.toArray)) }) (hsz:vs.length<=sizeLine) :
  wpAny (model prog w) A (collect (.ref l)) Q E s:=by
 let⟨o,ho,hc,n,hd⟩:=id hl;erw[collect];calc AA (wpAny_runValue (C2 entry_proto_collect' ?_));calc AA (wpAny_newList (AB ⟨Code.quiet_builtin _ (by decide+kernel),C2 entry_list_iadd' ?_⟩));show wpAny _ _ (Builtin.List.listExtendWith (.ref ⇑s) (.ref l) (.ref ⇑s)) _ _ { s with heap:=s.heap.push (seqObj "list" #[] 0) };erw[Builtin.List.listExtendWith];let ho':(s.heap.push (seqObj "list" #[] 0)).get? l=some o:=AH _ ho;calc AA (wpAny_typeOf ⟨o,ho',hc⟩ ?_);let ht:(Value.type ty==Value.type "list" || Value.type ty==Value.type "tuple")=true:=by rcases hty with rfl|rfl <;> decide
 rw[AD (by rw[Bool.or_assoc,ht];simp)];calc AA (listItems_at ho' hd ?_);calc AA (listItems_at (AN _ rfl) rfl ?_);rw[AE (by simp)];calc AA (listUpdate_at (AN _ rfl) rfl ?_ (Bh _) (by show (#[]++vs.toArray).size<=sizeLine+1;simp only[Array.size_append,AS,Bq];omega));refine AB ?_
 show wpAny (model prog w) A (do
   let o <- load ⇑s;match o.data with
   |.seq xs _=>pure xs.toList
   |_=>unsupported "internal:collect") Q E { s with heap:=(s.heap.push (seqObj "list" #[] 0)).update ⇑s (Obj.mapSeq (· ++ vs.toArray)) }
 calc AA (wpAny_load (get?_update_seq (AN _ rfl) _) ?_);show wpAny _ _ (pure ((#[]:Array Value)++vs.toArray).toList) Q E _;rw[show ((#[]:Array Value)++vs.toArray).toList=vs by simp];calc AB h
def XF (hty:ty = "list" \/ ty = "tuple") (hl:∃ ol,s.heap.get? l=some ol/\ol.cls=.type ty /\ ∃ nl,ol.data=.seq vs.toArray nl) (hI:IntsAre vs ns) (h64:vs.length<64)
  (h:∀ (h1 h':Heap) (out:List Value) (n:Nat),(∀ b u,s.heap.get? b=some u->h1.get? b=some u)->(∀ b u,h1.get? b=some u->h'.get? b=some u)->h'.get? h1.objs.size=some (seqObj "list" out.toArray n)->IntsAre out (zX ns)->Q (.ref h1.objs.size) { s with heap:=h' }) :
  wpAny (model prog w) A (call (.builtin "sorted") [.ref l]) Q E s:=by
 refine J8 (MB hty hl ⟨ns,hI,h64,λh' out n e1 e2 e3=>h _ h' out n (λb u e=>?_) e1 e2 e3⟩ (by rw[Cd];omega));let hb:⇑s≠b:=λz=>A7 _ (z▸AG e);calc (CG _ _ hb).trans (AH _ e)
end ST
namespace L2
open ST
def Inv.kept' (I:Inv X zB Y H s) (k:∀ b u,s.heap.get? b=some u->s1.heap.get? b=some u) (ho:s1.os=s.os) (hg:s1.gens=s.gens):Inv X zB Y H s1 :=
 I.call' (ch:=[]) ho (Un.kept k) (I.hok.kept k) (by rw[hg];calc I.bare) λb hb=>nomatch hb
theorem Ij:∀ {ns:Ye} {us:Yf},IntsAre us ns->zU (ns.map V.int) us
 |_,_,.nil=> .nil
 |_,_,.cons n t h=> .cons ⟨t,rfl⟩ (Ij h)
theorem Kf:∀ {ns:Ye} {us:Yf},zU (ns.map V.int) us->IntsAre us ns
 |[],_,.nil=> .nil
 |n::ns,_,.cons r h=>by let⟨t,rfl⟩:=r;calc .cons n t (Kf h)
def LC (ks:Ye):(zX ks).length=ks.length:=(zo ks).length_eq
def Rt (hc:X.calm=true) (hg:Gl X "sorted") (hm:X.mg "sorted" = none) (ha:PZ X e t) (hs:starEach [e] X.env=(false,eval e X.env)::starEach [] X.env:=by rfl) (hpl:(backTo pos (starEach [] X.env)).any (·.1)=false:=by rfl) :
  PE X (.Call (.Name "sorted" p) [e] [] pos) (λY H Q=>t Y H λks H1=>ks.length<64 /\ ∀ q,H1 q=none->Q (.ref q) (upd H1 q (.lst ((zX ks).map V.int)))):=by
 intro zB s Y H Q I h;calc wpAny_Call_Name_kw (D5 I hg hm (by rfl) ?_ () ());calc callWith_builtin1 ?_ hs hpl;rw[hs];refine Calls.spliced_cons (thn (ha zB s Y H _ I h) λu s1 ⟨a,o,es,ep,tb,ks,H1,hv,ho,hS,I1,h64,q⟩=>Calls.spliced_nil ?_);subst hv;refine P9 (I1.ok.hd hc) ho hS h64 λs2 h' out n k1 k2 k3 k4 e4 i4=>?_;let I2:Inv X zB Y H1 s2:=I1.kept' k1 k2 k3;let hf:H1 ⇑s2=none:=I2.hok.fresh (AF _);calc ⟨.ref ⇑s2,upd H1 ⇑s2 (.lst ((zX ks).map V.int)),I2.laid k4 (AF _) ⟨by rw[AI,LC,Cd];omega,out,n,Ij i4,e4⟩,rfl,q _ hf⟩
def Y6:Cp X (.builtin "sorted") (λxs H Q=>∃ a ns,xs=[.ref a]/\(SqL X.K H a (ns.map V.int)\/SqT X.K H a (ns.map V.int))/\ns.length<64 /\ ∀ q,H q=none->Q (.ref q) (upd H q (.lst ((zX ns).map V.int)))):=by
 intro zB s Y H xs us Q I r h;let⟨a,ns,rfl,hq,h64,q⟩:=h;obtain ⟨u,rfl,rfl⟩:∃ u,us=[u]/\u=.ref a:=by
  cases r with
  |cons r1 r2=>ext r2;exact ⟨_,rfl,r1⟩
 let key:∃ (ty:String) (its:List Value),(ty = "list" \/ ty = "tuple")/\(∃ ol,s.heap.get? a=some ol/\ol.cls=.type ty /\ ∃ nl,ol.data=.seq its.toArray nl)/\zU (ns.map V.int) its:=by
  rcases hq with hq|hq
  .obtain ⟨its,rv,⟨ol,nl,e1,e2,_,e3⟩,_⟩:=I.list hq;exact ⟨"list", its,.inl rfl,⟨ol,e1,e2,nl,e3⟩,rv⟩
  .obtain ⟨its,rv,⟨ol,e1,e2,nl,e3⟩,_⟩:=I.tuple hq;exact ⟨"tuple", its,.inr rfl,⟨ol,e1,e2,nl,e3⟩,rv⟩
 let⟨ty,its,hty,hl,rv⟩:=key;refine XF hty hl (Kf rv) (by rw[<-rv.length,AI];calc h64) λh1 h' out n k1 k4 e4 i4=>?_;let I2:Inv X zB Y H { s with heap:=h1 }:=I.kept k1;let hf:H h1.objs.size=none:=I2.hok.fresh (AF _);calc ⟨.ref h1.objs.size,upd H h1.objs.size (.lst ((zX ns).map V.int)),I2.laid k4 (AF _) ⟨by rw[AI,LC,Cd];omega,out,n,Ij i4,e4⟩,rfl,q _ hf⟩
def VC (hc:X.calm=true) (hg:Gl X "set") (hm:X.mg "set" = none) (ha:PE X e te) (hs:starEach [e] X.env=(false,eval e X.env)::starEach [] X.env:=by rfl) (hpl:(backTo pos (starEach [] X.env)).any (·.1)=false:=by rfl) :
  PZ X (.Call (.Name "set" p) [e] [] pos) (λY H Q=>te Y H λx H1=>∃ a ns,x=.ref a/\(SqL X.K H1 a (ns.map V.int)\/SqT X.K H1 a (ns.map V.int))/\(zV ns).length+1<scanBound/\Q (zV ns) H1):=by
 intro zB s Y H Q I h;refine wpAny_Call_Name_kw (D5 I hg hm (by rfl) ?_ () ());refine callWith_type1 ?_ hs hpl;rw[hs];refine Calls.spliced_cons (thn (ha zB s Y H _ I h) λu s1 ⟨x,H1,I1,r1,a,ns,hx,hq,hb,q⟩=>Calls.spliced_nil ?_);subst hx;ext r1;let key:∃ (ty:String) (its:List Value),(ty = "list" \/ ty = "tuple")/\(∃ ol,s1.heap.get? a=some ol/\ol.cls=.type ty /\ ∃ nl,ol.data=.seq its.toArray nl)/\zU (ns.map V.int) its:=by
  rcases hq with hq|hq
  .obtain ⟨its,rv,⟨ol,nl,e1,e2,_,e3⟩,_⟩:=I1.list hq;exact ⟨"list", its,.inl rfl,⟨ol,e1,e2,nl,e3⟩,rv⟩
  .obtain ⟨its,rv,⟨ol,e1,e2,nl,e3⟩,_⟩:=I1.tuple hq;exact ⟨"tuple", its,.inr rfl,⟨ol,e1,e2,nl,e3⟩,rv⟩
 let⟨ty,its,hty,hl,rv⟩:=key;let hi:F2 (λv k=>(intKind X.prog X.w).is k v=true/\v.scannable=true) its.toArray.toList ns:=by
  rw[List.toList_toArray];have:=Kf rv;clear rv hq q hb hl;induction this with
  |nil=>calc .nil
  |cons n t _ ih=>exact .cons ⟨intKind_is _ _ _ _,rfl⟩ ih
 refine T7 hty (I1.ok.hd hc) hl hi hb λh' tk o es ep t ho hS k=>?_;let I2:Inv X zB Y H1 { s1 with heap:=h',toks:=tk }:=I1.kept λb u e=>k b u (AG e) e;calc ⟨_,o,es,ep,t,_,H1,rfl,ho,hS,I2,q⟩
end L2
namespace L3
open L2 ST
abbrev FZ:=Sd->Mem->Option (List Int × Mem)
def trZ (K:Yb) (f:FZ):TZ:=λτ H Q=>∃ L Y M ks M',Cor K L M H/\AX L H Y τ/\f Y M=some (ks,M') /\ ∀ L' H',Stp L H L' H'->Cor K L' M' H'->Q ks H'
structure QZ (X:Cx) (e:Expr) (f:FZ):Prop where
 un:PZ X e (trZ X.K f)
def PZ.imp (h:PZ X e t) (hi:∀ τ H Q,t' τ H Q->t τ H Q):PZ X e t':=λzB s Y H Q I q=>h zB s Y H Q I (hi _ _ _ q)
section
variable {X:Cx} {scope:Y0} {tg elt iter:Expr} {ifs:Yi} {pos p:Pos} {own:Yj} {e:Expr} {f:FE}
def FK (f:FE):FZ:=λY M=>match f Y M with
 |some (x,M1)=>match zu M1 x with
  |some ds=>match CA ds with
   |some ks=>if (zV ks).length+1<scanBound then some (zV ks,M1) else none
   |none=>none
  |none=>none
 |none=>none
def TJ (hc:X.calm=true) (hg:Gl X "set") (hm:X.mg "set" = none) (h:QE X e f) (hs:starEach [e] X.env=(false,eval e X.env)::starEach [] X.env:=by rfl) (hpl:(backTo pos (starEach [] X.env)).any (·.1)=false:=by rfl) :
  QZ X (.Call (.Name "set" p) [e] [] pos) (FK f):=.mk <| PZ.imp (VC hc hg hm h.un hs hpl) λτ H Q zz=>by
 let⟨L,Y,M,d,M',c,rs,hf,q⟩:=zz;erw[FK]at hf;cbv at hf
 .rename_i x M1 e1;cbv at hf
  .rename_i ds e2;cbv at hf
   .rename_i ks e3;cbv at hf
    .rename_i hb;ext hf;refine (mkE c rs e1 (λL1 H1 v s1 c1 r1=>?_));let⟨a,vs,rfl,hsq,r⟩:=FV c1 r1 e2;have:=G6 e3 r;subst this;exact ⟨a,ks,rfl,hsq,hb,q L1 H1 s1 c1⟩
    .cases hf
   .cases hf
  .cases hf
 .cases hf
def Fz (f:FZ):FE:=λY M=>match f Y M with
 |some (ks,M1)=>if ks.length<64 then some (.fl ((zX ks).map D.int),M1) else none
 |none=>none
theorem Ip:∀ (ns:Ye),zG L H (ns.map D.int) (ns.map V.int)
 |[]=> .nil
 |n::ns=> .cons C7 (Ip ns)
def T9 (hc:X.calm=true) (hg:Gl X "sorted") (hm:X.mg "sorted" = none) (h:QZ X e fz) (hs:starEach [e] X.env=(false,eval e X.env)::starEach [] X.env:=by rfl) (hpl:(backTo pos (starEach [] X.env)).any (·.1)=false:=by rfl) :
  QE X (.Call (.Name "sorted" p) [e] [] pos) (Fz fz):=.mk <| PE.imp (Rt hc hg hm h.un hs hpl) λτ H Q zz=>by
 let⟨L,Y,M,d,M',c,rs,hf,q⟩:=zz;erw[Fz]at hf;cbv at hf
 .rename_i ks M1 e1;cbv at hf
  .rename_i hb;ext hf;refine ⟨L,Y,M,_,_,c,rs,e1,λL1 H1 s1 c1=>⟨hb,λp hp=>?_⟩⟩;exact q L1 _ _ (s1.trans (.upd hp)) (c1.upd hp) (zR.newLst s1 c c1 hp (Ip _))
  .cases hf
 .cases hf
def DD:KB:=λxs M=>match xs with
 |[x]=>match zu M x with
  |some ds=>match CA ds with
   |some ks=>if ks.length<64 then some (.fl ((zX ks).map D.int),M) else none
   |none=>none
  |none=>none
 |_=>none
def zR.newLst' {L:Yg} {H:Hp} {K:Yb} {M:List MO} {p:Yt} {ds:List D} {vs:List V} (c:Cor K L M H) (hp:H p=none) (r:zG L H ds vs):zR H L (upd H p (.lst vs)) (.fl ds) (.ref p):=zR.newLst (.refl L H) c c hp r
def Q7:DL X.K (λxs H Q=>∃ a ns,xs=[.ref a]/\(SqL X.K H a (ns.map V.int)\/SqT X.K H a (ns.map V.int))/\ns.length<64 /\ ∀ q,H q=none->Q (.ref q) (upd H q (.lst ((zX ns).map V.int)))) DD:=by
 intro L M M' H H0 xs d vs Q c r hk q;erw[DD]at hk;cbv at hk
 .rename_i x;cbv at hk
  .rename_i ys e1;cbv at hk
   .rename_i ks e2;cbv at hk
    .rename_i hb;ext hk;let⟨v,rfl,r1⟩:=r.one;let⟨a,ws,rfl,hs,r2⟩:=FV c r1 e1;have:=G6 e2 r2;subst this;exact ⟨a,ks,rfl,hs,hb,λp hp=>q L _ _ (.upd hp) (c.upd hp) (zR.newLst' c hp (Ip _))⟩
    .cases hk
   .cases hk
  .cases hk
 .cases hk
def T6 (hg:Gl X "sorted") (hm:X.mg "sorted" = none) (ha:QAE X [e] fa) (he:starEach [e] X.env=(false,eval e X.env)::starEach [] X.env:=by rfl) (hpl:(backTo pos (starEach [] X.env)).any (·.1)=false:=by rfl):QE X (.Call (.Name "sorted" p) [e] [] pos) (fB DD fa) :=
 Es Q7 Y6 (by rfl) hg hm ha () () he hpl
end
open AutoSeq1 (wpAny_loadPart')
section
variable {κ:Type} [DecidableEq κ]
def Cc (kf:D->Option κ) (kvs:List (D × D)) (k:κ):Option D:=(kvs.find? λp=>decide (kf p.1=some k)).map (·.2)
def Ej (kf:D->Option κ) (kvs:List (D × D)) (k:κ) (kd v:D):List (D × D) :=
 if (kvs.any λp=>decide (kf p.1=some k))=true then kvs.map λp=>if kf p.1=some k then (p.1,v) else p else kvs++[(kd,v)]
theorem Gk (k:κ):∀ {kvs:List (D × D)} {vs:List (κ × V)},AR kf L H kvs vs->(Cc kf kvs k=none/\Bk vs k=none) \/ ∃ d v,Cc kf kvs k=some d/\Bk vs k=some v/\Rep L H d v
 |[],vs,h=>by erw[AR]at h;subst h;calc .inl ⟨rfl,rfl⟩
 |p::r,vs,h=>by
  let⟨k',v,r',rfl,e,h1,h2⟩:=h;by_cases q:k'=k
  .subst q;exact .inr ⟨p.2,v,by erw[Cc];rw[Dr,e];simp,by rw[IX rfl],h1⟩
  .have e1:Cc kf (p::r) k=Cc kf r k:=by erw[Cc];rw[Dr,e];simp[q]
   rw[e1,Hc q];calc Gk k h2
theorem PJ (k:κ):∀ {kvs:List (D × D)} {vs:List (κ × V)},AR kf L H kvs vs->(kvs.any λp=>decide (kf p.1=some k))=(vs.any λkv=>decide (kv.1=k))
 |[],vs,h=>by erw[AR]at h;subst h;rfl
 |p::r,vs,h=>by
  let⟨k',v,r',rfl,e,h1,h2⟩:=h;rw[List.any_cons,List.any_cons,PJ k h2,e];simp
theorem LU (k:κ) (hd:Rep L H d u):∀ {kvs:List (D × D)} {vs:List (κ × V)},AR kf L H kvs vs->AR kf L H (kvs.map λp=>if kf p.1=some k then (p.1,d) else p) (vs.map λkv=>if kv.1=k then (kv.1,u) else kv)
 |[],vs,h=>by erw[AR]at h;subst h;rfl
 |p::r,vs,h=>by
  let⟨k',v,r',rfl,e,h1,h2⟩:=h;rw[Ad,Ad];by_cases q:k'=k
  .subst q;rw[AD e,AD rfl];exact ⟨k',u,_,rfl,e,hd,LU k' hd h2⟩
  .rw[AE (by rw[e];simpa using q),AE q];calc ⟨k',v,_,rfl,e,h1,LU k hd h2⟩
theorem Lg (hk:kf kd=some k) (hd:Rep L H d u):∀ {kvs:List (D × D)} {vs:List (κ × V)},AR kf L H kvs vs->AR kf L H (kvs++[(kd,d)]) (vs++[(k,u)])
 |[],vs,h=>by erw[AR]at h;subst h;calc ⟨k,u,[],rfl,hk,hd,rfl⟩
 |p::r,vs,h=>by
  let⟨k',v,r',rfl,e,h1,h2⟩:=h;calc ⟨k',v,_,rfl,e,h1,Lg hk hd h2⟩
def OX {kf:D->Option κ} {L:Yg} {H:Hp} {k:κ} {kd d:D} {u:V} (hk:kf kd=some k) (hd:Rep L H d u) {kvs:List (D × D)} {vs:List (κ × V)} (h:AR kf L H kvs vs):AR kf L H (Ej kf kvs k kd d) (BV vs k u):=by
 erw[Ej,BV];rw[PJ k h];split
 .exact LU k hd h
 .exact Lg hk hd h
end
theorem Li:∀ {ds:List D} {vs:List V} {ks:List Key},zG L H ds vs->DS ds=some ks->vs=ks.map kV
 |[],vs,ks,h,e=>by ext e;erw[zG]at h;calc h
 |d::ds,vs,ks,h,e=>by
  erw[zG]at h;let⟨v,r,rfl,h1,h2⟩:=h;erw[DS]at e;cases e1:Ak d with
  |none=>rw[e1]at e;ext e
  |some k=>
   cases e2:DS ds with
   |none=>rw[e1,e2]at e;ext e
   |some ks'=>
    rw[e1,e2]at e;ext e;rw[HR h1 e1,Li h2 e2];rfl
def JA (h:Rep L H d v) (e:tkD d=some ks):∃ b,v=.ref b/\H b=some (.tup (ks.map kV)):=by
 cases d with
 |tup ds=>
  erw[Rep]at h;let⟨a,vs,rfl,e1,r⟩:=h;calc ⟨a,rfl,by rw[e1,Li r e]⟩
 |_=>ext e
def EB (M:Mem) (x:EV) (k:D):Option (Option D):=match x with
 |.dat (.ref n)=>match M[n]? with
  |some (.dict kvs)=>match Ak k with
   |some kk=>some (Cc Ak kvs kk)
   |none=>none
  |some (.dicT kvs)=>match tkD k with
   |some kk=>some (Cc tkD kvs kk)
   |none=>none
  |some (.froK kvs)=>match Ak k with
   |some kk=>some (Cc Ak kvs kk)
   |none=>none
  |some (.froT kvs)=>match tkD k with
   |some kk=>some (Cc tkD kvs kk)
   |none=>none
  |_=>none
 |_=>none
def Oh (L:Yg) (H:Hp):Option D->Option V->Prop
 |none,o=>o=none
 |some d,o=>∃ v,o=some v/\Rep L H d v
def NV {K:Yb} {L:Yg} {M:Mem} {H H0:Hp} {x:EV} {v w:V} {k:D} {o:Option D} (c:Cor K L M H) (rx:zR H0 L H x v) (rk:Rep L H k w) (e:EB M x k=some o):∃ a ov,v=.ref a/\CZ H a w ov/\Oh L H o ov:=by
 cases x with
 |fl xs=>ext e
 |dat d=>
  cases d with
  |ref n=>
   erw[zR,Rep]at rx;let⟨a,rfl,ea⟩:=rx;erw[EB]at e;dsimp only at e;cases q:M[n]? with
   |none=>rw[q]at e;ext e
   |some m=>
    rw[q]at e;let z:=c.obj n a m ea q;cases m with
    |dict kvs=>
     dsimp only at e;cases e2:Ak k with
     |none=>rw[e2]at e;ext e
     |some kk=>
      rw[e2]at e;ext e;let⟨vs,e3,r⟩:=z;refine ⟨a,Bk vs kk,rfl,?_,?_⟩
      .rw[HR rk e2];exact CZ.k e3
      .rcases Gk kk r with ⟨h1,h2⟩|⟨d,v,h1,h2,h3⟩
       .rw[h1,h2];rfl
       .rw[h1,h2];calc ⟨v,rfl,h3⟩
    |dicT kvs=>
     dsimp only at e;cases e2:tkD k with
     |none=>rw[e2]at e;ext e
     |some kk=>
      rw[e2]at e;ext e;let⟨vs,e3,r⟩:=z;let⟨b,rfl,eb⟩:=JA rk e2;calc ⟨a,Bk vs kk,rfl,CZ.t e3 eb,?_⟩;rcases Gk kk r with ⟨h1,h2⟩|⟨d,v,h1,h2,h3⟩
      .rw[h1,h2];rfl
      .rw[h1,h2];calc ⟨v,rfl,h3⟩
    |froK kvs=>
     dsimp only at e;cases e2:Ak k with
     |none=>rw[e2]at e;ext e
     |some kk=>
      rw[e2]at e;ext e;let⟨ob,vs,e3,r⟩:=z;calc ⟨a,Bk vs kk,rfl,.inl ⟨vs,kk,.inr ⟨ob,e3⟩,HR rk e2,rfl⟩,?_⟩;rcases Gk kk r with ⟨h1,h2⟩|⟨d,v,h1,h2,h3⟩
      .rw[h1,h2];rfl
      .rw[h1,h2];calc ⟨v,rfl,h3⟩
    |froT kvs=>
     dsimp only at e;cases e2:tkD k with
     |none=>rw[e2]at e;ext e
     |some kk=>
      rw[e2]at e;ext e;let⟨ob,vs,e3,r⟩:=z;let⟨b,rfl,eb⟩:=JA rk e2;calc ⟨a,Bk vs kk,rfl,.inr ⟨vs,kk,b,.inr ⟨ob,e3⟩,rfl,eb,rfl⟩,?_⟩;rcases Gk kk r with ⟨h1,h2⟩|⟨d,v,h1,h2,h3⟩
      .rw[h1,h2];rfl
      .rw[h1,h2];calc ⟨v,rfl,h3⟩
    |_=>ext e
  |_=>ext e
def GS (M:Mem) (n:Nat) (k v:D):Option Mem:=match M[n]? with
 |some (.dict kvs)=>match Ak k with
  |some kk=>if kvs.length<sizeLine then some (M.set n (.dict (Ej Ak kvs kk k v))) else none
  |none=>none
 |some (.dicT kvs)=>match tkD k with
  |some kk=>if kvs.length<sizeLine then some (M.set n (.dicT (Ej tkD kvs kk k v))) else none
  |none=>none
 |_=>none
def W5 {K:Yb} {L:Yg} {M M':Mem} {H:Hp} {n:Nat} {a:Yt} {k v:D} {w u:V} (c:Cor K L M H) (ea:L[n]?=some a) (rk:Rep L H k w) (rv:Rep L H v u) (e:GS M n k v=some M'):∃ H',D3 H a w u H'/\Cor K L M' H'/\Stp L H L H':=by
 erw[GS]at e;cases q:M[n]? with
 |none=>rw[q]at e;ext e
 |some m=>
  rw[q]at e;let z:=c.obj n a m ea q;cases m with
  |dict kvs=>
   dsimp only at e;cases e2:Ak k with
   |none=>rw[e2]at e;ext e
   |some kk=>
    rw[e2]at e;dsimp only at e;cbv at e
    .rename_i hl;ext e;let⟨vs,e3,r⟩:=z;let⟨c3,s3⟩:=c.put (m:=.dict (Ej Ak kvs kk k v)) (o':=.dK (BV vs kk u)) ea e3 (λ_ z=>by ext z) (λ_ _ z=>by ext z) λs3=>⟨_,DI,(OX e2 rv r).stp s3⟩;calc ⟨_,?_,c3,s3⟩;rw[HR rk e2];exact D3.k e3 (by rw[r.length];calc hl)
    .cases e
  |dicT kvs=>
   dsimp only at e;cases e2:tkD k with
   |none=>rw[e2]at e;ext e
   |some kk=>
    rw[e2]at e;dsimp only at e;cbv at e
    .rename_i hl;ext e;let⟨vs,e3,r⟩:=z;let⟨b,rfl,eb⟩:=JA rk e2;let⟨c3,s3⟩:=c.put (m:=.dicT (Ej tkD kvs kk k v)) (o':=.dT (BV vs kk u)) ea e3 (λ_ z=>by ext z) (λ_ _ z=>by ext z) λs3=>⟨_,DI,(OX e2 rv r).stp s3⟩;exact ⟨_,D3.t e3 eb (by rw[r.length];calc hl),c3,s3⟩
    .cases e
  |_=>ext e
section
variable {X:Cx} {a b e o i value:Expr} {pos pos' apos cpos:Pos} {f g h:FE}
def Cw:K2:=λx y M=>match y with
 |.dat k=>match EB M x k with
  |some (some d)=>some (.dat d,M)
  |_=>none
 |_=>none
def Xb {K:Yb}:BP K (λx y H Q=>∃ a v,x=.ref a/\CZ H a y (some v)/\Q v H) Cw:=by
 intro L M M' H H0 x y d v w Q c rx ry hk q;erw[Cw]at hk;cbv at hk
 .rename_i k;cbv at hk
  .rename_i d' e1;ext hk;let⟨a,ov,rfl,h1,h2⟩:=NV c rx ry e1;let⟨u,rfl,r⟩:=h2;exact ⟨a,u,rfl,h1,q L H u (.refl L H) c r⟩
  .cases hk
 .cases hk
def Xr (hu:X.A.units+1<cLine) (h1:QE X o f) (h2:QE X i g) (hs:Jr i:=by intro _ _;rfl):QE X (.Subscript o i pos) (fOp Cw f g):=.mk <| PE.imp (Sx hu h1.un h2.un hs) λ_ _ _ h=>F7 Xb h
def E7 (neg:Bool):K2:=λx y M=>match x with
  |.dat k=>match EB M y k with
    |some o=>some (.dat (.bl (if neg then !o.isSome else o.isSome)),M)
    |none=>none
  |_=>none
def UM {o:Option D} {ov:Option V} (h:Oh L H o ov):ov.isSome=o.isSome:=by
  cases o with
  | none => have h' : ov = none := h
            rw[h'];rfl
  |some d=>let⟨v,rfl,_⟩:=h;rfl
def QG {K:Yb}:BP K (λy x H Q=>∃ a o,x=.ref a/\CZ H a y o/\Q (.bl (!o.isSome)) H) (E7 true):=by
 intro L M M' H H0 x y d v w Q c rx ry hk q;erw[E7]at hk;cbv at hk
 .rename_i k;cbv at hk
  .rename_i o e1;ext hk;let⟨a,ov,rfl,h1,h2⟩:=NV c ry rx e1;calc ⟨a,ov,rfl,h1,?_⟩;rw[UM h2];exact q L H _ (.refl L H) c (Cb (L:=L) (H:=H))
  .cases hk
 .cases hk
def RI (hu:X.A.units+1<cLine) (h1:QE X a f) (h2:QE X b g) (hm:behindInMarks .NotIn b=false:=by rfl):QT X (.Compare a [.NotIn] [b] pos) (tst (fOp (E7 true) f g)):=.mk <| PT.imp (RP (S7 hu h1.un h2.un) hm) λ_ _ _ h=>N5 (λ_ _ _ z=>F7 QG z) (Kj h)
def GI (fv fo fi:FE):FS:=λY M=>match toD fv Y M with
 |some (v,M1)=>match toD fo Y M1 with
  |some (.ref n,M2)=>match toD fi Y M2 with
   |some (k,M3)=>match GS M3 n k v with
    |some M4=>some (.nx,Y,M4)
    |none=>none
   |none=>none
  |_=>none
 |none=>none
def Q0 (hu:X.A.units+1<cLine) (hv:QE X value f) (ho:QE X o g) (hi:QE X i h) (hs:swapsWith value (some (.Subscript o i pos')) pos.line X.env=pure false:=by rfl):QS X (.Assign [.Subscript o i pos'] value pos) (GI f g h) :=
 .mk <| PS.imp (VI hu (CP ho).un (CP hi).un (CP hv).un hs) λE τ H zz=>by
  let⟨L,Y,M,out,Y',M',c,rs,hf,q⟩:=zz;erw[GI]at hf;cbv at hf
  .rename_i v M1 e1;cbv at hf
   .rename_i n M2 e2;cbv at hf
    .rename_i k M3 e3;cbv at hf
     .rename_i M4 e4;ext hf;refine (mkD c rs e1 (λL1 H1 u s1 c1 r1=>(mkD c1 (rs.stp s1) e2 (λL2 H2 y s2 c2 r2=>(mkD c2 ((rs.stp s1).stp s2) e3 (λL3 H3 z s3 c3 r3=>?_))))));erw[Rep]at r2;let⟨a,rfl,ea⟩:=r2;let ea3:L3[n]?=some a:=by let⟨N,hN⟩:=s3.pre;rw[hN];exact HN ea
      let⟨H4,h1,h2,h3⟩:=W5 c3 ea3 r3 ((r1.stp s2).stp s3) e4;exact ⟨a,H4,rfl,h1,q L3 H4 (((s1.trans s2).trans s3).trans h3) h2 τ ((((rs.stp s1).stp s2).stp s3).stp h3)⟩
     .cases hf
    .cases hf
   .cases hf
  .cases hf
end
def zZ:Nat->D->Bool
 |0,.int _=>true
 |n+1,.tup ds=>ds.all (zZ n)
 |_,_=>false
def AV:Nat->D->D->Bool
 |0,.int i,.int j=>decide (i=j)
 |n+1,.tup xs,.tup ys=>xs.length==ys.length&&(xs.zip ys).all λq=>AV n q.1 q.2
 |_,_,_=>false
theorem Iw:∀ (n:Nat) (x:D),zZ n x=true->AV n x x=true
 |0,.int i,_=>by simp[AV]
 |n+1,.tup xs,h=>by
  erw[zZ]at h;erw[AV];rw[Aj]at h;simp only[beq_self_eq_true,Bool.true_and];rw[Aj];intro q hq;have:q.1=q.2:=by
   let⟨i,hi,e⟩:=Bo hq;rw[List.getElem_zip]at e;rw[<-e]
  rw[<-this];calc Iw n _ (h q.1 (List.of_mem_zip hq).1)
 |0,.non,h=>by ext h
 |0,.bl _,h=>by ext h
 |0,.str _,h=>by ext h
 |0,.tup _,h=>by ext h
 |0,.ref _,h=>by ext h
 |n+1,.non,h=>by ext h
 |n+1,.bl _,h=>by ext h
 |n+1,.int _,h=>by ext h
 |n+1,.str _,h=>by ext h
 |n+1,.ref _,h=>by ext h
def Mb:∀ (n:Nat) (x y:D),zZ n x=true->zZ n y=true->AV n x y=true->x=y:=by
 intro n;induction n with
 |zero=>
  intro x y hx hy h;cases x <;> first|cases hx|skip
  cases y <;> first|cases hy|skip
  erw[AV]at h;rw[By h]
 |succ n ih=>
  intro x y hx hy h;cases x <;> first|cases hx|skip
  cases y <;> first|cases hy|skip
  rename_i xs ys;unfold zZ at hx hy;erw[AV]at h;rw[Aj]at hx hy;rw[A8,beq_iff_eq,Aj]at h;congr 1;apply List.ext_getElem h.1;intro i h1 h2;refine ih _ _ (hx _ (Au h1)) (hy _ (Au h2)) ?_;exact h.2 (xs[i],ys[i]) (by
   let hz:i<(xs.zip ys).length:=by rw[List.length_zip];omega
   have:=Au hz;rw[List.getElem_zip]at this;calc this)
def Pa:∀ (n:Nat) (x y:D) (v:V),zZ n x=true->zZ n y=true->Rep L H x v->Rep L H y v->x=y:=by
 intro n;induction n with
 |zero=>
  intro x y v hx hy rx ry;cases x <;> first|cases hx|skip
  cases y <;> first|cases hy|skip
  unfold Rep at rx ry;rw[rx]at ry;ext ry;rfl
 |succ n ih=>
  intro x y v hx hy rx ry;cases x <;> first|cases hx|skip
  cases y <;> first|cases hy|skip
  rename_i xs ys;unfold zZ at hx hy;rw[Aj]at hx hy;unfold Rep at rx ry;let⟨a,vs,rfl,e,r⟩:=rx;let⟨a',vs',e1,e2,r'⟩:=ry;ext e1;rw[e]at e2;ext e2;congr 1;let hl:xs.length=ys.length:=by rw[<-r.length,r'.length]
  apply List.ext_getElem hl;intro i h1 h2;let⟨u,hu,ru⟩:=r.get (AJ h1);let⟨u',hu',ru'⟩:=r'.get (AJ h2);rw[hu]at hu';ext hu';calc ih _ _ u (hx _ (Au h1)) (hy _ (Au h2)) ru ru'
def Gf {xs ys:List D} (f:D->D->Bool) (h:xs.length=ys.length):((List.range xs.length).all λj=>f (xs.getD j .non) (ys.getD j .non))=(xs.zip ys).all λq=>f q.1 q.2:=by
  rw[DC,Aj,Aj];constructor
  . intro hh q hq
    let⟨i,hi,e⟩:=Bo hq;rw[List.getElem_zip]at e;rw[List.length_zip]at hi;have:=hh i (by simp;omega);rw[<-e];simpa [BB,show i<xs.length by omega,show i<ys.length by omega] using this
  . intro hh i hi
    let h1:i<xs.length:=by simpa using hi
    let h2:i<ys.length:=()
    let hz:i<(xs.zip ys).length:=by rw[List.length_zip];omega
    have:=hh (xs.zip ys)[i] (Au hz);rw[List.getElem_zip]at this;simpa [BB,h1,h2] using this
def M0 (I : Inv X zB Y H s) : ∀ (n : Nat) (A : Around) (x y : D) (v w : V) (u u' : Value), A.units + n < cLine -> zZ n x = true -> zZ n y = true -> Rep L H x v -> Rep L H y w -> za v u -> za w u' -> SeqAt.EqAt A s u u' (AV n x y) := by
  intro n;induction n with
  |zero=>
    intro A x y v w u u' hu hx hy rx ry ru ru';cases x <;> first|cases hx|skip
    cases y <;> first|cases hy|skip
    unfold Rep at rx ry;subst rx;subst ry;let⟨t,rfl⟩:=ru;let⟨t',rfl⟩:=ru';have:=SeqAt.EqAt.int_int (A:=A) (s:=s) ‹Int› t ‹Int› t';erw[AV];rename_i i j;let h:=SeqAt.EqAt.int_int (A:=A) (s:=s) i t j t';let e:(i==j)=decide (i=j):=by by_cases q:i=j <;> simp[q]
    rw[e]at h;calc h
  | succ n ih =>
    intro A x y v w u u' hu hx hy rx ry ru ru';cases x <;> first|cases hx|skip
    cases y <;> first|cases hy|skip
    rename_i xs ys;let hx':=hx;let hy':=hy;let rx':=rx;let ry':=ry;unfold zZ at hx hy;rw[Aj]at hx hy;unfold Rep at rx ry;let⟨a,vs,rfl,e,r⟩:=rx;let⟨b,ws,rfl,e2,r2⟩:=ry;ext ru;ext ru';by_cases hab:a=b
    . subst hab
      have:=Pa (n+1) _ _ _ hx' hy' rx' ry';rw[this,Iw (n+1) _ hy'];exact SeqAt.EqAt.same _
    · refine SeqAt.EqAt.of_refs hab ?_
      let⟨its,rv,p1,_⟩:=I.tuple (.of e);let⟨its2,rv2,p2,_⟩:=I.tuple (.of e2);let l1:its.toArray.size=xs.length:=by rw[AS,<-rv.length,r.length]
      let l2:its2.toArray.size=ys.length:=by rw[AS,<-rv2.length,r2.length]
      have key := SeqAt.RcAt.tuples (A := A) (items := its.toArray) (items2 := its2.toArray) (e := fun j => AV n (xs.getD j .non) (ys.getD j .non)) p1 p2 (by omega) (fun j h1 h2 => by
        let j1:j<xs.length:=()
        let j2:j<ys.length:=()
        let⟨q1,g1,t1⟩:=r.get (AJ j1);let⟨q2,g2,t2⟩:=r2.get (AJ j2);let⟨o1,k1,m1⟩:=rv.get g1;let⟨o2,k2,m2⟩:=rv2.get g2
        have z1 : its.toArray[j] = o1 := by have : its.toArray[j]? = some o1 := by simpa using k1
                                            rw[BQ h1]at this;exact BG this
        have z2 : its2.toArray[j] = o2 := by have : its2.toArray[j]? = some o2 := by simpa using k2
                                             rw[BQ h2]at this;exact BG this
        rw[z1,z2];let w1:xs.getD j .non=xs[j]:=by simp[BB,j1]
        let w2:ys.getD j .non=ys[j]:=by simp[BB,j2]
        rw[w1,w2];calc ih A.in1 _ _ _ _ _ _ (by show A.units+1+n<cLine;omega) (hx _ (Au j1)) (hy _ (Au j2)) t1 t2 m1 m2)
      let fin:((List.range (min its.toArray.size its2.toArray.size)).all (λj=>AV n (xs.getD j .non) (ys.getD j .non))&&its.toArray.size==its2.toArray.size)=AV (n+1) (.tup xs) (.tup ys):=by
        rw[l1,l2];show _=(xs.length==ys.length&&(xs.zip ys).all λq=>AV n q.1 q.2);by_cases hl:xs.length=ys.length
        .rw[hl,Nat.min_self,<-hl,Gf (AV n) hl,Bool.and_comm]
        . have:(xs.length==ys.length)=false:=by simpa using hl
          rw[this];simp
      rw[fin]at key;calc key
def nb (neg b:Bool):Bool:=if neg then !b else b
def rTr (neg:Bool) (K:Yb) (n:Nat):R2:=λx y H Q=>∃ (L:Yg) (xs ys:List D),(xs.all (zZ n)=true/\ys.all (zZ n)=true) /\
 ((Rep L H (.tup xs) x/\Rep L H (.tup ys) y) \/ ∃ a b vs ws,x=.ref a/\y=.ref b/\SqL K H a vs/\SqL K H b ws/\zG L H xs vs/\zG L H ys ws)/\Q (.bl (nb neg (AV (n+1) (.tup xs) (.tup ys)))) H
def MN (I:Inv X zB Y H s) (hu:A.units+n<cLine) (hx:xs.all (zZ n)=true) (hy:ys.all (zZ n)=true) (r:zG L H xs vs) (r2:zG L H ys ws) (rv:zU vs its) (rv2:zU ws its2) (j:Nat) (h1:j<its.toArray.size) (h2:j<its2.toArray.size) :
  SeqAt.EqAt A s its.toArray[j] its2.toArray[j] (AV n (xs.getD j .non) (ys.getD j .non)):=by
 rw[Aj]at hx hy;let l1:its.toArray.size=xs.length:=by rw[AS,<-rv.length,r.length]
 let l2:its2.toArray.size=ys.length:=by rw[AS,<-rv2.length,r2.length]
 let j1:j<xs.length:=()
 let j2:j<ys.length:=()
 let⟨q1,g1,t1⟩:=r.get (AJ j1);let⟨q2,g2,t2⟩:=r2.get (AJ j2);let⟨o1,k1,m1⟩:=rv.get g1;let⟨o2,k2,m2⟩:=rv2.get g2;let z1:its.toArray[j]=o1:=by
  have:its.toArray[j]?=some o1:=by simpa using k1
  rw[BQ h1]at this;exact BG this
 let z2:its2.toArray[j]=o2:=by
  have:its2.toArray[j]?=some o2:=by simpa using k2
  rw[BQ h2]at this;exact BG this
 let w1:xs.getD j .non=xs[j]:=by simp[BB,j1]
 let w2:ys.getD j .non=ys[j]:=by simp[BB,j2]
 rw[z1,z2,w1,w2];calc M0 I n A _ _ _ _ _ _ hu (hx _ (Au j1)) (hy _ (Au j2)) t1 t2 m1 m2
def Nc (l1:a=xs.length) (l2:b=ys.length):((List.range (min a b)).all (λj=>AV n (xs.getD j .non) (ys.getD j .non))&&a==b)=AV (n+1) (.tup xs) (.tup ys):=by
 subst l1 l2;show _=(xs.length==ys.length&&(xs.zip ys).all λq=>AV n q.1 q.2);by_cases hl:xs.length=ys.length
 .rw[hl,Nat.min_self,<-hl,Gf (AV n) hl,Bool.and_comm]
 .have:(xs.length==ys.length)=false:=by simpa using hl
  rw[this];simp
def VU (hl:xs.length=ys.length):((List.range xs.length).all λj=>AV n (xs.getD j .non) (ys.getD j .non))=AV (n+1) (.tup xs) (.tup ys):=by
 rw[<-Nc rfl rfl,hl,Nat.min_self];simp
def XB (hl:xs.length≠ys.length):AV (n+1) (.tup xs) (.tup ys)=false:=by
 show (xs.length==ys.length&&_)=false;rw[show (xs.length==ys.length)=false by simpa using hl];rfl
def Wm (n:Nat) (hu:X.A.units+1+n<cLine):OpR X (compareOp .Eq) (rTr false X.K n):=by
 intro zB s Y H x y v u Q I rx ry h;let⟨L,xs,ys,⟨hx,hy⟩,hc,q⟩:=h;let hu1:X.A.in1.units+n<cLine:=hu;rcases hc with ⟨p1,p2⟩|⟨a,b,vs,ws,rfl,rfl,s1,s2,r1,r2⟩
 .unfold Rep at p1 p2;let⟨a,vs,rfl,e1,r1⟩:=p1;let⟨b,ws,rfl,e2,r2⟩:=p2;ext rx;ext ry;let⟨its,rv,t1,_⟩:=I.tuple (.of e1);let⟨its2,rv2,t2,_⟩:=I.tuple (.of e2);refine SeqAt.eq_tupleAt t1 t2 () (λj h1 h2=>MN I hu1 hx hy r1 r2 rv rv2 j h1 h2) ?_;rw[Nc (by rw[AS,<-rv.length,r1.length]) (by rw[AS,<-rv2.length,r2.length])];exact ⟨.bl _,H,I,rfl,q⟩
 .cases rx;ext ry;let⟨its,rv,t1,_⟩:=I.list s1;let⟨its2,rv2,t2,_⟩:=I.list s2;let l1:its.toArray.size=xs.length:=by rw[AS,<-rv.length,r1.length]
  let l2:its2.toArray.size=ys.length:=by rw[AS,<-rv2.length,r2.length]
  by_cases hl:xs.length=ys.length
  .refine SeqAt.eq_listAt t1.isList t2.isList () () (λj h1 h2=>MN I hu1 hx hy r1 r2 rv rv2 j h1 h2) ?_;rw[l1,VU hl];exact ⟨.bl _,H,I,rfl,q⟩
  .refine SeqAt.eq_list_lengthsAt t1.isList t2.isList (by rw[l1,l2];simpa using hl) () ?_;rw[XB hl]at q;calc ⟨.bl false,H,I,rfl,q⟩
def kTr (neg:Bool) (n:Nat):K2:=λx y M=>match Cs x,Cs y with
 |some xs,some ys=>if xs.all (zZ n)&&ys.all (zZ n) then some (.dat (.bl (nb neg (AV (n+1) (.tup xs) (.tup ys)))),M) else none
 |_,_=>match Ba M x,Ba M y with
  |some xs,some ys=>if xs.all (zZ n)&&ys.all (zZ n) then some (.dat (.bl (nb neg (AV (n+1) (.tup xs) (.tup ys)))),M) else none
  |_,_=>none
def Rj {K:Yb} {neg:Bool} {n:Nat}:BP K (rTr neg K n) (kTr neg n):=by
 intro L M M' H H0 x y d v w Q c rx ry hk q;erw[kTr]at hk;cbv at hk
 .rename_i xs ys e1 e2;cbv at hk
  .rename_i hb;ext hk;rw[A8]at hb;let⟨p,vs,rfl,h1,r1⟩:=Dt rx e1;let⟨p',ws,rfl,h2,r2⟩:=Dt ry e2;refine ⟨L,xs,ys,hb,.inl ⟨?_,?_⟩,q L H _ (.refl L H) c (Cb (L:=L) (H:=H))⟩
   .unfold Rep;exact ⟨p,vs,rfl,h1,r1⟩
   .unfold Rep;exact ⟨p',ws,rfl,h2,r2⟩
  .cases hk
 .split at hk
  .rename_i xs ys e1 e2;cbv at hk
   .rename_i hb;ext hk;rw[A8]at hb;let⟨p,vs,rfl,h1,r1⟩:=DN c rx e1;let⟨p',ws,rfl,h2,r2⟩:=DN c ry e2;exact ⟨L,xs,ys,hb,.inr ⟨p,p',vs,ws,rfl,rfl,.inl h1,.inl h2,r1,r2⟩,q L H _ (.refl L H) c (Cb (L:=L) (H:=H))⟩
   .cases hk
  .cases hk
def XJ (n:Nat) (hu:X.A.units+1+n<cLine) (h1:QE X a f) (h2:QE X b g):QE X (.Compare a [.Eq] [b] pos) (fOp (kTr false n) f g):=IS Rj (Wm n hu) h1 h2 (D8 _)
def Le (n:Nat) (hn:n<=8) (hr:Room k A):A.units+1+n<cLine:=by
 have:=hr.units;omega
open Builtin
def HE:KB:=λxs M=>match xs with
 |[.dat (.int i),.dat (.int j)]=>some (.dat (.int (if j>i then j else i)),M)
 |_=>none
def WJ (r:Ca H0 L H [.dat (.int i),.dat (.int j)] vs):vs=[.int i,.int j]:=by
 erw[Ca]at r;let⟨v,r1,rfl,a1,a2⟩:=r;erw[Ca]at a2;let⟨v2,r2,rfl,b1,b2⟩:=a2;erw[Ca]at b2;subst b2;unfold zR Rep at a1 b1;subst a1 b1;rfl
def Xu {K:Yb}:DL K (λxs H Q=>∃ i j,xs=[.int i,.int j]/\Q (.int (if j>i then j else i)) H) HE:=by
 intro L M M' H H0 xs d vs Q c r hk q;erw[HE]at hk;cbv at hk
 .rename_i i j;ext hk;exact ⟨i,j,WJ r,q L H _ (.refl L H) c (C7 (L:=L) (H:=H))⟩
 .cases hk
def Xj (hcalm:X.calm=true) (hg:Gl X "max") (hm:X.mg "max" = none) (ha:QAE X [e,e2] fa) (he:starEach [e,e2] X.env=(false,eval e X.env)::starEach [e2] X.env:=by rfl) (hpl:(backTo pos (starEach [e2] X.env)).any (·.1)=false:=by rfl):QE X (.Call (.Name "max" p) [e,e2] [] pos) (fB HE fa) :=
 Es Xu (VP hcalm) (by rfl) hg hm ha () () he hpl
section
variable {X:Cx} {a e e2 o:Expr} {pos p apos cpos:Pos} {f:FE}
def HK (f:FE):FT:=λY M=>match f Y M with
 |some (x,M1)=>match zu M1 x with
  |some xs=>some (!xs.isEmpty,M1)
  |none=>none
 |none=>none
def Qo (h:QE X a f) (he:∀ whole,isTrue a X.env whole=(do let v <- whole;standAt a.pos;holding [v] (truthy v)):=by intro _;rfl):QT X a (HK f) :=
 .mk <| PT.imp (UD h.un he) λτ H Q zz=>by
  let⟨L,Y,M,d,M',c,rs,hf,q⟩:=zz;erw[HK]at hf;cbv at hf
  .rename_i x M1 e1;cbv at hf
   .rename_i xs e2;ext hf;refine (mkE c rs e1 (λL1 H1 v s1 c1 r1=>⟨!xs.isEmpty,?_,q L1 H1 s1 c1⟩));erw[zu]at e2;let emp:∀ {vs:List V},zG L1 H1 xs vs->(!xs.isEmpty) = !vs.isEmpty:=λ{vs} r=>by
     have:=r.length;cases xs <;> cases vs <;> first|rfl|simp at this
    cases t:Cs x with
    |some ws=>
     rw[t]at e2;ext e2;let⟨l,vs,rfl,e3,r3⟩:=Dt r1 t;calc .inr (.inl ⟨vs,.of e3,emp r3⟩)
    |none=>
     rw[t]at e2;dsimp only at e2;let⟨l,vs,rfl,e3,r3⟩:=DN c1 r1 e2;exact .inl ⟨vs,.inl e3,emp r3⟩
   .cases hf
  .cases hf
def GV (i:Nat) (g:Int->Int->Int) (f:FE):FS:=λY M=>match Y[i]? with
 |some (some (.int a))=>match f Y M with
  |some (.dat (.int b),M1)=>some (.nx,Y.set i (some (.int (g a b))),M1)
  |_=>none
 |_=>none
def Oj {K:Yb} {i:Nat} {g:Int->Int->Int} {f:FE} {E:Ends} {τ:Sv} {H:Hp} (h:trS K (GV i g f) E τ H):OS i (trE K f) (ipI g) E τ H:=by
 let⟨L,Y,M,o,Y',M',c,rs,hf,q⟩:=h;erw[GV]at hf;cbv at hf
 .rename_i x e0;cbv at hf
  .rename_i y M1 e1;ext hf;let⟨w,hw,rw'⟩:=rs.2 i _ e0;let hw':w=.int x:=by erw[Rep]at rw';exact rw'
   subst hw';refine ⟨.int x,hw,L,Y,M,_,_,c,rs,e1,λL1 H1 v s1 c1 r1=>?_⟩;let hv:v=.int y:=by erw[zR,Rep]at r1;exact r1
   subst hv;exact ⟨x,y,rfl,rfl,q L1 H1 s1 c1 _ ((rs.stp s1).set (C7 (L:=L1) (H:=H1)))⟩
  .cases hf
 .cases hf
def TN (hN:X.N.Nodup) (hi:X.N[i]?=some x) (hx:Loc X.env.scope x) (h:QE X e f) (hf:X.fn x=true\/X.env.scope.names.lookup x=some .local:=by first|exact .inl rfl|exact .inr rfl|assumption):QS X (.AugAssign (.Name x pos') .Add e pos) (GV i (λi j=>i+j) f) :=
 .mk <| PS.imp (Ot hN hi hx h.un WX hf) λ_ _ _ z=>Oj z
def WO (hN:X.N.Nodup) (hi:X.N[i]?=some x) (hx:Loc X.env.scope x) (h:QE X e f) (hf:X.fn x=true\/X.env.scope.names.lookup x=some .local:=by first|exact .inl rfl|exact .inr rfl|assumption):QS X (.AugAssign (.Name x pos') .Sub e pos) (GV i (λi j=>i-j) f) :=
 .mk <| PS.imp (Ot hN hi hx h.un Xo hf) λ_ _ _ z=>Oj z
end
open SeqAt
structure Df (K:Yb) (mg:Yh) (x:Str) (st:Stmt) (ps:Yk) where
 f:Addr
 fd:FuncData
 F:Fun K x x st f fd
 b:E5 K fd ps []
 m:mg x=some (.ref f)
structure Dg (K:Yb) (x:Str) (st:Stmt) where
 f:Addr
 {od an:Option Addr}
 {sl:Array (Option Value)}
 {oc kV dc pm cd ct:Yu}
 a:PySem.W.nsIn K mainGlobals x=some (some (.ref f))
 l:K.lookup f=some ⟨oc,od,.func (PySem.W.fnOf x x (GD st) (EF st) (zO st) .none kV dc pm an cd ct),sl⟩
 c:PySem.W.codeIn K cd x=true
 k:PySem.W.keepIn K (.ref f)=true
abbrev Dg.df {K:Yb} {x:Str} {st:Stmt} {ps:Yk} {h:Heap} {mg:Yh} (g:Dg K x st) (X:K.In h) (G:h.Ns mainGlobals mg)
  (hb:∀ (kV doc pm:Yu) (an:Option Addr) (cdv ct:Yu) (us:Yf),us.length=ps.length->bindArgs (PySem.W.fnOf x x (GD st) (EF st) (zO st) .none kV doc pm an cdv ct) ⟨us,[]⟩=pure (ps.zip us)):Df K mg x st ps :=
 ⟨g.f,_,MG g.l g.c g.k,(MG g.l g.c g.k).binds hb,PySem.W.mg_of X G g.a⟩
abbrev Od (P:Ym) (w:Yo) (base:Heap) (k:Nat) {K:Yb} {mg:Yh} {x:Str} {st:Stmt} {ps:Yk} (d:Df K mg x st ps) (m:FF):Prop:=FnOk P w K mg base CX0 k d.f d.fd ps (spF K ps.length m)
abbrev Zn (K:Yb) (x:Str):Prop:=PySem.W.nsIn K mainGlobals x=some none
abbrev Ki (K:Yb) (t T:String) (b:Bool):Prop:=PySem.W.kitOne K (.type t) (.type T)=some b
theorem qS {P:List Value->Prop} {n:Nat} (h:∀ a us,us.length=n->P (a::us)):∀ us:List Value,us.length=n+1->P us
 |a::us,e=>h a us (Nat.succ.inj e)
def FL {P:List Value->Prop} (h:∀ a,P [a]):∀ us:List Value,us.length=1->P us:=qS λa us z=>List.length_eq_zero_iff.mp z▸h a
def GY {P:List Value->Prop} (h:∀ a b,P [a,b]):∀ us:List Value,us.length=2->P us:=qS λa=>qS λb us z=>List.length_eq_zero_iff.mp z▸h a b
def Nq {P:List Value->Prop} (h:∀ a b c,P [a,b,c]):∀ us:List Value,us.length=3->P us:=qS λa=>qS λb=>qS λc us z=>List.length_eq_zero_iff.mp z▸h a b c
def Wg {P:List Value->Prop} (h:∀ a b c d e,P [a,b,c,d,e]):∀ us:List Value,us.length=5->P us:=qS λa=>qS λb=>qS λc=>qS λd=>qS λe us z=>List.length_eq_zero_iff.mp z▸h a b c d e
section
variable {st:Stmt}
def Pg {d:Df X.K X.mg x st ps} (F:FnOk X.prog X.w X.K X.mg X.base CX0 k d.f d.fd ps (spF X.K (e::es).length g)) (hr:Room k X.A) (hg:Gl X x)
  (ha:QA X (e::es) fa) (hl:∀ Y M ds M1,fa Y M=some (ds,M1)->ds.length=(e::es).length) (hdb:(x==("__debug__" : Str))=false) (he:starEach (e::es) X.env=(false,eval e X.env)::starEach es X.env) (hpl:(backTo pos (starEach es X.env)).any (·.1)=false) :
  QE X (.Call (.Name x p) (e::es) [] pos) (zm g fa):=XC F hr hg d.m d.F.kp d.b ha hl hdb he hpl
def WN (hN:X.N.Nodup) (hi:X.N[i]?=some x) (h:QE X e f) (hx:Loc X.env.scope x:=by first|exact Or.inl rfl|exact Or.inr rfl) (hs:swapsWith e (some (.Name x pos')) pos.line X.env=pure false:=by rfl)
  (hf:X.fn x=true\/X.env.scope.names.lookup x=some .local:=by first|exact .inl rfl|exact .inr rfl|assumption):QS X (.Assign [.Name x pos'] e pos) (AO i f):=Zc hN hi hx h hs hf
def J5 (hN:X.N.Nodup) (hi:X.N[i]?=some x) (hx:Loc X.env.scope x:=by first|exact Or.inl rfl|calc Or.inr rfl) (hf:X.fn x=true\/X.env.scope.names.lookup x=some .local:=by first|exact .inl rfl|exact .inr rfl|assumption):PG X (.Name x pos) (Dx i):=PU hN hi hx hf
end
def VM (h:Ak d=some k):Rep L H d (kV k):=by
 cases d with
 |int i=>ext h;erw[Rep];rfl
 |str x=>ext h;erw[Rep];rfl
 |_=>ext h
theorem PY:∀ {ds:List D} {ks:List Key},DS ds=some ks->zG L H ds (ks.map kV)
 |[],ks,h=>by ext h;calc .nil
 |d::ds,ks,h=>by
  erw[DS]at h;cases e1:Ak d with
  |none=>rw[e1]at h;ext h
  |some k=>
   cases e2:DS ds with
   |none=>rw[e1,e2]at h;ext h
   |some ks'=>rw[e1,e2]at h;ext h;calc .cons (VM e1) (PY e2)
def Wj (h:tkD d=some k) (e:H b=some (.tup (k.map kV))):Rep L H d (.ref b):=by
 cases d with
 |tup ds=>erw[Rep];calc ⟨b,_,rfl,e,PY h⟩
 |_=>ext h
def Zb (hd:(d==sysModules)=false) (hT:s.TypeIs (.ref d) "dict") (ho:s.heap.get? d=some o) (hdat:o.data=.dict es ep)
  (hQ:Q (.ref ⇑s) { s with heap:=s.heap.push { cls:=.type "dict_keyiterator", data:=.fields #[.ref d,.int 0 0,.int es.size 0,.int ep 0] } }):wpAny (model prog w) A (pyIter (.ref d)) Q E s:=by
 calc wpAny_pyIter_slot hT F.slot_dict_iter (A9 F.slot_dict_iter hT F.entry_dict_iter ?_ (F.args_dict_iter_1 _));unfold Builtin.«dict.__iter__»;calc AA ?_;erw[Builtin.Dict.dictSlotNone];calc AA (wpAny_notOrdered_dict hT ?_);calc AB ?_;show wpAny _ _ (Builtin.Dict.showsAll d >>= _) _ _ s;erw[Builtin.Dict.showsAll];rw[AE (by rw[hd];calc Av)];calc AA (AB (AA (wpAny_dictEntries ho hdat (AA (wpAny_dictEpoch ho hdat ?_)))));calc AA (Aw (AB ⟨_,rfl, "dict_keyiterator", _,⟨_,AN _ rfl,rfl⟩,F.slot_dict_keyiterator_next.lookup,?_⟩));simpa [rawInt] using hQ
def WW (hit:s.heap.IsKeyIter it d i es.size ep) (hod:s.heap.get? d=some o) (hdd:o.data=.dict es ep) (hx:es[i]?=some e)
  (hQ:∀ h',h'.IsKeyIter it d (i+1) es.size ep->Heap.SameBut it s.heap h'->Q (some e.key) { s with heap:=h' }):wpAny (model prog w) A (pyNext (.ref it)) Q E s:=by
 let⟨q,ho,hc,hd⟩:=id hit;let⟨hlt,hxe⟩:=Array.getElem?_eq_some_iff.mp hx;erw[pyNext];calc AA (Cm (B6 hit.typeIs F.slot_dict_keyiterator_next (A9 F.slot_dict_keyiterator_next hit.typeIs F.entry_dict_keyiterator_next ?_ (F.args_dict_keyiterator_next_1 _))));calc AA (AB (AA (AA ?_)));first|refine AA (wpAny_typeNameOfWhole_keyiter hit.typeIs (AB ?_))|refine AA (wpAny_typeNameOf_keyiter hit.typeIs (AB ?_))
 calc AA (DY ho hd ?_);simp only[show Builtin.Dict_items.ownsTuple "dict_keyiterator" = false by decide,AZ,Ah];show wpAny _ _ (if (Value.ref d==Value.none)=true then _ else _) _ _ s;rw[AE (show ¬ ((Value.ref d==Value.none)=true)from Av)];calc AA (AB (AA (wpAny_dictEntries hod hdd ?_)));rw[AE (by simp)];calc AA (AB (AA (wpAny_dictEpoch hod hdd ?_)));rw[AE (by simp)];calc AB ?_;simp only[show ¬ ((i:Int)<0)from by omega,Ah,Bj,BQ hlt,hxe];calc AA ?_;first|refine AA (wpAny_typeNameOfWhole_keyiter hit.typeIs (AB ?_))|refine AA (wpAny_typeNameOf_keyiter hit.typeIs (AB ?_))
 refine AA (wpAny_isOneOf_keyiter hit.typeIs ?_);show wpAny _ _ (setField (.ref it) 1 (rawInt ((i:Int)+1)) >>= _) _ _ s;refine AA (B1 ho hd (by simp) ?_);let hit':(s.heap.update it (Obj.mapFields (·.setIfInBounds 1 (rawInt ((i:Int)+1))))).IsKeyIter it d (i+1) es.size ep :=
  ⟨_,B8 _ ho (DO (Bi hd _)),(Obj.cls_mapFields ..).trans hc,by rw[Bi hd];simp[rawInt]⟩
 calc AA (Bl (AA (wpAny_isOneOf_keyiter hit'.typeIs ?_)));calc AB (AB ⟨_,rfl,AB (hQ _ hit' (BS ..))⟩)
def TV (hh:A.handled=none) (hit:s.heap.IsKeyIter it d i es.size ep) (hod:s.heap.get? d=some o) (hdd:o.data=.dict es ep) (hge:es.size<=i)
  (hQ:∀ h',Heap.ExtBut it s.heap h'->Q none { s with heap:=h' }):wpAny (model prog w) A (pyNext (.ref it)) Q E s:=by
 let⟨q,ho,hc,hd⟩:=id hit;erw[pyNext];calc AA (Cm (B6 hit.typeIs F.slot_dict_keyiterator_next (A9 F.slot_dict_keyiterator_next hit.typeIs F.entry_dict_keyiterator_next ?_ (F.args_dict_keyiterator_next_1 _))));calc AA (AB (AA (AA ?_)));first|refine AA (wpAny_typeNameOfWhole_keyiter hit.typeIs (AB ?_))|refine AA (wpAny_typeNameOf_keyiter hit.typeIs (AB ?_))
 calc AA (DY ho hd ?_);simp only[show Builtin.Dict_items.ownsTuple "dict_keyiterator" = false by decide,AZ,Ah];show wpAny _ _ (if (Value.ref d==Value.none)=true then _ else _) _ _ s;rw[AE (show ¬ ((Value.ref d==Value.none)=true)from Av)];calc AA (AB (AA (wpAny_dictEntries hod hdd ?_)));rw[AE (by simp)];calc AA (AB (AA (wpAny_dictEpoch hod hdd ?_)));rw[AE (by simp)];calc AB ?_;simp only[show ¬ ((i:Int)<0)from by omega,Ah,Bj,FR hge];calc AA ?_;first|refine AA (wpAny_typeNameOfWhole_keyiter hit.typeIs (AB ?_))|refine AA (wpAny_typeNameOf_keyiter hit.typeIs (AB ?_))
 show wpAny _ _ (setField (.ref it) 0 .none >>= _) _ _ s;calc AA (B1 ho hd (by simp) ?_);calc AA ?_;simp only[newExc,newTuple];calc AA (Aw ?_ (by size_fits));calc AA (wpAny_of_eq (by first|rfl|(simp only[firstArgMember];rfl)) ?_);calc Aw ?_ (by size_fits);simp only[raiseNew];calc AA (wpAny_handled ?_);rw[show A.in1.handled=none from hh];calc AA (AB (wpAny_throw ?_));calc AA (wpAny_isInstance ⟨_,AN _ rfl,rfl⟩ isSubtype_stop ?_);calc AB (hQ _ (((BS ..).extBut.push _).push _))
def WZ (lo:(d==sysModules)=false) (hc:o.cls=.type "dict") (hdd:o.data=.dict es ep):PySem.W.KdlSrc prog w "dict" d d es.size (λi v=>∃ e,es[i]?=some e/\v=e.key) (λh=>h.get? d=some o) where
 type:=λ_ h=>⟨o,h,hc⟩;there:=λ_ h=>⟨AG h,AG h⟩;keep:=λ_ _ h k=>k d (.inl rfl) o h;notList:=()
 notTuple:=()
 hint:=λ_ _ _ _ h hq=>PySem.W.kdl_hint_dict ⟨o,h,hc⟩ hq
 iter:=λA s hh h=>⟨_,λi h'=>h'.IsKeyIter ⇑s d i es.size ep/\h'.get? d=some o,(λ_ _ hq=>Zb lo ⟨o,h,hc⟩ h hdd hq),⟨λb hb=>by simp at hb;simp[hb],
  λ_ _ _ st hk=>⟨st.1.at λo e=>hk _ (by simp) o e,hk d (by simp) o st.2⟩,
  λi s2 Q E hi st hQ=>WW (e:=es[i]) st.1 st.2 hdd (by simp[hi]) λh' hit' hs'=>hQ _ h' s2.toks ⟨es[i],by simp[hi],rfl⟩ ⟨hit',hs'.extBut _ _ (AY (AG h)) st.2⟩ λb q hb e=>hs'.extBut b q (λz=>hb (by simp[z])) e,
  λs2 Q E st hQ=>TV hh st.1 st.2 hdd (AF _) λh' he'=>hQ h' s2.toks λb q hb e=>he' b q (λz=>hb (by simp[z])) e,
  λ_ _ _ _ st hQ=>wpAny_pyIter_keyiter st.1 hQ⟩,⟨⟨_,AN _ rfl,rfl,rfl⟩,AH _ h⟩⟩
theorem Pm:∀ {ys:List V} {us:Yf},ys.length=us.length->(∀ (i:Nat) y u,ys[i]?=some y->us[i]?=some u->za y u)->zU ys us
 |[],[],_,_=> .nil
 |[],_::_,h,_=>by ext h
 |_::_,[],h,_=>by ext h
 |y::ys,u::us,h,q=> .cons (q 0 y u rfl rfl) (Pm (Nat.succ.inj h) λi y' u' e1 e2=>q (i+1) y' u' (~~~e1) (~~~e2))
end L3
namespace ST
section
variable {prog:Ym} {w:Yo} {A:Yn} {E:Yc} {s:Yl} {κ:SortKind} {vs:Yf} {r:Yr}
def B9 (prog:Ym) (w:Yo) (s:Yl) (κ:SortKind) (vs:Yf) (r:Yr):Prop :=
 ∀ (A:Yn) (E:Yc) (x y:Yu) (Q:Bool->Shared->Prop),x∈vs->y∈vs->Q (decide (r x<r y)) s->wpAny (model prog w) A (keyLt' κ x y) Q E s
def Gr (R:B9 prog w s κ vs r) {st:SortSt} {x y:Keyed} {Q:Option Bool->SortSt->Prop} (hk:kindOf st=κ) (hx:x.1∈vs) (hy:y.1∈vs) (h:Q (some (decide (r x.1<r y.1))) st) :
  wpS (model prog w) A E s (lt' x y) Q st:=by
 rw[lt'_eq];calc wpS_bind (wpS_get ?_);rw[hk];calc wpS_bind (wpS_lift (Cm (R _ _ _ _ _ hx hy ⟨rfl,wpS_pure h⟩)))
def SO (R:B9 prog w s κ vs r) {st:SortSt} {i j:Nat} {x y:Keyed} {Q:Option Bool->SortSt->Prop} (hk:kindOf st=κ) (ei:(arrOf st)[i]?=some x) (ej:(arrOf st)[j]?=some y) (hx:x.1∈vs) (hy:y.1∈vs)
  (h:Q (some (decide (r x.1<r y.1))) st):wpS (model prog w) A E s (ltAt' i j) Q st:=by
 rw[ltAt'_eq];calc wpS_bind (wpS_get ?_);show wpS _ _ _ _ (elem' (arrOf st) i >>= λx=>elem' (arrOf st) j >>= λy=>lt' x y) Q st;rw[elem'_eq,elem'_eq,ei,ej];calc wpS_bind (wpS_pure (wpS_bind (wpS_pure (Gr R hk hx hy h))))
def BD (h:Heap) (v:Value) (xs:List Int):Prop:=∃ b o us n,v=.ref b/\h.get? b=some o/\o.cls=.type "tuple" /\ o.data=.seq us n/\IntsAre us.toList xs
def BD.keep (t:BD h v xs) (k:∀ b o,v=.ref b->h.get? b=some o->h'.get? b=some o):BD h' v xs:=by
 let⟨b,o,us,n,rfl,h1,h2,h3,h4⟩:=t;calc ⟨b,o,us,n,rfl,k b o rfl h1,h2,h3,h4⟩
def AM:List Int->List Int->Bool
 |[],[]=>false
 |[],_::_=>true
 |_::_,[]=>false
 |x::xs,y::ys=>if x=y then AM xs ys else decide (x<y)
def SK (h:Q (decide (a<b)) s):wpAny (model prog w) A (oneLt' false (.int a t) (.int b u)) Q E s:=by
 rw[oneLt'_eq];simp only[AZ,Ah];refine AA (richCompare_gives (typeIs_int s a t) (typeIs_int s b u) F.slot_int_lt F.entry_int_lt (F.args_int_lt_2 _ _) (gives_int_lt a b t u) (λx=>nomatch x) ?_);calc EE h
def XS (h:Q (decide (a<b)) s):wpAny (model prog w) A (oneLt' c (.int a t) (.int b u)) Q E s:=by
 ext c
 .exact SK h
 .exact oneLt_int h
def UN (hx:BD s.heap x xs) (hy:BD s.heap y ys) (h:Q (AM xs ys) s):wpAny (model prog w) A (keyLt' (tuples' c) x y) Q E s:=by
 let⟨a,o1,us,n1,rfl,h1,h2,h3,h4⟩:=hx;let⟨b,o2,ws,n2,rfl,g1,g2,g3,g4⟩:=hy;calc AA (listItems_at h1 h3 (AA (listItems_at g1 g3 ?_)));refine AA (wpAny_forIn_list _ (λrest c s'=>c=(none,Unit.unit)/\s'=s /\ ∃ us' ws' xs' ys' k,rest=(us'.zip ws').zipIdx k/\IntsAre us' xs'/\IntsAre ws' ys'/\AM xs ys=AM xs' ys'/\us.size+ws'.length=ws.size+us'.length) (λc s'=>s'=s/\Q (match c.1 with|some b=>b|none=>decide (us.size<ws.size)) s) ?turn ?fin _ _ ⟨rfl,rfl,_,_,_,_,0,rfl,h4,g4,rfl,by simp;omega⟩ |> λz=>Aq z ?post λ_ _ e=>e)
 case turn=>
  rintro ⟨⟨p,q⟩,i⟩ rest c s' ⟨rfl,rfl,us',ws',xs',ys',k,e,i1,i2,e2,e3⟩;cases i1 with
  |nil=>simp at e
  | @cons n t us1 xs1 i1=>
   cases i2 with
   |nil=>simp at e
   | @cons m u ws1 ys1 i2=>
    simp only[List.zip_cons_cons,List.zipIdx_cons]at e;injection e with ea eb
    ext ea;calc AA (wpAny_eqBool_int ?_);rw[show AM (n::xs1) (m::ys1)=if n=m then AM xs1 ys1 else decide (n<m)from rfl]at e2;by_cases hnm:n=m
    .subst hnm;simp only[beq_self_eq_true,Bx,AZ,Ah];rw[AD rfl]at e2;simp only[Cu]at e3;exact AB ⟨rfl,rfl,_,_,_,_,_,eb,i1,i2,e2,()⟩
    .rw[AE hnm]at e2;have:(n==m)=false:=by simpa using hnm
     rw[this];simp only[Bool.not_false,A4];calc AA ?_;calc XS (AB ⟨rfl,?_⟩);rw[<-e2];exact h
 case fin=>
  rintro c s' ⟨rfl,rfl,us',ws',xs',ys',k,e,i1,i2,e2,e3⟩;refine ⟨rfl,?_⟩;let key:AM xs ys=decide (us.size<ws.size):=by
   rw[e2];cases i1 with
   |nil=>
    cases i2 with
    |nil=>simp at e3;simp[AM,e3]
    |cons m u i2=>simp at e3;simp[AM];omega
   |cons n t i1=>
    cases i2 with
    |nil=>simp at e3;simp[AM];omega
    |cons m u i2=>simp at e
  rw[<-key];exact h
 case post=>
  rintro ⟨c1,c2⟩ s' ⟨rfl,q⟩;cases c1 with
  |some b=>calc AB q
  |none=>calc AB q
theorem Pu:∀ ds:List (Int × Tok),IntsAre (ds.map λp=> .int p.1 p.2) (ds.map (·.1))
 |[]=> .nil
 |p::ds=> .cons p.1 p.2 (Pu ds)
def Vv (hv:BD s.heap v (x::xs)) (h:∀ t,Q (some (.int x t)) s):wpAny (model prog w) A (firstOfTuple' v) Q E s:=by
 let⟨a,o1,us,n1,rfl,h1,h2,h3,h4⟩:=hv;calc AA (wpAny_typeOf ⟨o1,h1,h2⟩ ?_);rw[AE ()];calc AA (listItems_at h1 h3 (AB ?_));let⟨us⟩:=us;cases h4 with
 |cons n t i=>calc h t
theorem MM:∀ {vs:Yf} {Q:List (Option Value)->Shared->Prop},(∀ v∈vs,∃ x xs,BD s.heap v (x::xs))->(∀ ds:List (Int × Tok),ds.length=vs.length->Q (ds.map λp=>some (.int p.1 p.2)) s)->wpAny (model prog w) A (vs.mapM firstOfTuple') Q E s
 |[],Q,_,q=>by rw[List.mapM_nil];calc AB (q [] rfl)
 |v::vs,Q,h,q=>by
  rw[List.mapM_cons];let⟨x,xs,hv⟩:=h v (Az ..);refine AA (Vv hv λt=>AA (MM (λu hu=>h u (Ay _ hu)) λds hl=>AB ?_));calc q ((x,t)::ds) (by simp[hl])
def Lw (h:∀ u∈v::vs,∃ x xs,BD s.heap u (x::xs)) (q:Q (tuples' true) s):wpAny (model prog w) A (keyKind' (v::vs).toArray) Q E s:=by
 rw[keyKind'_eq,List.mapM_toArray];refine AA ?_;rw[map_eq_pure_bind];refine AA (MM h λds hl=>AB ?_);rw[AD (by simp)];refine AA (Bc ?_);let e:Array.filterMap id (List.map (λp=>some (Value.int p.1 p.2)) ds).toArray=(ds.map λp=>Value.int p.1 p.2).toArray:=by
  rw[List.filterMap_toArray,List.filterMap_map];exact BC List.toArray (List.filterMap_eq_map'▸rfl)
 rw[e,oneTypeOnly'_eq,List.mapM_toArray,mapM_typeOf_ints (Pu ds)];cases ds with
 |nil=>ext hl
 |cons d ds=>
  let hall:((List.map (λ_=>Value.type "int") (List.map (λp:Int × Tok=>Value.int p.1 p.2) (d::ds))).toArray.all λx=>x==Value.type "int")=true:=by
   simp only[List.all_toArray,List.all_map,Aj];intro _ _;rfl
  let h0:(List.map (λ_=>Value.type "int") (List.map (λp:Int × Tok=>Value.int p.1 p.2) (d::ds))).toArray[0]?=some (Value.type "int"):=by simp
  simp only[map_pure,BX];rw[h0];simp only[hall,A4,BX];calc AB q
end
theorem JB:∀ x:List Int,AM x x=false
 |[]=>rfl
 |a::x=>by rw[show AM (a::x) (a::x)=if a=a then AM x x else decide (a<a)from rfl,AD rfl];calc JB x
def Oc (a b:Int) (x y:Ye):AM (a::x) (b::y)=if a=b then AM x y else decide (a<b):=rfl
theorem IL:∀ {x y:Ye},AM x y=false->AM y x=false->x=y
 |[],[],_,_=>rfl
 |[],_::_,h,_=>by ext h
 |_::_,[],_,h=>by ext h
 |a::x,b::y,h1,h2=>by
  rw[Oc]at h1 h2;by_cases e:a=b
  .subst e;rw[AD rfl]at h1 h2;rw[IL h1 h2]
  .rw[AE e]at h1;rw[AE (Ne.symm e)]at h2;have:=of_decide_eq_false h1;have:=of_decide_eq_false h2;omega
theorem IP:∀ {x y z:Ye},AM x y=true->AM y z=true->AM x z=true
 |[],[],_,h,_=>by ext h
 |_::_,[],_,h,_=>by ext h
 |_,_::_,[],_,h=>by ext h
 |[],_::_,_::_,_,_=>rfl
 |a::x,b::y,c::z,h1,h2=>by
  rw[Oc]at h1 h2 ⊢;by_cases e:a=b
  .subst e;rw[AD rfl]at h1;by_cases e2:a=c
   .rw[AD e2]at h2 ⊢;exact IP h1 h2
   .rw[AE e2]at h2 ⊢;exact h2
  .rw[AE e]at h1;let l1:=By h1;by_cases e2:b=c
   .subst e2;rw[AE e];exact h1
   .rw[AE e2]at h2;let l2:=By h2;rw[AE ()];calc BF ()
def rkI (ks:Ya) (k:Ye):Nat:=ks.countP λa=>AM a k
theorem Mt {α:Type} {p q:α->Bool}:∀ {l:List α} {x:α},x∈l->p x=false->q x=true->(∀ y,p y=true->q y=true)->l.countP p<l.countP q
 |[],_,h,_,_,_=>by ext h
 |y::l,x,h,h1,h2,h3=>by
  let hm:l.countP p<=l.countP q:=List.countP_mono_left λz _ hz=>h3 z hz;rw[List.countP_cons,List.countP_cons];rcases AL.mp h with rfl|h
  .rw[h1,h2];simp;omega
  .have:=Mt h h1 h2 h3;cases hp:p y with
   |true=>rw[h3 y hp];simp;omega
   |false=>cases q y <;> simp <;> omega
def LO {ks:Ya} {x y:Ye} (hx:x∈ks) (hy:y∈ks):AM x y=decide (rkI ks x<rkI ks y):=by
 let go:∀ {x y:Ye},x∈ks->AM x y=true->rkI ks x<rkI ks y:=λ{x y} hx h=>
  Mt hx (JB x) h λz hz=>IP hz h
 cases e:AM x y with
 |true=>calc (BF (go hx e)).symm
 |false=>
  cases e2:AM y x with
  |true=>have:=go hy e2;calc (A6 ()).symm
  |false=>rw[IL e e2];calc (A6 ()).symm
section
variable {prog:Ym} {w:Yo} {A:Yn} {E:Yc} {s:Yl} {κ:SortKind} {vs:Yf}
def BD.uniq (a:BD h v xs) (b:BD h v ys):xs=ys:=by
 let⟨b1,o1,us,n1,rfl,h1,h2,h3,h4⟩:=a;let⟨b2,o2,ws,n2,e,g1,g2,g3,g4⟩:=b;ext e;rw[h1]at g1;ext g1;rw[h3]at g3;ext g3;rw[<-h4.nums,<-g4.nums]
open Classical in
def BZ (h:Heap) (v:Yu):List Int:=if z:∃ xs,BD h v xs then z.choose else []
def Cv (t:BD h v xs):BZ h v=xs:=by
 erw[BZ];rw[dif_pos ⟨xs,t⟩];calc BD.uniq (Classical.choose_spec (⟨xs,t⟩:∃ xs,BD h v xs)) t
def HD (h:Heap) (vs:Yf):Prop:=∀ v∈vs,∃ x xs,BD h v (x::xs)
def rkV (h:Heap) (vs:Yf) (v:Yu):Nat:=rkI (vs.map (BZ h)) (BZ h v)
def PD (h:HD s.heap vs):B9 prog w s (tuples' true) vs (rkV s.heap vs):=by
 intro A E x y Q hx hy q;let⟨a,as,ha⟩:=h x hx;let⟨b,bs,hb⟩:=h y hy;calc UN ha hb ?_;rw[<-Cv ha,<-Cv hb,LO (List.mem_map_of_mem hx) (List.mem_map_of_mem hy)];calc q
def Ox {F:Array Value->Prop} {a:Addr} {n:Nat} {P:Fin->Shared->Prop} (ho:s.heap.get? a=some (seqObj "list" vs.toArray n)) (hz:vs.length<=sizeLine)
  (hF:∀ out,F out->out.size=vs.length) (hs:vs.length<2->F vs.toArray)
  (hr:2<=vs.length -> ∀ h6:Heap,(∀ b o,b≠a->s.heap.get? b=some o->h6.get? b=some o)->(∀ (A:Yn) (E:Yc) (Q:SortKind->Shared->Prop),Q κ { s with heap:=h6 }->wpAny (model prog w) A (keyKind' vs.toArray) Q E { s with heap:=h6 }) /\
   ∀ (A:Yn) (E:Yc),wpS (model prog w) A E { s with heap:=h6 } sortRuns' (λ_ st=>failedOf st=none/\F ((arrOf st).map (·.2))) (SortSt.mk' κ (pairsOf vs) #[] 7 none))
  (h:∀ out,F out->P (.done (.ret .none)) { s with heap:=sortedHeap s.heap a vs out }):wpAny (model prog w) A (Builtin.«list.sort» ⟨[.ref a],[]⟩) P E s:=by
 let ha:a<⇑s:=AG ho;rw[list_sort_plain];refine AA (listItems_at ho rfl (AA (listUpdate_at ho rfl ?_)));obtain ⟨e1,o1⟩:∃ e,(s.heap.update a (Obj.mapSeq λ_=> #[])).get? a=some (seqObj "list" #[] e):=⟨_,get?_update_seq ho λ_=> #[]⟩;refine AA (seqEpoch_at o1 rfl (AA (wpAny_newTuple ?_ (~~~hz))));refine AA (wpAny_newList (Bl ?_));generalize hH:((s.heap.update a (Obj.mapSeq λ_=> #[])).push (seqObj "tuple" vs.toArray 0)).push (seqObj "list" #[] 0)=h6;let k6:∀ b o,b≠a->s.heap.get? b=some o->h6.get? b=some o:=λb o hb e=>by
  rw[<-hH];exact AH _ (AH _ ((CG _ _ (Ne.symm hb)).trans e))
 let o6:h6.get? a=some (seqObj "list" #[] e1):=by rw[<-hH];exact AH _ (AH _ o1)
 let fin:∀ st:SortSt,failedOf st=none->F ((arrOf st).map (·.2))->wpAny (model prog w) A (do
   let t:=(<- seqEpoch a) != e1;Builtin.List.listUpdate (.ref a) λ_=>(arrOf st).map (·.2);if let some e:=failedOf st then rule "list.sort.comparison-raised"; throw e
   if t then rule "list.sort.modified"; raiseError "ValueError" "list modified during sort"
   ret .none) P E { s with heap:=h6 }:=by
  intro st h1 h2;calc AA (seqEpoch_at o6 rfl (AA (listUpdate_at o6 rfl ?_ (hsz2:=by show (Array.map _ _).size<=_;rw[hF _ h2];omega))));rw[h1];simp only[DK,AZ,Ah];calc AB ?_;have:=h _ h2;erw[sortedHeap]at this;rw[hH]at this;exact this
 dsimp only;by_cases h2:vs.toArray.size<2
 .rw[AD h2,AD h2];refine AA (AB ?_);rw[StateT.run_pure];refine AA (AB ?_);refine fin (SortSt.mk' general' (vs.toArray.zip vs.toArray) #[] 7 none) rfl ?_;let e:((vs.toArray.zip vs.toArray).map (·.2))=vs.toArray:=by
   apply Array.toList_inj.mp;rw[Array.toList_map,Array.toList_zip,List.map_snd_zip (AF _)]
  rw[e];exact hs (~~~h2)
 .rw[AE h2,AE h2];let⟨g1,g2⟩:=hr (by simp at h2;omega) h6 k6;calc AA (g1 _ _ _ ?_);refine AA (Aq (g2 _ _) ?_ λ_ _ e=>e);rintro ⟨⟨⟩,st⟩ s' ⟨rfl,h3,h4⟩;calc fin st h3 h4
def Tg (K:PySem.W.KdlSrc prog w T r d n P OK) (hh:A.handled=none) (hok:OK s.heap) (hSr:S≠r) (hSd:S≠d) (hS:s.heap.get? S=some { cls:=.type "list", data:=.seq #[] })
  (hR:∀ h' tk acc c',(∀ b u,b≠S->s.heap.get? b=some u->h'.get? b=some u)->h'.get? S=some { cls:=.type "list", dict:=none,data:=.seq acc c',slots:=#[] }->ItemsOf P acc n->R (.ok (.ret (.ref S))) { s with heap:=h',toks:=tk }) (hn:n<=sizeLine):codeAny (model prog w) A (.builtin "list.__iadd__" ⟨[.ref S,.ref r],[]⟩) R s:=by
 calc C2 F.entry_list_iadd ?_;rw[D9 F.plain_list_iadd _];calc PySem.W.kdl_extend K hh hok S hSr hSd (.ref S) 0 hS hR hn
def U5 (K:PySem.W.KdlSrc prog w T r d n P OK) (hh:A.handled=none) (hok:OK s.heap) (hn:n<=sizeLine)
  (hQ:∀ h' tk acc,(∀ b u,s.heap.get? b=some u->h'.get? b=some u)->⇑s<=h'.objs.size->ItemsOf P acc n->Q acc.toList { s with heap:=h',toks:=tk }):wpAny (model prog w) A (collect (.ref r)) Q E s:=by
 erw[collect];calc AA (wpAny_runValue (C2 F.entry_proto_collect ?_));rw[D9 F.plain_proto_collect _];let hlt:=K.there _ hok;refine AA (Aw (AB ⟨plainId_quiet F.plain_list_iadd _,Tg K hh (K.keep _ _ hok λb _ o e=>AH _ e) (DM hlt.1) (DM hlt.2) (AN _ rfl) (λh' tk acc c' hk hS' hacc=>?_) hn⟩));calc AA (wpAny_load hS' (AB (hQ h' tk acc (λb u e=>hk b u (AY (AG e)) (AH _ e)) (CH (AG hS')) hacc)))
end
end ST
namespace L3
open L2 ST
def kkI (xs:Ye):List Key:=xs.map .inl
def NP:D->Option (List Int)
 |.tup ds=>CA ds
 |_=>none
def DJ:List D->Option (List (List Int))
 |[]=>some []
 |d::r=>match NP d,DJ r with
  |some x,some xs=>some (x::xs)
  |_,_=>none
theorem NB:∀ {ds:List D} {xs:Ye},CA ds=some xs->DS ds=some (kkI xs)
 |[],_,h=>by ext h;rfl
 |.int i::r,xs,h=>by
  erw[CA]at h;cbv at h
  .rename_i bs e;ext h;erw[DS];rw[NB e];rfl
  .cases h
 |.non::_,_,h=>by ext h
 |.bl _::_,_,h=>by ext h
 |.str _::_,_,h=>by ext h
 |.tup _::_,_,h=>by ext h
 |.ref _::_,_,h=>by ext h
 |.fn _ _::_,_,h=>by ext h
theorem Ms:∀ {xs:Ye} {its:Yf},zU ((kkI xs).map kV) its->IntsAre its xs
 |[],_,h=>by ext h;calc .nil
 |x::xs,_,h=>by
  cases h with
  |cons r1 r2=>let⟨t,rfl⟩:=r1;calc .cons _ _ (Ms r2)
section
variable {X:Cx}
def MY (o:Ag P w H h b (.tup ((kkI xs).map kV))):BD h (.ref b) xs:=by
 let⟨_,its,r,o,e,c,⟨n,d⟩,_⟩:=o;calc ⟨b,o,its.toArray,n,rfl,e,c,d,by simpa using Ms r⟩
end
end L3
namespace ST
def Nv:Bool->Keyed->Array Keyed->Nat->Nat->Nat->StateT SortSt Sem (Option Nat):=sortPriv% PySem.Builtin.gallop
def U0:Array Keyed->Array Keyed->StateT SortSt Sem (Array Keyed):=sortPriv% PySem.Builtin.mergeLo
def RX:Array Keyed->Array Keyed->StateT SortSt Sem (Array Keyed):=sortPriv% PySem.Builtin.mergeHi
section
variable {prog:Ym} {w:Yo} {A:Yn} {E:Yc} {s:Yl} {κ:SortKind} {vs:Yf} {r:Yr}
def zc {arr:Array Keyed} {i:Nat} {p:Keyed} {st:SortSt} {Q:Keyed->SortSt->Prop} (h:arr[i]?=some p) (q:Q p st):wpS (model prog w) A E s (elem' arr i) Q st:=by
 rw[elem'_eq,h];calc wpS_pure q
def LB (bey:Nat->StateT SortSt Sem (Option Bool)) (n a0 b0:Nat):StateT SortSt Sem (Option Nat):=do
 let mut a:=a0
 let mut b:=b0
 for _ in [0:n] do
  if a≥b then break
  let m:=a+(b-a) / 2
  let some up <- bey m|return none
  if up then a:=m+1 else b:=m
 return some b
def QK {bey:Nat->StateT SortSt Sem (Option Bool)} {b:Nat->Bool} {n lo hi:Nat} {st:SortSt} {Q:Option Nat->SortSt->Prop} (hb:∀ i,i<n -> ∀ Q':Option Bool->SortSt->Prop,Q' (some (b i)) st->wpS (model prog w) A E s (bey i) Q' st)
  (mono:∀ i j,i<=j->j<n->b j=true->b i=true) (hlo:lo<=hi) (hhi:hi<=n) (h1:∀ i,i<lo->b i=true) (h2:∀ i,hi<=i->i<n->b i=false)
  (h:∀ k,k<=n->(∀ i,i<k->b i=true)->(∀ i,k<=i->i<n->b i=false)->Q (some k) st):wpS (model prog w) A E s (LB bey n lo hi) Q st:=by
 erw[LB];refine wpS_bind (wpS_mono (wpS_forRange (I:=λx c st'=>st'=st /\ ∃ lo hi,c=(none,lo,hi)/\lo<=hi/\hi<=n/\hi-lo<=n-x/\(∀ i,i<lo->b i=true)/\(∀ i,hi<=i->i<n->b i=false)) (Q:=λc st'=>st'=st /\ ∃ k,c=(none,k,k)/\k<=n/\(∀ i,i<k->b i=true)/\(∀ i,k<=i->i<n->b i=false)) ?step ?fin ⟨rfl,lo,hi,rfl,hlo,hhi,(),h1,h2⟩) ?post)
 case step=>
  rintro x c st' _ hx ⟨rfl,lo,hi,rfl,q1,q2,q3,q4,q5⟩;dsimp only;by_cases hge:lo≥hi
  .rw[AD hge];have:lo=hi:=()
   subst this;exact wpS_pure ⟨rfl,lo,rfl,q2,q4,q5⟩
  .rw[AE hge];calc wpS_bind (hb _ () _ ?_);dsimp only;cases e:b (lo+(hi-lo) / 2) with
   |true=>
    rw[AD rfl];exact wpS_pure ⟨rfl,_,_,rfl,(),q2,(),λi hi'=>mono i _ () () e,q5⟩
   |false=>
    rw[AE ()];refine wpS_pure ⟨rfl,_,_,rfl,(),(),(),q4,λi h3 h4=>?_⟩;cases e2:b i with
    |false=>rfl
    |true=>rw[mono _ i h3 h4 e2]at e;ext e
 case fin=>
  rintro c st' ⟨rfl,lo,hi,rfl,q1,q2,q3,q4,q5⟩;have:lo=hi:=()
  subst this;exact ⟨rfl,lo,rfl,q2,q4,q5⟩
 case post=>
  rintro c st' ⟨rfl,k,rfl,q2,q4,q5⟩;calc wpS_pure (h k q2 q4 q5)
def WU {left:Bool} {key:Keyed} {arr:Array Keyed} {base n hint:Nat} {b:Nat->Bool} {st:SortSt} {Q:Option Nat->SortSt->Prop} (hh:hint<n)
  (hb:∀ i,i<n -> ∀ Q':Option Bool->SortSt->Prop,Q' (some (b i)) st->wpS (model prog w) A E s (do let x <- elem' arr (base+i);if left=true then lt' x key else do let y <- lt' key x;pure (y.map (!·))) Q' st)
  (mono:∀ i j,i<=j->j<n->b j=true->b i=true)
  (h:∀ k,k<=n->(∀ i,i<k->b i=true)->(∀ i,k<=i->i<n->b i=false)->Q (some k) st):wpS (model prog w) A E s (Nv left key arr base n hint) Q st:=by
 let no:∀ {i j},i<=j->j<n->b i=false->b j=false:=λ{i j} h1 h2 e=>by
  cases e2:b j with
  |false=>rfl
  |true=>rw[mono i j h1 h2 e2]at e;ext e
 let go:∀ lo hi,lo<=hi->hi<=n->(∀ i,i<lo->b i=true)->(∀ i,hi<=i->i<n->b i=false)->wpS (model prog w) A E s (LB (λi=>do let x <- elem' arr (base+i);if left=true then lt' x key else do let y <- lt' key x;pure (y.map (!·))) n lo hi) Q st :=
  λlo hi a1 a2 a3 a4=>QK hb mono a1 a2 a3 a4 h
 calc wpS_bind (hb hint hh _ ?_);cases e:b hint with
 |true=>
  refine wpS_bind (wpS_mono (wpS_forRange (I:=λx c st'=>st'=st /\ ∃ la of,c=(none,la,of)/\la<of/\x+1<=of/\la<n-hint/\b (hint+la)=true) (Q:=λc st'=>st'=st /\ ∃ la of,c=(none,la,of)/\la<of/\la<n-hint/\b (hint+la)=true/\(n-hint<=of\/b (hint+of)=false)) ?step ?fin ⟨rfl,0,1,rfl,(),(),(),e⟩) ?post)
  case step=>
   rintro x c st' _ hx ⟨rfl,la,of,rfl,q1,q2,q3,q4⟩;dsimp only;by_cases hge:of≥n-hint
   .rw[AD hge];exact wpS_pure ⟨rfl,la,of,rfl,q1,q3,q4,.inl hge⟩
   .rw[AE hge];calc wpS_bind (hb _ () _ ?_);dsimp only;cases e2:b (hint+of) with
    |true=>
     rw[AE ()];calc wpS_pure ⟨rfl,of,2*of+1,rfl,(),(),(),e2⟩
    |false=>
     rw[AD ()];exact wpS_pure ⟨rfl,la,of,rfl,q1,q3,q4,.inr e2⟩
  case fin=>
   rintro c st' ⟨rfl,la,of,rfl,q1,q2,q3,q4⟩;exact ⟨rfl,la,of,rfl,q1,q3,q4,.inl ()⟩
  case post=>
   rintro c st' ⟨rfl,la,of,rfl,q1,q3,q4,q5⟩;refine go (hint+la+1) (hint+min of (n-hint)) () () (λi hi=>mono i (hint+la) () () q4) (λi h1 h2=>?_);rcases q5 with q5|q5
   .omega
   .by_cases hc:n-hint<=of
    .omega
    .exact no (i:=hint+of) () h2 q5
 |false=>
  refine wpS_bind (wpS_mono (wpS_forRange (I:=λx c st'=>st'=st /\ ∃ la of,c=(none,la,of)/\la<of/\x+1<=of/\la<hint+1/\b (hint-la)=false) (Q:=λc st'=>st'=st /\ ∃ la of,c=(none,la,of)/\la<of/\la<hint+1/\b (hint-la)=false/\(hint+1<=of\/b (hint-of)=true)) ?step ?fin ⟨rfl,0,1,rfl,(),(),(),e⟩) ?post)
  case step=>
   rintro x c st' _ hx ⟨rfl,la,of,rfl,q1,q2,q3,q4⟩;by_cases hge:of≥hint+1
   .rw[AD hge];exact wpS_pure ⟨rfl,la,of,rfl,q1,q3,q4,.inl hge⟩
   .rw[AE hge];calc wpS_bind (hb _ () _ ?_);dsimp only;cases e2:b (hint-of) with
    |true=>
     rw[AD rfl];calc wpS_pure ⟨rfl,la,of,rfl,q1,q3,q4,.inr e2⟩
    |false=>
     rw[AE ()];exact wpS_pure ⟨rfl,of,2*of+1,rfl,(),(),(),e2⟩
  case fin=>
   rintro c st' ⟨rfl,la,of,rfl,q1,q2,q3,q4⟩;exact ⟨rfl,la,of,rfl,q1,q3,q4,.inl ()⟩
  case post=>
   rintro c st' ⟨rfl,la,of,rfl,q1,q3,q4,q5⟩;refine go (hint+1-min of (hint+1)) (hint-la) () () (λi hi=>?_) (λi h1 h2=>no (i:=hint-la) () h2 q4);rcases q5 with q5|q5
   .omega
   .by_cases hc:hint+1<=of
    .omega
    .exact mono i (hint-of) () () q5
end
structure MI (le:Keyed->Keyed->Prop) (C out l m:List Keyed):Prop where
 perm:(out++(l++m)).Perm C
 so:out.Pairwise le
 sl:l.Pairwise le
 sm:m.Pairwise le
 ol:∀ x∈out,∀ y∈l,le x y
 om:∀ x∈out,∀ y∈m,le x y
section
variable {le:Keyed->Keyed->Prop} {C out l m p:List Keyed}
def MI.takeL (h:MI le C out (p++l) m) (hp:∀ x∈p,∀ y∈m,le x y):MI le C (out++p) l m:=by
 let sl:=List.pairwise_append.mp h.sl;refine ⟨by have:=h.perm;simpa using this,List.pairwise_append.mpr ⟨h.so,sl.1,λx hx y hy=>h.ol x hx y (BW _ hy)⟩,sl.2.1,h.sm,λx hx y hy=>?_,λx hx y hy=>?_⟩
 .rcases Ab.mp hx with z|z
  .exact h.ol x z y (Bb _ hy)
  .exact sl.2.2 x z y hy
 .rcases Ab.mp hx with z|z
  .exact h.om x z y hy
  .exact hp x z y hy
def MI.takeR (h:MI le C out l (p++m)) (hp:∀ x∈p,∀ y∈l,le x y):MI le C (out++p) l m:=by
 let sm:=List.pairwise_append.mp h.sm;refine ⟨?_,List.pairwise_append.mpr ⟨h.so,sm.1,λx hx y hy=>h.om x hx y (BW _ hy)⟩,h.sl,sm.2.1,λx hx y hy=>?_,λx hx y hy=>?_⟩
 .refine List.Perm.trans ?_ h.perm;rw[CS];calc List.Perm.append_left _ ?_;rw[<-CS,<-CS];exact List.Perm.append_right _ List.perm_append_comm
 .rcases Ab.mp hx with z|z
  .exact h.ol x z y hy
  .exact hp x z y hy
 .rcases Ab.mp hx with z|z
  .exact h.om x z y (Bb _ hy)
  .exact sm.2.2 x z y hy
def Mgd (le:Keyed->Keyed->Prop) (C:List Keyed) (out:List Keyed):Prop:=out.Perm C/\out.Pairwise le
def MI.endL (h:MI le C out l []):Mgd le C (out++l):=⟨by have:=h.perm;simpa using this,List.pairwise_append.mpr ⟨h.so,h.sl,h.ol⟩⟩
def MI.endR (h:MI le C out [] m):Mgd le C (out++m):=⟨by have:=h.perm;simpa using this,List.pairwise_append.mpr ⟨h.so,h.sm,h.om⟩⟩
def MI.last (h:MI le C out l m) (hl:∀ y∈m,∀ x∈l,le y x):Mgd le C (out++m++l):=by
 let h2:MI le C (out++m) l []:=MI.takeR (~~~h) hl;calc h2.endL
end
section
variable {prog:Ym} {w:Yo} {A:Yn} {E:Yc} {s:Yl} {κ:SortKind} {vs:Yf} {r:Yr}
abbrev leR (r:Yr) (x y:Keyed):Prop:=r x.1<=r y.1
abbrev geR (r:Yr) (x y:Keyed):Prop:=r y.1<=r x.1
structure SameS (st st':SortSt):Prop where
 k:kindOf st'=kindOf st
 a:arrOf st'=arrOf st
 p:pendingOf st'=pendingOf st
 f:failedOf st'=failedOf st
def SameS.refl (st:SortSt):SameS st st:=⟨rfl,rfl,rfl,rfl⟩
def GH (R:B9 prog w s κ vs r) {left:Bool} {key:Keyed} {arr:Array Keyed} {base n hint:Nat} {st:SortSt} {Q:Option Nat->SortSt->Prop} (hk:kindOf st=κ) (hkey:key.1∈vs) (harr:∀ i,i<n -> ∃ x,arr[base+i]?=some x/\x.1∈vs)
  (srt:∀ i j x y,i<=j->j<n->arr[base+i]?=some x->arr[base+j]?=some y->r x.1<=r y.1) (hh:hint<n)
  (h:∀ k,k<=n->(∀ i x,i<k->arr[base+i]?=some x->if left then r x.1<r key.1 else r x.1<=r key.1)->(∀ i x,k<=i->i<n->arr[base+i]?=some x->if left then r key.1<=r x.1 else r key.1<r x.1)->Q (some k) st) :
  wpS (model prog w) A E s (Nv left key arr base n hint) Q st:=by
 letI b:Nat->Bool:=λi=>match arr[base+i]? with
  |some x=>if left then decide (r x.1<r key.1) else decide (r x.1<=r key.1)
  |none=>false
 let bx:∀ {i x},arr[base+i]?=some x->b i=if left then decide (r x.1<r key.1) else decide (r x.1<=r key.1):=λ{i x} e=>by
  show (match arr[base+i]? with|some x=>_|none=>_)=_;rw[e]
 refine WU (b:=b) hh (λi hi Q' q=>?_) (λi j hij hj e=>?_) λk hk h1 h2=>h k hk (λi x hi e=>?_) (λi x hi hn e=>?_)
 .obtain ⟨x,ex,hx⟩:=harr i hi;rw[bx ex]at q;calc wpS_bind (zc ex ?_);cases left with
  |true=>
   rw[AD rfl]at q ⊢;calc Gr R hk hx hkey q
  |false=>
   rw[AE ()]at q ⊢;refine wpS_bind (Gr R hk hkey hx (wpS_pure ?_));have:(!decide (r key.1<r x.1))=decide (r x.1<=r key.1):=by
    by_cases z:r key.1<r x.1
    .rw[BF z,A6 ()];rfl
    .rw[A6 z,BF ()];rfl
   show Q' (some (!decide (r key.1<r x.1))) st;rw[this];exact q
 .obtain ⟨x,ex,_⟩:=harr i ();let⟨y,ey,_⟩:=harr j hj;have:=srt i j x y hij hj ex ey;rw[bx ex];rw[bx ey]at e;cases left with
  |true=>rw[AD rfl]at e ⊢;have:=By e;calc BF ()
  |false=>rw[AE ()]at e ⊢;have:=By e;exact BF ()
 .have q:=h1 i hi;rw[bx e]at q;cases left with
  |true=>rw[AD rfl]at q ⊢;calc By q
  |false=>rw[AE ()]at q ⊢;exact By q
 .have q:=h2 i hi hn;rw[bx e]at q;cases left with
  |true=>rw[AD rfl]at q ⊢;have:=of_decide_eq_false q;omega
  |false=>rw[AE ()]at q ⊢;have:=of_decide_eq_false q;omega
def ML (r:Yr) (a b out:Array Keyed) (ia ib:Nat):Prop:=MI (leR r) (a.toList++b.toList) out.toList (a.toList.drop ia) (b.toList.drop ib)
variable {a b out:Array Keyed} {ia ib:Nat}
def Ie (e:a[i]?=some x):a.toList.drop i=x::a.toList.drop (i+1):=by
 let⟨hi,rfl⟩:=Array.getElem?_eq_some_iff.mp e;rw[List.drop_eq_getElem_cons (~~~hi)];simp
def K4 (h:x∈a.toList.drop i):∃ j,i<=j/\a[j]?=some x:=by
 let⟨j,e⟩:=List.mem_iff_getElem?.mp h;rw[List.getElem?_drop,Am]at e;calc ⟨i+j,(),e⟩
def ML.pushB (h:ML r a b out ia ib) (e:b[ib]?=some y) (hy:∀ x∈a.toList.drop ia,r y.1<=r x.1):ML r a b (out.push y) ia (ib+1):=by
 unfold ML at h ⊢;rw[Ie e]at h;rw[Array.toList_push];exact MI.takeR h λx hx z hz=>by rw[AW.mp hx];calc hy z hz
def ML.pushA (h:ML r a b out ia ib) (e:a[ia]?=some x) (hx:∀ y∈b.toList.drop ib,r x.1<=r y.1):ML r a b (out.push x) (ia+1) ib:=by
 unfold ML at h ⊢;rw[Ie e]at h;rw[Array.toList_push];exact MI.takeL h λy hy z hz=>by rw[AW.mp hy];calc hx z hz
def KJ (a:Array Keyed) (i k:Nat):(a.extract i (i+k)).toList=(a.toList.drop i).take k:=by
 rw[Array.toList_extract,List.extract_eq_take_drop];simp
def ML.blockA (h:ML r a b out ia ib) (k:Nat) (hx:∀ x∈(a.toList.drop ia).take k,∀ y∈b.toList.drop ib,r x.1<=r y.1):ML r a b (out++a.extract ia (ia+k)) (ia+k) ib:=by
 unfold ML at h ⊢;rw[Array.toList_append,KJ];rw[<-Cz k (a.toList.drop ia),List.drop_drop]at h;calc MI.takeL h hx
def ML.blockB (h:ML r a b out ia ib) (k:Nat) (hx:∀ x∈(b.toList.drop ib).take k,∀ y∈a.toList.drop ia,r x.1<=r y.1):ML r a b (out++b.extract ib (ib+k)) ia (ib+k):=by
 unfold ML at h ⊢;rw[Array.toList_append,KJ];rw[<-Cz k (b.toList.drop ib),List.drop_drop]at h;calc MI.takeR h hx
def Hg (a:Array Keyed) (i:Nat):(a.extract i a.size).toList=a.toList.drop i:=by
 rw[Array.toList_extract,List.extract_eq_take_drop,List.take_of_length_le (by simp)]
def ML.done (h:ML r a b out ia ib) (e:a.size<=ia\/b.size<=ib):Mgd (leR r) (a.toList++b.toList) (out++a.extract ia a.size++b.extract ib b.size).toList:=by
 erw[ML]at h;rw[Array.toList_append,Array.toList_append,Hg,Hg];rcases e with e|e
 .rw[List.drop_eq_nil_of_le (~~~e)]at h ⊢;simpa using h.endR
 .rw[List.drop_eq_nil_of_le (as:=b.toList) (~~~e)]at h ⊢;simpa using h.endL
def ML.lastA (h:ML r a b out ia ib) (hl:∀ y∈b.toList.drop ib,∀ x∈a.toList.drop ia,r y.1<=r x.1):Mgd (leR r) (a.toList++b.toList) (out++b.extract ib b.size++a.extract ia a.size).toList:=by
 erw[ML]at h;rw[Array.toList_append,Array.toList_append,Hg,Hg];calc h.last hl
def ML.headA (h:ML r a b out ia ib) (e:a[ia]?=some x):∀ z∈a.toList.drop ia,r x.1<=r z.1:=by
 have:=h.sl;rw[Ie e]at this ⊢;intro z hz;rcases AL.mp hz with q|q
 .rw[q];exact AF _
 .exact (Eb.mp this).1 z q
def ML.headB (h:ML r a b out ia ib) (e:b[ib]?=some y):∀ z∈b.toList.drop ib,r y.1<=r z.1:=by
 have:=h.sm;rw[Ie e]at this ⊢;intro z hz;rcases AL.mp hz with q|q
 .rw[q];exact AF _
 .exact (Eb.mp this).1 z q
end
section
variable {prog:Ym} {w:Yo} {A:Yn} {E:Yc} {s:Yl} {κ:SortKind} {vs:Yf} {r:Yr} {a b:Array Keyed}
structure Fr1 (r:Yr) (a b:Array Keyed) (st st':SortSt) (out:Array Keyed) (ia ib:Nat):Prop where
 m:ML r a b out ia ib
 s:SameS st st'
 ha:ia+1<a.size
 hb:ib<b.size
def Ci {a:Array Keyed} {i:Nat} {x:Keyed} (e:a[i]?=some x):x∈a.toList:=by
 let⟨hi,rfl⟩:=Array.getElem?_eq_some_iff.mp e;simp
def zK {α:Type} {c:Prop} [Decidable c] {m1 m2:StateT SortSt Sem α} {Q:α->SortSt->Prop} {st:SortSt} (h1:c->wpS (model prog w) A E s m1 Q st) (h2:¬ c->wpS (model prog w) A E s m2 Q st):wpS (model prog w) A E s (if c then m1 else m2) Q st:=by
 split
 .exact h1 (by assumption)
 .exact h2 (by assumption)
def DT {a:Array Keyed} (sa:a.toList.Pairwise (leR r)) {i j:Nat} {x y:Keyed} (hij:i<=j) (ex:a[i]?=some x) (ey:a[j]?=some y):r x.1<=r y.1:=by
 by_cases e:i=j
 .subst e;rw[ex]at ey;ext ey;exact AF _
 .obtain ⟨hi,rfl⟩:=Array.getElem?_eq_some_iff.mp ex;let⟨hj,rfl⟩:=Array.getElem?_eq_some_iff.mp ey;have:=List.pairwise_iff_getElem.mp sa i j (~~~hi) (~~~hj) ();simpa using this
def IQ (h:x∈(a.toList.drop i).take k):∃ j,j<k/\a[i+j]?=some x:=by
 let⟨j,e⟩:=List.mem_iff_getElem?.mp h;rw[List.getElem?_take]at e;cbv at e
 .rw[List.getElem?_drop,Am]at e;exact ⟨j,by assumption,e⟩
 .cases e
def BM (h:i<a.size):a[i]?=some a[i]:=BQ h
def Aa {α β:Type} {x:StateT SortSt Sem α} {f:α->StateT SortSt Sem β} {Q:β->SortSt->Prop} {st:SortSt} {S:(α->SortSt->Prop)->Prop} (h:∀ P,S P->wpS (model prog w) A E s x P st) (g:S λv st=>wpS (model prog w) A E s (f v) Q st):wpS (model prog w) A E s (x >>= f) Q st:=wpS_bind (h _ g)
set_option maxHeartbeats 4000000 in
def SM (R:B9 prog w s κ vs r) (ha:∀ x∈a.toList,x.1∈vs) (hb:∀ x∈b.toList,x.1∈vs) (sa:a.toList.Pairwise (leR r)) (sb:b.toList.Pairwise (leR r)) (h0:0<a.size) (h1:0<b.size)
  (hf:∀ y,b[0]?=some y -> ∀ x∈a.toList,r y.1<=r x.1) (hl:∀ y∈b.toList,∀ x,a[a.size-1]?=some x->r y.1<=r x.1) {st:SortSt} (hk:kindOf st=κ) {Q:Array Keyed->SortSt->Prop}
  (h:∀ out st',SameS st st'->Mgd (leR r) (a.toList++b.toList) out.toList->Q out st'):wpS (model prog w) A E s (U0 a b) Q st:=by
 let lastA:∀ {out ia ib},ML r a b out ia ib->ia+1=a.size->Mgd (leR r) (a.toList++b.toList) (out++b.extract ib b.size++a.extract ia a.size).toList:=λ{out ia ib} m e=>m.lastA λy hy x hx=>by
  let⟨j,hj,ej⟩:=K4 hx;let hj2:=(Array.getElem?_eq_some_iff.mp ej).1;exact hl y (FX hy) x (by rw[show a.size-1=j by omega];calc ej)
 refine Aa (λP g=>wpS_lift (Bc ⟨rfl,g⟩)) ?_;refine Aa (λP g=>zc (BM h1) g) ?_;let m0:ML r a b #[] 0 0:=⟨List.Perm.refl _,.nil,sa,sb,(λx hx=>absurd hx (by simp)),(λx hx=>absurd hx (by simp))⟩;let m1:ML r a b #[b[0]] 0 1:=m0.pushB (BM h1) (hf _ (BM h1));refine zK (λc1=>wpS_pure (h _ _ (.refl _) (m1.done (.inr (Nat.le_of_eq (show b.size=1 by simpa using (by simpa using c1:1=b.size).symm)))))) (λc1=>?_);refine zK (λc2=>wpS_pure (h _ _ (.refl _) (lastA m1 (~~~c2)))) (λc2=>?_);replace c1:¬ 1=b.size:=by simpa using c1
 replace c2:¬ 0+1=a.size:=by simpa using c2
 refine Aa (λP g=>wpS_get g) ?_;refine wpS_bind (wpS_mono (wpS_forRange (I:=λx c st'=>∃ out ia ib g,c=(none,out,ia,ib,g)/\Fr1 r a b st st' out ia ib/\x+1<=ia+ib) (Q:=λc st'=>∃ res,c.1=some res/\SameS st st'/\Mgd (leR r) (a.toList++b.toList) res.toList) ?step ?fin ⟨_,_,_,_,rfl,⟨m1,.refl _,(),()⟩,()⟩) ?post)
 case fin=>
  intro c st' hI;refine qz λG=>?_;let⟨out,ia,ib,g,eI1,f,hx⟩:=hI;calc G ?_;clear G;subst eI1;have:=f.ha;have:=f.hb;omega
 case post=>
  rintro ⟨c1,c2⟩ st' ⟨res,e,hs,hm⟩;dsimp only at e;subst e;exact wpS_pure (h _ _ hs hm)
 case step=>
  intro x c st' _ hx hI;refine qz λG=>?_;let⟨out,ia,ib,g,eI1,f,hx2⟩:=hI;calc G ?_;clear G;subst eI1;dsimp only;refine Aa (λP=>wpS_mono (wpS_forRange (I:=λy c st'=>∃ out2 ia2 ib2 ca cb,c=(none,out2,ia2,ib2,ca,cb)/\Fr1 r a b st st' out2 ia2 ib2/\ia+ib+y<=ia2+ib2) (Q:=λc st'=>(∃ res,c.1=some res/\SameS st st'/\Mgd (leR r) (a.toList++b.toList) res.toList) \/ ∃ out2 ia2 ib2 ca cb,c=(none,out2,ia2,ib2,ca,cb)/\Fr1 r a b st st' out2 ia2 ib2/\ia+ib+1<=ia2+ib2) ?step1 ?fin1 ⟨_,_,_,_,_,rfl,f,()⟩)) ?post1
  case fin1=>
   intro c st' hI;refine qz λG=>?_;let⟨out2,ia,ib,ca,cb,eI1,f,hy⟩:=hI;calc G ?_;clear G;subst eI1;exact .inr ⟨_,_,_,_,_,rfl,f,()⟩
  case step1=>
   intro y c st' _ hy hI;refine qz λG=>?_;let⟨out2,ia,ib,ca,cb,eI1,f,hy2⟩:=hI;calc G ?_;clear G;subst eI1;dsimp only;let hia:ia<a.size:=by have:=f.ha;omega
   let hib:=f.hb;let eb:b[ib]?=some b[ib]:=BM hib;let ea:a[ia]?=some a[ia]:=BM hia;let hkk:kindOf st'=κ:=f.s.k.trans hk;refine Aa (λP g=>zc eb g) (Aa (λP g=>zc ea g) (Aa (λP g=>Gr R hkk (hb _ (Ci eb)) (ha _ (Ci ea)) g) ?_));refine zK (λhlt=>?_) (λhlt=>?_)
   .replace hlt:=By hlt;refine Aa (λP g=>zc eb g) ?_;let m2:ML r a b (out2.push b[ib]) ia (ib+1):=f.m.pushB eb λz hz=>by have:=f.m.headA ea z hz;omega
    refine zK (λc3=>wpS_pure (.inl ⟨_,rfl,f.s,m2.done (.inr (Nat.le_of_eq (show ib+1=b.size by simpa using c3).symm))⟩)) (λc3=>?_);let f2:Fr1 r a b st st' (out2.push b[ib]) ia (ib+1):=⟨m2,f.s,f.ha,by simp at c3;omega⟩;exact zK (λ_=>wpS_pure (.inr ⟨_,_,_,_,_,rfl,f2,()⟩)) (λ_=>wpS_pure ⟨_,_,_,_,_,rfl,f2,()⟩)
   .replace hlt:¬ _:=λh=>hlt (BF h);refine Aa (λP g=>zc ea g) ?_;let m2:ML r a b (out2.push a[ia]) (ia+1) ib:=f.m.pushA ea λz hz=>by have:=f.m.headB eb z hz;omega
    refine zK (λc3=>wpS_pure (.inl ⟨_,rfl,f.s,lastA m2 (~~~c3)⟩)) (λc3=>?_);let f2:Fr1 r a b st st' (out2.push a[ia]) (ia+1) ib:=⟨m2,f.s,by have:=f.ha;simp at c3;omega,f.hb⟩;exact zK (λ_=>wpS_pure (.inr ⟨_,_,_,_,_,rfl,f2,()⟩)) (λ_=>wpS_pure ⟨_,_,_,_,_,rfl,f2,()⟩)
  case post1=>
   intro c st' hI;refine qz λG=>?_;obtain ⟨res,e,hs,hm⟩|⟨out2,ia,ib,ca,cb,e,f,hy⟩:=hI
   .obtain ⟨c2,rfl⟩:∃ c2,c=(some res,c2):=⟨c.2,by ext c;ext e;rfl⟩;exact G (wpS_pure ⟨res,rfl,hs,hm⟩)
   .refine G ?_;clear G;subst e;dsimp only;refine Aa (λP g=>wpS_lift (Bc ⟨rfl,g⟩)) ?_;refine wpS_bind (wpS_mono (wpS_forRange (I:=λy c st'=>∃ out3 ia3 ib3 g ca cb,c=(none,out3,ia3,ib3,g,ca,cb)/\Fr1 r a b st st' out3 ia3 ib3/\ia+ib<=ia3+ib3) (Q:=λc st'=>(∃ res,c.1=some res/\SameS st st'/\Mgd (leR r) (a.toList++b.toList) res.toList) \/ ∃ out3 ia3 ib3 g ca cb,c=(none,out3,ia3,ib3,g,ca,cb)/\Fr1 r a b st st' out3 ia3 ib3/\ia+ib<=ia3+ib3) ?step2 ?fin2 ⟨_,_,_,_,_,_,rfl,f,()⟩) ?post2)
    case fin2=>
     intro c st' hI;refine qz λG=>?_;let⟨out3,ia,ib,g,ca,cb,eI1,f,hy⟩:=hI;calc G ?_;clear G;subst eI1;exact .inr ⟨_,_,_,_,_,_,rfl,f,hy⟩
    case post2=>
     intro c st' hI;refine qz λG=>?_;obtain ⟨res,e,hs,hm⟩|⟨out3,ia,ib,g,ca,cb,e,f,hz⟩:=hI
     .obtain ⟨c2,rfl⟩:∃ c2,c=(some res,c2):=⟨c.2,by ext c;ext e;rfl⟩;exact G (wpS_pure ⟨res,rfl,hs,hm⟩)
     .refine G ?_;clear G;subst e;dsimp only;refine wpS_bind (wpS_modify (wpS_pure ⟨_,_,_,_,rfl,⟨f.m,⟨f.s.k,f.s.a,f.s.p,f.s.f⟩,f.ha,f.hb⟩,()⟩))
    case step2=>
     intro y c st' _ hy hI;refine qz λG=>?_;let⟨out3,ia,ib,g,ca,cb,eI1,f,hy2⟩:=hI;calc G ?_;clear G;subst eI1;let hia:ia<a.size:=by have:=f.ha;omega
     let hib:=f.hb;let eb:b[ib]?=some b[ib]:=BM hib;dsimp only;refine zK (λcg=>?_) (λcg=>?_);clear cg;generalize g-1=g';revert g';refine ?K;rotate_left;clear cg;exact ?K _;intro g';refine Aa (λP g=>wpS_modify g) ?_;refine Aa (λP g=>zc eb g) ?_;let hs2:=f.s;refine Aa (λP=>GH (left:=false) (key:=b[ib]) (arr:=a) (base:=ia) (n:=a.size-ia) (hint:=0) R (hs2.k.trans hk) (hb _ (Ci eb)) (λi hi=>⟨_,BM (),ha _ (Ci (BM ()))⟩) (λi j x y hij hj ex ey=>DT sa () ex ey) ()) λk hk1 g1 g2=>?_;let aft:∀ x∈a.toList.drop (ia+k),r b[ib].1<=r x.1:=λx hx=>by
      let⟨j,hj,ej⟩:=K4 hx;let hj2:=(Array.getElem?_eq_some_iff.mp ej).1;have:=g2 (j-ia) x () () (by rw[show ia+(j-ia)=j by omega];calc ej);exact CH this
     refine zK (λhk0=>?_) (λhk0=>?_);let m4:=f.m.blockA k λx hx z hz=>by
      let⟨i,hi,ei⟩:=IQ hx;have:r x.1<=r b[ib].1:=g1 i x hi ei;have:=f.m.headB eb z hz;omega
     refine zK (λc4=>wpS_pure (.inl ⟨_,rfl,⟨hs2.k,hs2.a,hs2.p,hs2.f⟩,lastA m4 (show ia+k+1=a.size by simpa using c4)⟩)) (λc4=>zK (λc5=>wpS_pure (.inl ⟨_,rfl,⟨hs2.k,hs2.a,hs2.p,hs2.f⟩,m4.done (.inl (Nat.le_of_eq (show a.size=ia+k by simpa using (by simpa using c5:ia+k=a.size).symm)))⟩)) (λc5=>?_));let a4:ia+k+1<a.size:=by simp at c4 c5;omega
     let l4:ia<=ia+k:=Nat.le_add_right _ _;clear c4 c5 hk0;generalize out3++a.extract ia (ia+k)=o4 at m4 ⊢;generalize ia+k=i4 at m4 a4 l4 aft ⊢;revert aft;revert l4;revert a4;revert m4;revert i4;revert o4;calc ?K2;rotate_left;let hk00:k=0:=()
     exact ?K2 _ _ f.m f.ha (AF _) (λx hx=>aft x (by rw[hk00];calc hx));intro o4 i4 m4 a4 l4 aft;refine Aa (λP g=>zc eb g) ?_;let m5:=m4.pushB eb aft;refine zK (λc6=>wpS_pure (.inl ⟨_,rfl,⟨hs2.k,hs2.a,hs2.p,hs2.f⟩,m5.done (.inr (Nat.le_of_eq (show ib+1=b.size by simpa using c6).symm))⟩)) (λc6=>?_);let c6':ib+1<b.size:=by simp at c6;omega
     let ea4:=BM (Nat.lt_of_succ_lt a4);refine Aa (λP g=>zc ea4 g) ?_;refine Aa (λP=>GH (left:=true) (arr:=b) (base:=ib+1) (n:=b.size-(ib+1)) (hint:=0) R (hs2.k.trans hk) (ha _ (Ci ea4)) (λi hi=>⟨_,BM (),hb _ (Ci (BM ()))⟩) (λi j x y hij hj ex ey=>DT sb () ex ey) ()) λk2 hk2 g3 g4=>?_;let aft2:∀ y∈b.toList.drop (ib+1+k2),_<=r y.1:=λy hy=>by
      let⟨j,hj,ej⟩:=K4 hy;let hj2:=(Array.getElem?_eq_some_iff.mp ej).1;exact g4 (j-(ib+1)) y () () (by rw[show ib+1+(j-(ib+1))=j by omega];calc ej)
     refine zK (λhk3=>?_) (λhk3=>?_);let m6:=m5.blockB k2 λx hx z hz=>by
      let⟨i,hi,ei⟩:=IQ hx;exact CH (Ao (g3 i x hi ei) (m5.headA ea4 z hz))
     refine zK (λc7=>wpS_pure (.inl ⟨_,rfl,⟨hs2.k,hs2.a,hs2.p,hs2.f⟩,m6.done (.inr (Nat.le_of_eq (show ib+1+k2=b.size by simpa using c7).symm))⟩)) (λc7=>?_);let b6:ib+1+k2<b.size:=by simp at c7;omega
     let l6:ib+1<=ib+1+k2:=Nat.le_add_right _ _;clear c7 hk3;generalize o4.push b[ib]++b.extract (ib+1) (ib+1+k2)=o6 at m6 ⊢;generalize ib+1+k2=i6 at m6 b6 l6 aft2 ⊢;revert aft2;revert l6;revert b6;revert m6;revert i6;revert o6;calc ?K3;rotate_left;let hk00:k2=0:=()
     exact ?K3 _ _ m5 c6' (AF _) (λx hx=>aft2 x (by rw[hk00];calc hx));intro o6 i6 m6 b6 l6 aft2;refine Aa (λP g=>zc ea4 g) ?_;let m7:=m6.pushA ea4 aft2;refine zK (λc8=>wpS_pure (.inl ⟨_,rfl,⟨hs2.k,hs2.a,hs2.p,hs2.f⟩,lastA m7 (~~~c8)⟩)) (λc8=>?_);let a7:i4+1+1<a.size:=by simp at c8;omega
     let l7:_<=i4+1+i6:=An hy2 ();calc zK (λ_=>wpS_pure (.inr ⟨_,_,_,_,_,_,rfl,⟨m7,⟨hs2.k,hs2.a,hs2.p,hs2.f⟩,a7,b6⟩,l7⟩)) (λ_=>wpS_pure ⟨_,_,_,_,_,_,rfl,⟨m7,⟨hs2.k,hs2.a,hs2.p,hs2.f⟩,a7,b6⟩,l7⟩)
end
section
variable {prog:Ym} {w:Yo} {A:Yn} {E:Yc} {s:Yl} {κ:SortKind} {vs:Yf} {r:Yr} {a b out:Array Keyed} {na nb:Nat}
def MH (r:Yr) (a b out:Array Keyed) (na nb:Nat):Prop:=MI (geR r) (a.toList++b.toList) out.toList (a.toList.take na).reverse (b.toList.take nb).reverse
def Mp (e:a[i]?=some x):(a.toList.take (i+1)).reverse=x::(a.toList.take i).reverse:=by
 rw[List.take_add_one,Am,e];simp
def Fe (h:x∈a.toList.take n):∃ j,j<n/\a[j]?=some x:=by
 let⟨j,e⟩:=List.mem_iff_getElem?.mp h;rw[List.getElem?_take]at e;cbv at e
 .rw[Am]at e;exact ⟨j,by assumption,e⟩
 .cases e
def MH.pushA (h:MH r a b out (na+1) nb) (e:a[na]?=some x) (hx:∀ y∈b.toList.take nb,r y.1<=r x.1):MH r a b (out.push x) na nb:=by
 unfold MH at h ⊢;rw[Mp e]at h;rw[Array.toList_push];exact MI.takeL (p:=[x]) h λy hy z hz=>by rw[AW.mp hy];calc hx z (~~~hz)
def MH.pushB (h:MH r a b out na (nb+1)) (e:b[nb]?=some y) (hy:∀ x∈a.toList.take na,r x.1<=r y.1):MH r a b (out.push y) na nb:=by
 unfold MH at h ⊢;rw[Mp e]at h;rw[Array.toList_push];exact MI.takeR (p:=[y]) h λx hx z hz=>by rw[AW.mp hx];calc hy z (~~~hz)
def PQ (a:Array Keyed) (h:i<=n):(a.toList.take n).reverse=(a.extract i n).reverse.toList++(a.toList.take i).reverse:=by
 rw[Array.toList_reverse,Array.toList_extract,List.extract_eq_take_drop,<-List.reverse_append];congr 1;rw[<-List.drop_take];conv=>lhs;rw[<-Cz i (a.toList.take n),List.take_take,Nat.min_eq_left h]
def MH.blockA (h:MH r a b out na nb) (hi:i<=na) (hx:∀ j x,i<=j->j<na->a[j]?=some x -> ∀ y∈b.toList.take nb,r y.1<=r x.1):MH r a b (out++(a.extract i na).reverse) i nb:=by
 unfold MH at h ⊢;rw[PQ a hi]at h;rw[Array.toList_append];refine MI.takeL h λx hx' y hy=>?_;rw[Array.toList_reverse,List.mem_reverse,Array.toList_extract,List.extract_eq_take_drop]at hx';let⟨j,hj,ej⟩:=IQ hx';calc hx (i+j) x () () ej y (~~~hy)
def MH.blockB (h:MH r a b out na nb) (hi:i<=nb) (hx:∀ j x,i<=j->j<nb->b[j]?=some x -> ∀ y∈a.toList.take na,r y.1<=r x.1):MH r a b (out++(b.extract i nb).reverse) na i:=by
 unfold MH at h ⊢;rw[PQ b hi]at h;rw[Array.toList_append];refine MI.takeR h λx hx' y hy=>?_;rw[Array.toList_reverse,List.mem_reverse,Array.toList_extract,List.extract_eq_take_drop]at hx';let⟨j,hj,ej⟩:=IQ hx';calc hx (i+j) x () () ej y (~~~hy)
def IM (a:Array Keyed) (n:Nat):(a.extract 0 n).toList=a.toList.take n:=by
 rw[Array.toList_extract,List.extract_eq_take_drop];simp
def Mgd.rev (h:Mgd (geR r) C xs):Mgd (leR r) C xs.reverse:=⟨(List.reverse_perm _).trans h.1,List.pairwise_reverse.mpr h.2⟩
def MH.done (h:MH r a b out na nb) (e:na=0\/nb=0):Mgd (leR r) (a.toList++b.toList) (a.extract 0 na++b.extract 0 nb++out.reverse).toList:=by
 erw[MH]at h;rw[Array.toList_append,Array.toList_append,IM,IM,Array.toList_reverse];rcases e with rfl|rfl
 .have:=h.endR.rev;simpa using this
 .have:=(MI.endL (l:=(a.toList.take na).reverse) (~~~h)).rev;simpa using this
def MH.firstB (h:MH r a b out na nb) (hl:∀ x∈a.toList.take na,∀ y∈b.toList.take nb,r y.1<=r x.1):Mgd (leR r) (a.toList++b.toList) (b.extract 0 nb++a.extract 0 na++out.reverse).toList:=by
 erw[MH]at h;let h2:=MI.endR (MI.takeL (p:=(a.toList.take na).reverse) (l:=[]) (~~~h) λx hx y hy=>hl x (~~~hx) y (~~~hy));rw[Array.toList_append,Array.toList_append,IM,IM,Array.toList_reverse];simpa using h2.rev
structure Fr2 (r:Yr) (a b:Array Keyed) (st st':SortSt) (out:Array Keyed) (na nb:Nat):Prop where
 m:MH r a b out na nb
 s:SameS st st'
 a0:0<na
 b0:1<nb
 al:na<a.size
 bl:nb<=b.size
set_option maxHeartbeats 4000000 in
def Za (R:B9 prog w s κ vs r) (ha:∀ x∈a.toList,x.1∈vs) (hb:∀ x∈b.toList,x.1∈vs) (sa:a.toList.Pairwise (leR r)) (sb:b.toList.Pairwise (leR r)) (h0:0<a.size) (h1:0<b.size)
  (hf:∀ y,b[0]?=some y -> ∀ x∈a.toList,r y.1<=r x.1) (hl:∀ y∈b.toList,∀ x,a[a.size-1]?=some x->r y.1<=r x.1) {st:SortSt} (hk:kindOf st=κ) {Q:Array Keyed->SortSt->Prop}
  (h:∀ out st',SameS st st'->Mgd (leR r) (a.toList++b.toList) out.toList->Q out st'):wpS (model prog w) A E s (RX a b) Q st:=by
 let firstB:∀ {out na nb},MH r a b out na nb->nb=1->Mgd (leR r) (a.toList++b.toList) (b.extract 0 nb++a.extract 0 na++out.reverse).toList:=λ{out na nb} m e=>m.firstB λx hx y hy=>by
  let⟨j,hj,ej⟩:=Fe hy;have:j=0:=()
  subst this;exact hf y ej x (List.mem_of_mem_take hx)
 let e0:a[a.size-1]?=some a[a.size-1]:=BM ();refine Aa (λP g=>wpS_lift (Bc ⟨rfl,g⟩)) ?_;refine Aa (λP g=>zc e0 g) ?_;let m0:MH r a b #[] (a.size-1+1) b.size:=by
  refine ⟨?_,.nil,?_,?_,(λx hx=>absurd hx (by simp)),(λx hx=>absurd hx (by simp))⟩
  .show ([]++((a.toList.take (a.size-1+1)).reverse++(b.toList.take b.size).reverse)).Perm _;rw[List.nil_append,show a.size-1+1=a.toList.length by simp;omega,show b.size=b.toList.length by simp,List.take_length,List.take_length];exact List.Perm.append (List.reverse_perm _) (List.reverse_perm _)
  .exact List.pairwise_reverse.mpr (sa.sublist (List.take_sublist _ _))
  .exact List.pairwise_reverse.mpr (sb.sublist (List.take_sublist _ _))
 let m1:MH r a b #[a[a.size-1]] (a.size-1) b.size:=m0.pushA e0 λy hy=>hl y (List.mem_of_mem_take hy) _ e0;refine zK (λc1=>wpS_pure (h _ _ (.refl _) (m1.done (.inl (~~~c1))))) (λc1=>?_);refine zK (λc2=>wpS_pure (h _ _ (.refl _) (firstB m1 (~~~c2)))) (λc2=>?_);let c1':¬ a.size-1=0:=by simpa using c1
 let c2':¬ b.size=1:=by simpa using c2
 refine Aa (λP g=>wpS_get g) ?_;refine wpS_bind (wpS_mono (wpS_forRange (I:=λx c st'=>∃ out na nb g,c=(none,na,nb,out,g)/\Fr2 r a b st st' out na nb/\x+1+(na+nb)<=a.size+b.size) (Q:=λc st'=>∃ res,c.1=some res/\SameS st st'/\Mgd (leR r) (a.toList++b.toList) res.toList) ?step ?fin ⟨_,_,_,_,rfl,⟨m1,.refl _,(),(),(),()⟩,()⟩) ?post)
 case fin=>
  intro c st' hI;refine qz λG=>?_;let⟨out,na,nb,g,eI1,f,hx⟩:=hI;calc G ?_;clear G;subst eI1;have:=f.a0;have:=f.b0;omega
 case post=>
  rintro ⟨c1,c2⟩ st' ⟨res,e,hs,hm⟩;dsimp only at e;subst e;exact wpS_pure (h _ _ hs hm)
 case step=>
  intro x c st' _ hx hI;refine qz λG=>?_;let⟨out,na,nb,g,eI1,f,hx2⟩:=hI;calc G ?_;clear G;subst eI1;refine Aa (λP=>wpS_mono (wpS_forRange (I:=λy c st'=>∃ out2 na2 nb2 ca cb,c=(none,na2,nb2,out2,ca,cb)/\Fr2 r a b st st' out2 na2 nb2/\na2+nb2+y<=na+nb) (Q:=λc st'=>(∃ res,c.1=some res/\SameS st st'/\Mgd (leR r) (a.toList++b.toList) res.toList) \/ ∃ out2 na2 nb2 ca cb,c=(none,na2,nb2,out2,ca,cb)/\Fr2 r a b st st' out2 na2 nb2/\na2+nb2+1<=na+nb) ?step1 ?fin1 ⟨out,na,nb,_,_,rfl,f,()⟩)) ?post1
  case fin1=>
   intro c st' hI;refine qz λG=>?_;let⟨out2,na,nb,ca,cb,eI1,f,hy⟩:=hI;calc G ?_;clear G;subst eI1;exact .inr ⟨_,_,_,_,_,rfl,f,()⟩
  case step1=>
   intro y c st' _ hy hI;refine qz λG=>?_;let⟨out2,na2,nb2,ca,cb,eI1,f,hy2⟩:=hI;calc G ?_;clear G;subst eI1;obtain ⟨p,rfl⟩:∃ p,na2=p+1:=⟨na2-1,by have:=f.a0;omega⟩;obtain ⟨q,rfl⟩:∃ q,nb2=q+1:=⟨nb2-1,by have:=f.b0;omega⟩;let hp:p<a.size:=by have:=f.al;omega
   let hq:q<b.size:=by have:=f.bl;omega
   let eb:b[q]?=some b[q]:=BM hq;let ea:a[p]?=some a[p]:=BM hp;refine Aa (λP g=>zc eb g) (Aa (λP g=>zc ea g) (Aa (λP g=>Gr R (f.s.k.trans hk) (hb _ (Ci eb)) (ha _ (Ci ea)) g) ?_));dsimp only;by_cases hlt:r b[q].1<r a[p].1
   .rw[BF hlt,AD rfl];refine Aa (λP g=>zc ea g) ?_;let m2:MH r a b (out2.push a[p]) p (q+1):=f.m.pushA ea λz hz=>by
     let⟨j,hj,ej⟩:=Fe hz;have:=DT sb (show j<=q by omega) ej eb;omega
    refine zK (λc3=>wpS_pure (.inl ⟨_,rfl,f.s,m2.done (.inl (~~~c3))⟩)) (λc3=>?_);let f2:Fr2 r a b st st' (out2.push a[p]) p (q+1):=⟨m2,f.s,by simp at c3;omega,f.b0,(),f.bl⟩;exact zK (λ_=>wpS_pure (.inr ⟨_,_,_,_,_,rfl,f2,()⟩)) (λ_=>wpS_pure ⟨_,_,_,_,_,rfl,f2,()⟩)
   .rw[A6 hlt,AE ()];refine Aa (λP g=>zc eb g) ?_;let m2:MH r a b (out2.push b[q]) (p+1) q:=f.m.pushB eb λz hz=>by
     let⟨j,hj,ej⟩:=Fe hz;have:=DT sa (show j<=p by omega) ej ea;omega
    refine zK (λc3=>wpS_pure (.inl ⟨_,rfl,f.s,firstB m2 (~~~c3)⟩)) (λc3=>?_);let f2:Fr2 r a b st st' (out2.push b[q]) (p+1) q:=⟨m2,f.s,f.a0,by have:=f.b0;simp at c3;omega,f.al,()⟩;exact zK (λ_=>wpS_pure (.inr ⟨_,_,_,_,_,rfl,f2,()⟩)) (λ_=>wpS_pure ⟨_,_,_,_,_,rfl,f2,()⟩)
  case post1=>
   intro c st' hI;refine qz λG=>?_;obtain ⟨res,e,hs,hm⟩|⟨out2,na2,nb2,ca,cb,e,f,hy⟩:=hI
   .obtain ⟨c2,rfl⟩:∃ c2,c=(some res,c2):=⟨c.2,by ext c;ext e;rfl⟩;exact G (wpS_pure ⟨res,rfl,hs,hm⟩)
   .refine G ?_;clear G;subst e;refine Aa (λP g=>wpS_lift (Bc ⟨rfl,g⟩)) ?_;refine wpS_bind (wpS_mono (wpS_forRange (I:=λy c st'=>∃ out3 na3 nb3 g ca cb,c=(none,na3,nb3,out3,g,ca,cb)/\Fr2 r a b st st' out3 na3 nb3/\na3+nb3<=na2+nb2) (Q:=λc st'=>(∃ res,c.1=some res/\SameS st st'/\Mgd (leR r) (a.toList++b.toList) res.toList) \/ ∃ out3 na3 nb3 g ca cb,c=(none,na3,nb3,out3,g,ca,cb)/\Fr2 r a b st st' out3 na3 nb3/\na3+nb3<=na2+nb2) ?step2 ?fin2 ⟨out2,na2,nb2,_,_,_,rfl,f,()⟩) ?post2)
    case fin2=>
     intro c st' hI;refine qz λG=>?_;let⟨out3,na,nb,g,ca,cb,eI1,f,hy⟩:=hI;calc G ?_;clear G;subst eI1;exact .inr ⟨_,_,_,_,_,_,rfl,f,hy⟩
    case post2=>
     intro c st' hI;refine qz λG=>?_;obtain ⟨res,e,hs,hm⟩|⟨out3,na3,nb3,g,ca,cb,e,f,hz⟩:=hI
     .obtain ⟨c2,rfl⟩:∃ c2,c=(some res,c2):=⟨c.2,by ext c;ext e;rfl⟩;exact G (wpS_pure ⟨res,rfl,hs,hm⟩)
     .refine G ?_;clear G;subst e;exact wpS_bind (wpS_modify (wpS_pure ⟨out3,na3,nb3,_,rfl,⟨f.m,⟨f.s.k,f.s.a,f.s.p,f.s.f⟩,f.a0,f.b0,f.al,f.bl⟩,()⟩))
    case step2=>
     intro y c st' _ hy hI;refine qz λG=>?_;let⟨out3,na3,nb3,g,ca,cb,eI1,f,hy2⟩:=hI;calc G ?_;clear G;subst eI1;dsimp only;generalize hq1:nb3-1=q;obtain rfl:nb3=q+1:=by have:=f.b0;omega
     clear hq1;let hq:q<b.size:=by have:=f.bl;omega
     let hq0:0<q:=by have:=f.b0;omega
     let hn0:=f.a0;let hnl:=f.al;let eb:b[q]?=some b[q]:=BM hq;refine zK (λcg=>?_) (λcg=>?_);clear cg;generalize g-1=g';revert g';refine ?K;rotate_left;clear cg;exact ?K _;intro g';refine Aa (λP g=>wpS_modify g) ?_;refine Aa (λP g=>zc eb g) ?_;let hs2:=f.s;refine Aa (λP=>GH (left:=false) (key:=b[q]) (arr:=a) (base:=0) (n:=na3) (hint:=na3-1) R (hs2.k.trans hk) (hb _ (Ci eb)) (λi hi=>⟨_,BM (),ha _ (Ci (BM ()))⟩) (λi j x y hij hj ex ey=>DT sa () ex ey) ()) λk hk1 g1 g2=>?_;let aft:∀ x∈a.toList.take k,r x.1<=r b[q].1:=λx hx=>by
      let⟨j,hj,ej⟩:=Fe hx;exact g1 j x hj (by rw[Nat.zero_add];calc ej)
     refine zK (λhk0=>?_) (λhk0=>?_);let m4:=f.m.blockA hk1 λj x h1 h2 ej y hy=>by
      let⟨i,hi,ei⟩:=Fe hy;let z1:=DT sb (show i<=q by omega) ei eb;let z2:r b[q].1<r x.1:=g2 j x h1 h2 (by rw[Nat.zero_add];calc ej);omega
     refine zK (λc4=>wpS_pure (.inl ⟨_,rfl,⟨hs2.k,hs2.a,hs2.p,hs2.f⟩,m4.done (.inl (~~~c4))⟩)) (λc4=>?_);let a4:0<k:=by simp at c4;omega
     clear c4 hk0 g1 g2;generalize na3-k=ac;generalize out3++(a.extract k na3).reverse=o4 at m4 ⊢;revert m4;revert o4;revert a4;revert aft;revert hk1;revert k;revert ac;calc ?K2;rotate_left;let hk00:k=na3:=by simp at hk0;omega
     calc ?K2 _ _ (AF _) (hk00▸aft) hn0 _ f.m;intro ac k hk1 aft a4 o4 m4;refine Aa (λP g=>zc eb g) ?_;let m5:=m4.pushB eb aft;refine zK (λc6=>wpS_pure (.inl ⟨_,rfl,⟨hs2.k,hs2.a,hs2.p,hs2.f⟩,firstB m5 (~~~c6)⟩)) (λc6=>?_);let c6':1<q:=by simp at c6;omega
     obtain ⟨p,rfl⟩:∃ p,k=p+1:=⟨k-1,()⟩;let hp:p<a.size:=()
     let ea4:a[p]?=some a[p]:=BM hp;refine Aa (λP g=>zc ea4 g) ?_;refine Aa (λP=>GH (left:=true) (key:=a[p]) (arr:=b) (base:=0) (n:=q) (hint:=q-1) R (hs2.k.trans hk) (ha _ (Ci ea4)) (λi hi=>⟨_,BM (),hb _ (Ci (BM ()))⟩) (λi j x y hij hj ex ey=>DT sb () ex ey) ()) λk2 hk2 g3 g4=>?_;let aft2:∀ y∈b.toList.take k2,r y.1<=r a[p].1:=λy hy=>by
      let⟨j,hj,ej⟩:=Fe hy;exact CH (g3 j y hj (by rw[Nat.zero_add];calc ej))
     refine zK (λhk3=>?_) (λhk3=>?_);let m6:=m5.blockB hk2 λj x h1 h2 ej y hy=>by
      let⟨i,hi,ei⟩:=Fe hy;let z1:=DT sa (show i<=p by omega) ei ea4;let z2:r a[p].1<=r x.1:=g4 j x h1 h2 (by rw[Nat.zero_add];calc ej);omega
     refine zK (λc7=>wpS_pure (.inl ⟨_,rfl,⟨hs2.k,hs2.a,hs2.p,hs2.f⟩,firstB m6 (~~~c7)⟩)) (λc7=>zK (λc8=>wpS_pure (.inl ⟨_,rfl,⟨hs2.k,hs2.a,hs2.p,hs2.f⟩,m6.done (.inr (~~~c8))⟩)) (λc8=>?_));let b6:1<k2:=by simp at c7 c8;omega
     clear c7 c8 hk3 g3 g4;generalize q-k2=bc;generalize o4.push b[q]++(b.extract k2 q).reverse=o6 at m6 ⊢;revert m6;revert o6;revert b6;revert aft2;revert hk2;revert k2;revert bc;calc ?K3;rotate_left;let hk00:k2=q:=by simp at hk3;omega
     calc ?K3 _ _ (AF _) (hk00▸aft2) c6' _ m5;intro bc k2 hk2 aft2 b6 o6 m6;refine Aa (λP g=>zc ea4 g) ?_;let m7:=m6.pushA ea4 aft2;refine zK (λc9=>wpS_pure (.inl ⟨_,rfl,⟨hs2.k,hs2.a,hs2.p,hs2.f⟩,m7.done (.inl (~~~c9))⟩)) (λc9=>?_);let a7:0<p:=by simp at c9;omega
     let b7:k2<=b.size:=()
     let l7:p+k2<=na2+nb2:=()
     calc zK (λ_=>wpS_pure (.inr ⟨_,p,k2,_,_,_,rfl,⟨m7,⟨hs2.k,hs2.a,hs2.p,hs2.f⟩,a7,b6,hp,b7⟩,l7⟩)) (λ_=>wpS_pure ⟨_,p,k2,_,_,_,rfl,⟨m7,⟨hs2.k,hs2.a,hs2.p,hs2.f⟩,a7,b6,hp,b7⟩,l7⟩)
end
section
variable {prog:Ym} {w:Yo} {A:Yn} {E:Yc} {s:Yl} {κ:SortKind} {vs:Yf} {r:Yr}
theorem OQ:∀ (m:List Keyed) (k sa:Nat) (arr:Array Keyed),sa+k+m.length<=arr.size->((m.zipIdx k).foldl (λa x=>match x with|(p,j)=>a.setIfInBounds (sa+j) p) arr).toList=arr.toList.take (sa+k)++m++arr.toList.drop (sa+k+m.length)
 |[],k,sa,arr,h=>by simp
 |x::m,k,sa,arr,h=>by
  rw[List.zipIdx_cons,List.foldl_cons];simp only[Cu]at h;rw[OQ m (k+1) sa _ (by rw[Array.size_setIfInBounds];omega)];rw[Array.toList_setIfInBounds];let hl:arr.toList.length=arr.size:=by simp
  let e1:(arr.toList.set (sa+k) x).take (sa+(k+1))=arr.toList.take (sa+k)++[x]:=by
   rw[show sa+(k+1)=(sa+k)+1 by omega,List.take_add_one,List.take_set,Bv ()];rw[List.set_eq_of_length_le (by simp;omega)];simp
  let e2:(arr.toList.set (sa+k) x).drop (sa+(k+1)+m.length)=arr.toList.drop (sa+k+(m.length+1)):=by
   rw[List.drop_set_of_lt ()];congr 1;omega
  rw[e1,e2];simp
def LX {T R1 U:List Keyed} (h:i<R1.length):(T++(R1++U))[T.length+i]?=R1[i]?:=by
 rw[Dk (),BI ()];congr 1;omega
def MP {l:List Keyed} (h:x∈l.take k):∃ j,j<k/\l[j]?=some x:=by
 let⟨j,e⟩:=List.mem_iff_getElem?.mp h;rw[List.getElem?_take]at e;cbv at e
 .exact ⟨j,by assumption,e⟩
 .cases e
def Nh {l:List Keyed} (h:x∈l.drop k):∃ j,k<=j/\l[j]?=some x:=by
 let⟨j,e⟩:=List.mem_iff_getElem?.mp h;rw[List.getElem?_drop]at e;calc ⟨k+j,(),e⟩
def SE (R:B9 prog w s κ vs r) {st:SortSt} (hk:kindOf st=κ) (hfl:failedOf st=none) {i sa na pw sb nb pw2:Nat} {T R1 R2 U:List Keyed} (ha:(arrOf st).toList=T++(R1++(R2++U))) (hv:∀ x∈(arrOf st).toList,x.1∈vs) (hT:T.length=sa) (h1:R1.length=na) (hsb:sb=sa+na) (h2:R2.length=nb) (n1:0<na) (n2:0<nb)
  (s1:R1.Pairwise (leR r)) (s2:R2.Pairwise (leR r)) (e1:(pendingOf st)[i]?=some (sa,na,pw)) (e2:(pendingOf st)[i+1]?=some (sb,nb,pw2)) {Q:Bool->SortSt->Prop}
  (h:∀ m st',kindOf st'=κ->failedOf st'=none->pendingOf st'=((pendingOf st).setIfInBounds i (sa,na+nb,pw)).eraseIdxIfInBounds (i+1)->(arrOf st').toList=T++(m++U)->m.Perm (R1++R2)->m.Pairwise (leR r)->Q true st') :
  wpS (model prog w) A E s (mergeAt' i) Q st:=by
 subst hT h1 h2 hsb;let at1:∀ j,j<R1.length->(arrOf st)[T.length+j]?=R1[j]?:=λj hj=>by rw[<-Am,ha];exact LX hj
 let at2:∀ j,j<R2.length->(arrOf st)[T.length+R1.length+j]?=R2[j]?:=λj hj=>by
  rw[<-Am,ha,<-CS,show T.length+R1.length=(T++R1).length by simp];exact LX hj
 let srt1:∀ {i j:Nat} {x y:Keyed},i<=j->R1[i]?=some x->R1[j]?=some y->r x.1<=r y.1:=λ{i j x y} hij ex ey=>DT (~~~s1) hij (~~~ex) (~~~ey);let srt2:∀ {i j:Nat} {x y:Keyed},i<=j->R2[i]?=some x->R2[j]?=some y->r x.1<=r y.1:=λ{i j x y} hij ex ey=>DT (~~~s2) hij (~~~ex) (~~~ey);let v1:∀ x∈R1,x.1∈vs:=λx hx=>hv x (by rw[ha];simp[hx]);let v2:∀ x∈R2,x.1∈vs:=λx hx=>hv x (by rw[ha];simp[hx]);let g1:∀ {j} (hj:j<R1.length),R1[j]?=some R1[j]:=λhj=>AJ hj;let g2:∀ {j} (hj:j<R2.length),R2[j]?=some R2[j]:=λhj=>AJ hj;refine wpS_bind (wpS_get ?_);rw[e1,e2];let eb0:(arrOf st)[T.length+R1.length]?=some R2[0]:=(at2 0 n2).trans (g2 n2);refine wpS_bind (wpS_modify ?_);refine wpS_bind (zc eb0 ?_);refine wpS_bind (GH R hk (v2 _ (Au n2)) (λj hj=>⟨_,(at1 j hj).trans (g1 hj),v1 _ (Au hj)⟩) (λi j x y hij hj ex ey=>srt1 hij ((at1 i ()).symm.trans ex) ((at1 j hj).symm.trans ey)) n1 λk hk1 q1 q2=>?_);let hP:∀ x∈R1.take k,r x.1<=r R2[0].1:=λx hx=>by
  let⟨j,hj,ej⟩:=MP hx;exact q1 j x hj ((at1 j ()).trans ej)
 let hX:∀ x∈R1.drop k,r R2[0].1<=r x.1:=λx hx=>by
  let⟨j,hj,ej⟩:=Nh hx;let hl:=(AK.mp ej).1;exact CH (q2 j x hj hl ((at1 j hl).trans ej))
 let h0:∀ y∈R2,r R2[0].1<=r y.1:=λy hy=>by
  let⟨j,ej⟩:=List.mem_iff_getElem?.mp hy;exact srt2 (Bh _) (g2 n2) ej
 refine zK (λc1=>?_) (λc1=>?_)
 .have hk2:R1.length<=k:=by simp at c1;omega
  rw[List.take_of_length_le hk2]at hP;exact wpS_pure (h (R1++R2) _ hk hfl rfl (by rw[ha];simp) (.refl _) (List.pairwise_append.mpr ⟨s1,s2,λx hx y hy=>An (hP x hx) (h0 y hy)⟩))
 let hkl:k<R1.length:=by simp at c1;omega
 let nl:R1.length-1<R1.length:=()
 let eL:(arrOf st)[T.length+k+(R1.length-k)-1]?=some R1[R1.length-1]:=by
  rw[show T.length+k+(R1.length-k)-1=T.length+(R1.length-1) by omega];exact (at1 _ nl).trans (g1 nl)
 refine wpS_bind (zc eL ?_);refine wpS_bind (GH R hk (v1 _ (Au nl)) (λj hj=>⟨_,(at2 j hj).trans (g2 hj),v2 _ (Au hj)⟩) (λi j x y hij hj ex ey=>srt2 hij ((at2 i ()).symm.trans ex) ((at2 j hj).symm.trans ey)) () λk2 hk2 q3 q4=>?_);let hXl:∀ x∈R1,r x.1<=r R1[R1.length-1].1:=λx hx=>by
  let⟨j,ej⟩:=List.mem_iff_getElem?.mp hx;let hl:=(AK.mp ej).1;exact srt1 () ej (g1 nl)
 let hY:∀ y∈R2.take k2,r y.1<=r R1[R1.length-1].1:=λy hy=>by
  let⟨j,hj,ej⟩:=MP hy;exact CH (q3 j y hj ((at2 j ()).trans ej))
 let hS:∀ y∈R2.drop k2,r R1[R1.length-1].1<=r y.1:=λy hy=>by
  let⟨j,hj,ej⟩:=Nh hy;let hl:=(AK.mp ej).1;exact q4 j y hj hl ((at2 j hl).trans ej)
 refine zK (λc2=>?_) (λc2=>?_)
 .have:k2=0:=by simpa using c2
  subst this;exact wpS_pure (h (R1++R2) _ hk hfl rfl (by rw[ha];simp) (.refl _) (List.pairwise_append.mpr ⟨s1,s2,λx hx y hy=>An (hXl x hx) (hS y (~~~hy))⟩))
 let hk20:0<k2:=by simp at c2;omega
 let eX:((arrOf st).extract (T.length+k) (T.length+R1.length)).toList=R1.drop k:=by
  rw[Array.toList_extract,List.extract_eq_take_drop,ha,List.drop_append,List.drop_of_length_le (),List.nil_append,show T.length+k-T.length=k by omega,List.drop_append_of_le_length (),show T.length+R1.length-(T.length+k)=(R1.drop k).length by simp;omega,List.take_left'];rfl
 let eY:((arrOf st).extract (T.length+R1.length) (T.length+R1.length+k2)).toList=R2.take k2:=by
  rw[KJ,ha,<-CS,show T.length+R1.length=(T++R1).length by simp,List.drop_left',List.take_append_of_le_length hk2];rfl
 generalize hx0:(arrOf st).extract (T.length+k) (T.length+R1.length)=x0 at eX;generalize hy0:(arrOf st).extract (T.length+R1.length) (T.length+R1.length+k2)=y0 at eY;let zx:x0.size=R1.length-k:=by rw[<-AU,eX,D0]
 let zy:y0.size=k2:=by rw[<-AU,eY,BY];omega
 let w1:∀ y,y0[0]?=some y -> ∀ x∈x0.toList,r y.1<=r x.1:=λy ey x hx=>by
  rw[<-Am,eY,List.getElem?_take,AD hk20,g2 n2]at ey;ext ey;rw[eX]at hx;exact hX x hx
 let w2:∀ y∈y0.toList,∀ x,x0[x0.size-1]?=some x->r y.1<=r x.1:=λy hy x ex=>by
  rw[<-Am,eX,List.getElem?_drop,zx,show k+(R1.length-k-1)=R1.length-1 by omega,g1 nl]at ex;ext ex;rw[eY]at hy;exact hY y hy
 let fin:∀ (out:Array Keyed) (st':SortSt),SameS (SortSt.mk' (kindOf st) (arrOf st) (((pendingOf st).setIfInBounds i (T.length,R1.length+R2.length,pw)).eraseIdxIfInBounds (i+1)) (gallopOf st) (failedOf st)) st'->Mgd (leR r) (x0.toList++y0.toList) out.toList ->
   wpS (model prog w) A E s (do
    modify λs=>setArr s (out.toList.zipIdx.foldl (λa x=>match x with|(p,j)=>a.setIfInBounds (T.length+k+j) p) (arrOf s));let s <- get;pure (failedOf s).isNone) Q st':=by
  intro out st' sm mg;refine wpS_bind (wpS_modify (wpS_bind (wpS_get ?_)));let hf:failedOf st'=none:=sm.f.trans hfl;rw[hf];rw[eX,eY]at mg;let hlen:out.toList.length=(R1.length-k)+k2:=by
   rw[mg.1.length_eq,BK,D0,BY];omega
  let ea:arrOf st'=arrOf st:=sm.a;let e3:((out.toList.zipIdx).foldl (λa x=>match x with|(p,j)=>a.setIfInBounds (T.length+k+j) p) (arrOf st')).toList=T++((R1.take k++(out.toList++R2.drop k2))++U):=by
   let hsz:(arrOf st').size=T.length+(R1.length+(R2.length+U.length)):=by rw[ea,<-AU,ha];simp
   rw[OQ out.toList 0 (T.length+k) (arrOf st') (),ea,ha];let t1:List.take (T.length+k+0) (T++(R1++(R2++U)))=T++R1.take k:=by
    rw[Nat.add_zero,List.take_append,List.take_of_length_le (),show T.length+k-T.length=k by omega,List.take_append_of_le_length ()]
   let t2:List.drop (T.length+k+0+out.toList.length) (T++(R1++(R2++U)))=R2.drop k2++U:=by
    rw[show T.length+k+0+out.toList.length=(T++R1).length+k2 by rw[hlen];simp;omega,<-CS,List.drop_append,List.drop_of_length_le (),List.nil_append,show (T++R1).length+k2-(T++R1).length=k2 by omega,List.drop_append_of_le_length hk2]
   rw[t1,t2];simp
  let p1:=List.pairwise_append.mp (show (R1.take k++R1.drop k).Pairwise (leR r) by rw[Cz];calc s1);let p2:=List.pairwise_append.mp (show (R2.take k2++R2.drop k2).Pairwise (leR r) by rw[Cz];calc s2);let mo:∀ x,x∈out.toList->x∈R1.drop k\/x∈R2.take k2:=λx hx=>Ab.mp (mg.1.mem_iff.mp hx);refine wpS_pure (h (R1.take k++(out.toList++R2.drop k2)) _ (sm.k.trans hk) hf sm.p e3 ?_ ?_)
  .refine ((mg.1.append_right (R2.drop k2)).append_left (R1.take k)).trans ?_;rw[CS,Cz,<-CS,Cz]
  .refine List.pairwise_append.mpr ⟨p1.1,List.pairwise_append.mpr ⟨mg.2,p2.2.1,λx hx y hy=>?_⟩,λx hx y hy=>?_⟩
   .rcases mo x hx with z|z
    .exact An (hXl x (FX z)) (hS y hy)
    .exact p2.2.2 x z y hy
   .rcases Ab.mp hy with z|z
    .rcases mo y z with z|z
     .exact p1.2.2 x hx y z
     .exact An (hP x hx) (h0 y (List.mem_of_mem_take z))
    .exact An (hP x hx) (h0 y (FX z))
 let x1:∀ x∈x0.toList,x.1∈vs:=λx hx=>v1 x (FX (eX▸hx));let y1:∀ x∈y0.toList,x.1∈vs:=λx hx=>v2 x (List.mem_of_mem_take (eY▸hx));let x2:x0.toList.Pairwise (leR r):=eX▸s1.sublist (List.drop_sublist _ _);let y2:y0.toList.Pairwise (leR r):=eY▸s2.sublist (List.take_sublist _ _);refine zK (λc3=>?_) (λc3=>?_)
 .subst hx0 hy0;calc wpS_bind (SM R x1 y1 x2 y2 () () w1 w2 ?_ fin);exact hk
 .subst hx0 hy0;calc wpS_bind (Za R x1 y1 x2 y2 () () w1 w2 ?_ fin);calc hk
end
def KR (r:Yr) (xs:Array Keyed) (i:Nat):Nat:=match xs[i]? with
 |some p=>r p.1
 |none=>0
def RUp (r:Yr) (xs:Array Keyed) (lo hi:Nat):Prop:=∀ i j,lo<=i->i<=j->j<hi->KR r xs i<=KR r xs j
def RDn (r:Yr) (xs:Array Keyed) (lo hi:Nat):Prop:=∀ i j,lo<=i->i<=j->j<hi->KR r xs j<=KR r xs i
section
variable {prog:Ym} {w:Yo} {A:Yn} {E:Yc} {s:Yl} {κ:SortKind} {vs:Yf} {r:Yr}
def HP {xs ys:Array Keyed} {i j:Nat} (h:xs[i]?=ys[j]?):KR r xs i=KR r ys j:=by erw[KR];rw[h]
def Km {xs:Array Keyed} {i j:Nat} (hj:j<=xs.size) (k:Nat):KR r (mirror xs i j ((j-i) / 2)) k=if i<=k/\k<j then KR r xs (i+j-1-k) else KR r xs k:=by
 let e:=getElem?_mirror_all (i:=i) hj k;cbv at e
 .rw[AD (by assumption)];exact HP e
 .rw[AE (by assumption)];calc HP e
def M8 {xs:Array Keyed} {src d:Nat} (hs:src<xs.size) (hd:d<=src) (k:Nat):KR r (bubble xs src d) k=if k=src-d then KR r xs src else if src-d<k/\k<=src then KR r xs (k-1) else KR r xs k:=by
 let e:=getElem?_bubble hs d hd k;cbv at e
 .rw[AD (by assumption)];exact HP e
 .rw[AE (by assumption)];cbv at e
  .rw[AD (by assumption)];exact HP e
  .rw[AE (by assumption)];calc HP e
def HV {xs:Array Keyed} {i j:Nat} (hj:j<=xs.size) (he:∀ k,i<=k->k<j->KR r xs k=KR r xs (j-1)) (k:Nat):KR r (mirror xs i j ((j-i) / 2)) k=KR r xs k:=by
 rw[Km hj];split
 .rw[he _ () (),he k () ()]
 .rfl
structure CB (lo:Nat) (st0 st:SortSt):Prop where
 k:kindOf st=kindOf st0
 p:pendingOf st=pendingOf st0
 f:failedOf st=failedOf st0
 perm:(arrOf st).Perm (arrOf st0)
 pre:∀ j,j<lo->(arrOf st)[j]?=(arrOf st0)[j]?
def CB.refl (lo:Nat) (st:SortSt):CB lo st st:=⟨rfl,rfl,rfl,.refl _,λ_ _=>rfl⟩
def CB.size {lo:Nat} {st0 st:SortSt} (h:CB lo st0 st):(arrOf st).size=(arrOf st0).size:=h.perm.size_eq
def CB.mir {lo i j:Nat} {st0 st:SortSt} (h:CB lo st0 st) (hi:lo<=i) (hj:j<=(arrOf st0).size):CB lo st0 (setArr st (mirror (arrOf st) i j ((j-i) / 2))) :=
 ⟨h.k,h.p,h.f,(mirror_perm _ _ _ _).trans h.perm,λk hk=>by
  show (mirror (arrOf st) i j ((j-i) / 2))[k]?=_;rw[getElem?_mirror_all (by rw[h.size];calc hj),AE ()];calc h.pre k hk⟩
def CB.bub {lo src d:Nat} {st0 st:SortSt} (h:CB lo st0 st) (hs:src<(arrOf st0).size) (hd:d<=src) (hl:lo<=src-d):CB lo st0 (setArr st (bubble (arrOf st) src d)) :=
 ⟨h.k,h.p,h.f,(bubble_perm _ _ _).trans h.perm,λk hk=>by
  show (bubble (arrOf st) src d)[k]?=_;rw[getElem?_bubble (by rw[h.size];calc hs) d hd,AE (),AE ()];calc h.pre k hk⟩
variable {st0 st:SortSt} {lo nrem n:Nat}
def G4 (R:B9 prog w s κ vs r) (hk:kindOf st0=κ) (hv:∀ x∈(arrOf st0).toList,x.1∈vs) (c:CB lo st0 st) {i j:Nat} (hi:i<(arrOf st0).size) (hj:j<(arrOf st0).size) {Q:Option Bool->SortSt->Prop} (h:Q (some (decide (KR r (arrOf st) i<KR r (arrOf st) j))) st) :
  wpS (model prog w) A E s (ltAt' i j) Q st:=by
 let ei:(arrOf st)[i]?=some ((arrOf st)[i]'(by rw[c.size];calc hi)):=BM _;let ej:(arrOf st)[j]?=some ((arrOf st)[j]'(by rw[c.size];calc hj)):=BM _;let pm:=Array.perm_iff_toList_perm.mp c.perm;calc SO R (c.k.trans hk) ei ej (hv _ (pm.mem_iff.mp (Ci ei))) (hv _ (pm.mem_iff.mp (Ci ej))) ?_;erw[KR]at h;rw[ei,ej]at h;calc h
def Ml (lo a nrem:Nat):StateT SortSt Sem (Option (Option Nat) × Nat):=forIn [a:nrem] ((none,a):Option (Option Nat) × Nat) λ_ c=>do
 let x <- ltAt' (lo+c.2) (lo+c.2-1)
 match x with
 |some smaller=>if smaller=true then pure (ForInStep.done (none,c.2)) else pure (ForInStep.yield (none,c.2+1))
 |_=>pure (ForInStep.done (some none,c.2))
def Pw (R:B9 prog w s κ vs r) (hk:kindOf st0=κ) (hv:∀ x∈(arrOf st0).toList,x.1∈vs) (c:CB lo st0 st) (hz:lo+nrem<=(arrOf st0).size) (h1:1<=n) (h2:n<=nrem) (hu:RUp r (arrOf st) lo (lo+n)) {Q:Option (Option Nat) × Nat->SortSt->Prop}
  (h:∀ m,n<=m->m<=nrem->RUp r (arrOf st) lo (lo+m)->(m=nrem\/KR r (arrOf st) (lo+m)<KR r (arrOf st) (lo+m-1))->Q (none,m) st):wpS (model prog w) A E s (Ml lo n nrem) Q st:=by
 erw[Ml];refine wpS_forRange (I:=λx c st'=>st'=st/\c=(none,x)/\RUp r (arrOf st) lo (lo+x)) ?step ?fin ⟨rfl,rfl,hu⟩
 case fin=>
  intro c' st' hI;refine qz λG=>?_;let⟨eI1,eI2,hs⟩:=hI;calc G ?_;clear G;subst eI1 eI2;rw[show max n nrem=nrem by omega]at hs ⊢;exact h nrem h2 (AF _) hs (.inl rfl)
 case step=>
  intro x c' st' hax hxn hI;refine qz λG=>?_;let⟨eI1,eI2,hs⟩:=hI;calc G ?_;clear G;subst eI1 eI2;calc wpS_bind (G4 R hk hv c () () ?_);dsimp only;by_cases hl:KR r (arrOf st') (lo+x)<KR r (arrOf st') (lo+x-1)
  .rw[BF hl,AD rfl];exact wpS_pure (h x hax () hs (.inr hl))
  .rw[A6 hl,AE ()];refine wpS_pure ⟨rfl,rfl,λi j h3 h4 h5=>?_⟩;by_cases hj:j<lo+x
   .exact hs i j h3 h4 hj
   .have hj':j=lo+x:=()
    by_cases hij:i=j
    .rw[hij];exact AF _
    .have:=hs i (lo+x-1) h3 () ();rw[hj'];omega
def Nk (R:B9 prog w s κ vs r) (hk:kindOf st0=κ) (hv:∀ x∈(arrOf st0).toList,x.1∈vs) (hz:lo+nrem<=(arrOf st0).size) (h1:1<=nrem) {Q:Option Nat->SortSt->Prop}
  (h:∀ m st,CB lo st0 st->1<=m->m<=nrem->RUp r (arrOf st) lo (lo+m)->Q (some m) st):wpS (model prog w) A E s (countRun' lo nrem) Q st0:=by
 let one:∀ xs,RUp r xs lo (lo+1):=λxs i j a b c=>by rw[show i=j by omega];exact AF _
 refine wpS_bind (Pw R hk hv (.refl lo st0) hz (AF 1) h1 (one _) λn n1 n2 hu hor=>?_);refine zK (λc1=>wpS_pure (h n st0 (.refl lo st0) n1 n2 hu)) (λc1=>?_);let hn:n<nrem:=by simp at c1;omega
 let hlt:=hor.resolve_left ();let mirU:∀ {st:SortSt} {n m neq:Nat},CB lo st0 st->m<=nrem->RDn r (arrOf st) lo (lo+m)->RUp r (mirror (arrOf st) lo (lo+m) ((lo+m-lo) / 2)) lo (lo+m):=λ{st n m neq} c hm hd i j a1 a2 a3=>by
  rw[Km (by rw[c.size];omega),Km (by rw[c.size];omega),AD (),AD ()];exact hd _ _ () () ()
 refine zK (λc2=>?_) (λc2=>?_)
 case' refine_1=>
  calc wpS_bind (G4 R hk hv (.refl lo st0) () (by dsimp only;omega) ?_);dsimp only;by_cases hrose:KR r (arrOf st0) lo<KR r (arrOf st0) (lo+n-1)
  case pos=>
   rw[BF hrose,AD rfl];exact wpS_pure (h n st0 (.refl lo st0) n1 n2 hu)
  case' neg=>
   rw[A6 hrose,AE ()];let hall:∀ k,lo<=k->k<lo+n->KR r (arrOf st0) k=KR r (arrOf st0) (lo+n-1):=λk k1 k2=>by
    let a1:=hu lo k (AF _) k1 k2;let a2:=hu k (lo+n-1) k1 () ();omega
   refine wpS_bind (wpS_modify ?_);let cb:CB lo st0 (setArr st0 (mirror (arrOf st0) lo (lo+n) ((lo+n-lo) / 2))):=(CB.refl lo st0).mir (AF _) ();let dn:RDn r (mirror (arrOf st0) lo (lo+n) ((lo+n-lo) / 2)) lo (lo+(n+1)):=λi j a1 a2 a3=>by
    rw[HV () hall,HV () hall];by_cases hj:j<lo+n
    .rw[hall i a1 (),hall j () hj];exact AF _
    .by_cases hi:i<lo+n
     .rw[hall i a1 hi,show j=lo+n by omega];omega
     .rw[show i=j by omega];exact AF _
 case' refine_2=>
  let cb:CB lo st0 st0:=.refl lo st0;let dn:RDn r (arrOf st0) lo (lo+(n+1)):=λi j a1 a2 a3=>by
   let hn1:n=1:=by dsimp only at c2;omega
   subst hn1;by_cases hij:i=j
   .rw[hij];exact AF _
   .rw[show i=lo by omega,show j=lo+1 by omega];rw[show lo+1-1=lo by omega]at hlt;omega
 all_goals
  calc wpS_bind (wpS_lift (Bc ⟨rfl,?_⟩));refine wpS_bind (wpS_mono (wpS_forRange (I:=λx c st'=>∃ neq,c=(none,x,neq)/\CB lo st0 st'/\RDn r (arrOf st') lo (lo+x)/\neq+1<=x /\ ∀ i,lo+x-(neq+1)<=i->i<lo+x->KR r (arrOf st') i=KR r (arrOf st') (lo+x-1)) (Q:=λc st'=>∃ x neq,c=(none,x,neq)/\CB lo st0 st'/\1<=x/\x<=nrem/\RDn r (arrOf st') lo (lo+x)/\neq+1<=x /\ ∀ i,lo+x-(neq+1)<=i->i<lo+x->KR r (arrOf st') i=KR r (arrOf st') (lo+x-1)) ?step ?fin ⟨0,rfl,cb,dn,(),λi a1 a2=>by congr 1;omega⟩) ?post)
  case fin=>
   intro c st' hI;refine qz λG=>?_;let⟨neq,eI1,cb,dn,q1,q2⟩:=hI;calc G ?_;clear G;subst eI1;rw[show max (n+1) nrem=nrem by omega]at dn q1 q2 ⊢;exact ⟨nrem,neq,rfl,cb,h1,AF _,dn,q1,q2⟩
  case step=>
   intro x c st' hx1 hx2 hI;refine qz λG=>?_;let⟨neq,eI1,cb,dn,q1,q2⟩:=hI;refine G ?_;clear G;subst eI1;let hx1':n+1<=x:=hx1;refine wpS_bind (G4 R hk hv cb (by dsimp only;omega) (by dsimp only;omega) ?_);dsimp only;let step1:∀ ys:Array Keyed,(∀ k,KR r ys k=KR r (arrOf st') k)->KR r (arrOf st') (lo+x)<=KR r (arrOf st') (lo+x-1)->RDn r ys lo (lo+(x+1)):=λys hy hle i j a1 a2 a3=>by
    rw[hy,hy];by_cases hj:j<lo+x
    .exact dn i j a1 a2 hj
    .by_cases hij:i=j
     .rw[hij];exact AF _
     .have:=dn i (lo+x-1) a1 () ();rw[show j=lo+x by omega];omega
   by_cases hl:KR r (arrOf st') (lo+x)<KR r (arrOf st') (lo+x-1)
   .rw[BF hl,AD rfl];refine zK (λc3=>wpS_bind (wpS_modify (wpS_pure ⟨0,rfl,cb.mir () (),step1 _ (HV (by rw[cb.size];omega) q2) (),(),λi a1 a2=>by congr 1;omega⟩))) (λc3=>wpS_pure ⟨0,rfl,cb,step1 _ (λ_=>rfl) (),(),λi a1 a2=>by congr 1;omega⟩)
   .rw[A6 hl,AE ()];refine wpS_bind (G4 R hk hv cb () () ?_);dsimp only;by_cases hg:KR r (arrOf st') (lo+x-1)<KR r (arrOf st') (lo+x)
    .rw[BF hg,AD rfl];exact wpS_pure ⟨x,neq,rfl,cb,(),(),dn,q1,q2⟩
    .rw[A6 hg,AE ()];refine wpS_pure ⟨neq+1,rfl,cb,step1 _ (λ_=>rfl) (),(),λi a1 a2=>?_⟩;rw[show lo+(x+1)-1=lo+x by omega];by_cases hi:i=lo+x
     .rw[hi]
     .rw[q2 i () ()];omega
  case post=>
   intro c st' hI;refine qz λG=>?_;let⟨x,neq,eI1,cb,x1,x2,dn,q1,q2⟩:=hI;calc G ?_;clear G;subst eI1;refine zK (λc3=>?_) (λc3=>?_)
   case' refine_1=>
    refine wpS_bind (wpS_modify ?_);replace dn:RDn r (mirror (arrOf st') (lo+x-(neq+1)) (lo+x) ((lo+x-(lo+x-(neq+1))) / 2)) lo (lo+x):=λi j a1 a2 a3=>by
     rw[HV (by rw[cb.size];omega) q2,HV (by rw[cb.size];omega) q2];exact dn i j a1 a2 a3
    replace cb:=cb.mir (i:=lo+x-(neq+1)) (j:=lo+x) () ()
   all_goals
    calc wpS_bind (wpS_modify ?_);let cb2:=cb.mir (i:=lo) (j:=lo+x) (AF _) ();calc wpS_bind (Pw R hk hv cb2 hz x1 x2 (mirU (n:=0) (neq:=0) cb x2 dn) λm m1 m2 hu2 _=>wpS_pure (h m _ cb2 () m2 hu2))
end
section
variable {prog:Ym} {w:Yo} {A:Yn} {E:Yc} {s:Yl} {κ:SortKind} {vs:Yf} {r:Yr} {st0 st:SortSt} {lo n ok:Nat}
def Mk (R:B9 prog w s κ vs r) (hk:kindOf st0=κ) (hv:∀ x∈(arrOf st0).toList,x.1∈vs) (c0:CB lo st0 st) (hz:lo+n<=(arrOf st0).size) (h1:1<=ok) (h2:ok<=n) (hu:RUp r (arrOf st) lo (lo+ok))
  (h:∀ st',CB lo st0 st'->RUp r (arrOf st') lo (lo+n)->Q true st'):wpS (model prog w) A E s (binarySort' lo n ok) Q st:=by
 refine wpS_bind (wpS_mono (wpS_forRange (I:=λk c st'=>c=(none,Unit.unit)/\CB lo st0 st'/\RUp r (arrOf st') lo (lo+k)) (Q:=λc st'=>c=(none,Unit.unit)/\CB lo st0 st'/\RUp r (arrOf st') lo (lo+n)) ?step ?fin ⟨rfl,c0,by rw[show max ok 1=ok by omega];calc hu⟩) ?post)
 case fin=>
  intro c st' hI;refine qz λG=>?_;let⟨eI1,cb,hu⟩:=hI;calc G ?_;clear G;subst eI1;rw[show max (max ok 1) n=n by omega]at hu;exact ⟨rfl,cb,hu⟩
 case post=>
  intro c st' hI;refine qz λG=>?_;let⟨eI1,cb,hu⟩:=hI;calc G ?_;clear G;subst eI1;exact wpS_pure (h st' cb hu)
 case step=>
  intro k c st' hk1 hk2 hI;refine qz λG=>?_;let⟨eI1,cb,hu⟩:=hI;calc G ?_;clear G;subst eI1;let hk0:1<=k:=()
  refine wpS_bind (wpS_mono (wpS_forRange (I:=λx c st''=>st''=st' /\ ∃ a b,c=(none,a,b)/\a<=b/\b<=k/\b-a<=k-x/\(∀ i,i<a->KR r (arrOf st') (lo+i)<=KR r (arrOf st') (lo+k))/\(∀ i,b<=i->i<k->KR r (arrOf st') (lo+k)<=KR r (arrOf st') (lo+i))) (Q:=λc st''=>st''=st' /\ ∃ a b,c=(none,a,b)/\a<=k/\(∀ i,i<a->KR r (arrOf st') (lo+i)<=KR r (arrOf st') (lo+k))/\(∀ i,a<=i->i<k->KR r (arrOf st') (lo+k)<=KR r (arrOf st') (lo+i))) ?step1 ?fin1 ⟨rfl,0,k,rfl,(),(),(),λi hi=>(),λi a1 a2=>()⟩) ?post1)
  case fin1=>
   intro c st'' hI;refine qz λG=>?_;let⟨eI1,a,b,eI2,q1,q2,q3,q4,q5⟩:=hI;calc G ?_;clear G;subst eI1 eI2;exact ⟨rfl,a,b,rfl,(),q4,λi a1 a2=>q5 i () a2⟩
  case step1=>
   intro x c st'' _ hx hI;refine qz λG=>?_;let⟨eI1,a,b,eI2,q1,q2,q3,q4,q5⟩:=hI;calc G ?_;clear G;subst eI1 eI2;refine zK (λc1=>wpS_pure ⟨rfl,a,b,rfl,(),q4,λi a1 a2=>q5 i (by dsimp only at c1;omega) a2⟩) (λc1=>?_);let c1':a<b:=by dsimp only at c1;omega
   calc wpS_bind (G4 R hk hv cb () (by dsimp only;omega) ?_);dsimp only;by_cases hl:KR r (arrOf st'') (lo+k)<KR r (arrOf st'') (lo+(a+b) / 2)
   .rw[BF hl,AD rfl];refine wpS_pure ⟨rfl,a,(a+b) / 2,rfl,(),(),(),q4,λi a1 a2=>?_⟩;have:=hu (lo+(a+b) / 2) (lo+i) () () ();omega
   .rw[A6 hl,AE ()];refine wpS_pure ⟨rfl,(a+b) / 2+1,b,rfl,(),(),(),λi a1=>?_,q5⟩;have:=hu (lo+i) (lo+(a+b) / 2) () () ();omega
  case post1=>
   intro c st'' hI;refine qz λG=>?_;let⟨eI1,a,b,eI2,q1,q4,q5⟩:=hI;calc G ?_;clear G;subst eI1 eI2;refine wpS_bind (wpS_modify (wpS_pure ⟨rfl,cb.bub () (by dsimp only;omega) (by dsimp only;omega),λi j a1 a2 a3=>?_⟩));let hs:lo+k<(arrOf st'').size:=by rw[cb.size];omega
   show KR r (bubble (arrOf st'') (lo+k) (lo+k-(lo+a))) i<=KR r (bubble (arrOf st'') (lo+k) (lo+k-(lo+a))) j;rw[M8 hs (),M8 hs ()];rw[show lo+k-(lo+k-(lo+a))=lo+a by omega];by_cases i1:i=lo+a
   .rw[AD i1];by_cases j1:j=lo+a
    .rw[AD j1];exact AF _
    .rw[AE j1,AD ()];have:=q5 (j-1-lo) () ();rw[show lo+(j-1-lo)=j-1 by omega]at this;exact this
   .rw[AE i1];by_cases i2:lo+a<i/\i<=lo+k
    .rw[AD i2,AE (),AD ()];exact hu _ _ () () ()
    .rw[AE i2];by_cases j1:j=lo+a
     .rw[AD j1];have:=q4 (i-lo) ();rw[show lo+(i-lo)=i by omega]at this;exact this
     .rw[AE j1];by_cases j2:lo+a<j/\j<=lo+k
      .rw[AD j2];exact hu _ _ a1 () ()
      .rw[AE j2];calc hu _ _ a1 a2 ()
end
def CY:Nat->List (List Keyed)->List (Nat × Nat)
 |_,[]=>[]
 |o,R::Rs=>(o,R.length)::CY (o+R.length) Rs
theorem Hn:∀ (o:Nat) (As Bs:List (List Keyed)),CY o (As++Bs)=CY o As++CY (o+As.flatten.length) Bs
 |o,[],Bs=>by simp[CY]
 |o,R::As,Bs=>by
  rw[List.cons_append,CY,CY,Hn];simp only[List.cons_append,List.flatten_cons,BK];rw[Nat.add_assoc]
theorem JE:∀ (o:Nat) (As:List (List Keyed)),(CY o As).length=As.length
 |_,[]=>rfl
 |o,R::As=>by rw[CY,Cu,JE,Cu]
abbrev two (p:Nat × Nat × Nat):Nat × Nat:=(p.1,p.2.1)
structure Run (κ:SortKind) (r:Yr) (a₀:List Keyed) (st:SortSt) (Rs:List (List Keyed)) (rest:List Keyed):Prop where
 k:kindOf st=κ
 f:failedOf st=none
 arr:(arrOf st).toList=Rs.flatten++rest
 perm:(arrOf st).toList.Perm a₀
 srt:∀ X∈Rs,X≠[]/\X.Pairwise (leR r)
 pd:(pendingOf st).toList.map two=CY 0 Rs
section
variable {prog:Ym} {w:Yo} {A:Yn} {E:Yc} {s:Yl} {κ:SortKind} {vs:Yf} {r:Yr} {a₀:List Keyed} {st:SortSt} {Rs:List (List Keyed)} {rest:List Keyed}
def Run.plen (h:Run κ r a₀ st Rs rest):(pendingOf st).size=Rs.length:=by
 have:=BC List.length h.pd;rw[AI,JE]at this;simpa using this
def V2 (h:i+1<Rs.length):∃ As R1 R2 Bs,Rs=As++R1::R2::Bs/\As.length=i:=by
 calc ⟨Rs.take i,Rs[i],Rs[i+1],Rs.drop (i+2),?_,by rw[BY];omega⟩;conv=>lhs;rw[<-Cz i Rs,List.drop_eq_getElem_cons (by omega:i<Rs.length),List.drop_eq_getElem_cons h]
def Nn (R:B9 prog w s κ vs r) (hv:∀ x∈a₀,x.1∈vs) (h:Run κ r a₀ st Rs rest) (hi:i+1<Rs.length)
  (q:∀ st' Rs',Run κ r a₀ st' Rs' rest->Rs'.length+1=Rs.length->Rs'.flatten.length=Rs.flatten.length->Q true st'):wpS (model prog w) A E s (mergeAt' i) Q st:=by
 let⟨As,R1,R2,Bs,rfl,rfl⟩:=V2 hi;let pd:=h.pd;rw[Hn,CY,CY]at pd;let⟨PA,P1,e1,e2,e3⟩:=List.map_eq_append_iff.mp pd;let⟨p1,P2,e4,e5,e6⟩:=List.map_eq_cons_iff.mp e3;let⟨p2,PB,e7,e8,e9⟩:=List.map_eq_cons_iff.mp e6;subst e4 e7;let⟨x1,x2,pw⟩:=p1;let⟨y1,y2,pw2⟩:=p2;let hPA:PA.length=As.length:=by have:=BC List.length e2;rw[AI,JE]at this;exact this
 obtain ⟨rfl,rfl⟩:x1=0+As.flatten.length/\x2=R1.length:=by have:=e5;simp only[two,Prod.mk.injEq]at this;exact this
 obtain ⟨rfl,rfl⟩:y1=0+As.flatten.length+R1.length/\y2=R2.length:=by have:=e8;simp only[two,Prod.mk.injEq]at this;exact this
 let a1:(pendingOf st)[As.length]?=some (0+As.flatten.length,R1.length,pw):=by
  rw[<-Am,e1,Dk (),hPA];simp
 let a2:(pendingOf st)[As.length+1]?=some (0+As.flatten.length+R1.length,R2.length,pw2):=by
  rw[<-Am,e1,Dk (),show As.length+1-PA.length=1 by omega];rfl
 let s1:=h.srt R1 (by simp);let s2:=h.srt R2 (by simp);let harr:(arrOf st).toList=As.flatten++(R1++(R2++(Bs.flatten++rest))):=by rw[h.arr];simp
 refine SE R h.k h.f harr (λx hx=>hv x (h.perm.mem_iff.mp hx)) () rfl rfl rfl (List.length_pos_iff.mpr s1.1) (List.length_pos_iff.mpr s2.1) s1.2 s2.2 a1 a2 λm st' hk hf hp ha hpm hs=>?_;let hml:m.length=R1.length+R2.length:=by rw[hpm.length_eq,BK]
 refine q st' (As++m::Bs) ⟨hk,hf,by rw[ha];simp,?_,λX hX=>?_,?_⟩ (by simp;omega) (by simp;omega)
 .refine List.Perm.trans ?_ h.perm;rw[ha,harr];calc List.Perm.append_left _ ?_;rw[<-CS R1];exact List.Perm.append_right _ hpm
 .rcases Ab.mp hX with z|z
  .exact h.srt X (by simp[z])
  .rcases AL.mp z with z|z
   .subst z;refine ⟨λe=>?_,hs⟩;rw[e]at hml;have:=List.length_pos_iff.mpr s1.1;simp at hml;omega
   .exact h.srt X (by simp[z])
 .rw[hp];let hz:As.length+1<(pendingOf st).size:=(Array.getElem?_eq_some_iff.mp a2).1;let e10:(((pendingOf st).setIfInBounds As.length (0+As.flatten.length,R1.length+R2.length,pw)).eraseIdxIfInBounds (As.length+1)).toList=PA++(0+As.flatten.length,R1.length+R2.length,pw)::PB:=by
   rw[Array.toList_eraseIdxIfInBounds,Array.toList_setIfInBounds,e1,<-hPA,List.set_append_right _ _ (AF _),List.eraseIdx_append_of_length_le ()];simp
  rw[e10,CD,Ad,Hn,CY,e2,hml,e9,Nat.add_assoc (0+As.flatten.length)]
end
section
variable {prog:Ym} {w:Yo} {A:Yn} {E:Yc} {s:Yl} {κ:SortKind} {vs:Yf} {r:Yr} {a₀:List Keyed} {st st1:SortSt} {Rs:List (List Keyed)} {rest W:List Keyed} {lo n:Nat}
def Run.total (h:Run κ r a₀ st Rs rest):Rs.flatten.length+rest.length=a₀.length:=by
 have:=h.perm.length_eq;rw[h.arr,BK]at this;calc this
def Run.size (h:Run κ r a₀ st Rs rest):(arrOf st).size=a₀.length:=by rw[<-AU];calc h.perm.length_eq
def QR (h:Run κ r a₀ st Rs rest) (c:CB lo st st1) (hl:lo=Rs.flatten.length):∃ W,Run κ r a₀ st1 Rs W/\W.length=rest.length:=by
 let ht:=h.total;let hz:(arrOf st1).toList.length=a₀.length:=by rw[AU,c.size,h.size]
 let e:(arrOf st1).toList.take lo=Rs.flatten:=by
  apply Dm;intro i;rw[List.getElem?_take];by_cases hi:i<lo
  .rw[AD hi,Am,c.pre i hi,<-Am,h.arr,BI ()]
  .rw[AE hi,DA ()]
 calc ⟨(arrOf st1).toList.drop lo,⟨c.k.trans h.k,c.f.trans h.f,?_,(Array.perm_iff_toList_perm.mp c.perm).trans h.perm,h.srt,by rw[c.p];calc h.pd⟩,by rw[D0];omega⟩;rw[<-e,Cz]
def Sw (h:Run κ r a₀ st Rs W) (hl:lo=Rs.flatten.length) (hn:n<=W.length) (hu:RUp r (arrOf st) lo (lo+n)):(W.take n).Pairwise (leR r):=by
 rw[List.pairwise_iff_getElem];intro i j hi hj hij;rw[BY]at hi hj;let at_:∀ (k:Nat) (hk:k<W.length),KR r (arrOf st) (lo+k)=r (W[k]).1:=λk hk=>by
  erw[KR];rw[<-Am,h.arr,Dk (),show lo+k-Rs.flatten.length=k by omega,AJ hk]
 have:=hu (lo+i) (lo+j) () () ();rw[at_ i (),at_ j ()]at this;rw[List.getElem_take,List.getElem_take];calc this
def Xw (h:Run κ r a₀ st Rs W) (hl:lo=Rs.flatten.length) (n1:1<=n) (hn:n<=W.length) (hs:(W.take n).Pairwise (leR r)):Run κ r a₀ (setPending st ((pendingOf st).push (lo,n,0))) (Rs++[W.take n]) (W.drop n):=by
 refine ⟨h.k,h.f,?_,h.perm,λX hX=>?_,?_⟩
 .show (arrOf st).toList=_;rw[h.arr];simp
 .rcases Ab.mp hX with z|z
  .exact h.srt X z
  .rw[AW.mp z];exact ⟨λe=>by have:=BC List.length e;rw[BY,Bq]at this;omega,hs⟩
 .show ((pendingOf st).push (lo,n,0)).toList.map two=_;rw[Array.toList_push,CD,h.pd,Hn,hl];simp[CY,BY];omega
def Y8 (hn:n<=W.length):(Rs++[W.take n]).flatten.length=Rs.flatten.length+n:=by
 simp[BY];omega
def Pr (h:Run κ r a₀ st Rs W) (hl:lo=Rs.flatten.length) (n1:1<=n) (hn:n<=W.length) (hs:(W.take n).Pairwise (leR r)) (hx:x<=lo) (hz:Rs.length<=lo) :
  ∃ lo2 Rs2 rest2,((none:Option Unit),lo+n)=(none,lo2)/\Run κ r a₀ (setPending st ((pendingOf st).push (lo,n,0))) Rs2 rest2/\lo2=Rs2.flatten.length/\x+1<=lo2/\Rs2.length<=lo2 :=
 ⟨_,_,_,rfl,Xw h hl n1 hn hs,by rw[Y8 hn,hl],(),by rw[BK];simp only[Cu,Bq];omega⟩
def V3 [Decidable c] (h:1<n) (e:n=m):(if c then n-2-1 else n-2)+1<m:=by
 split <;> omega
def UP (h:Run κ r a₀ st Rs W) (f:Nat × Nat × Nat->Nat × Nat × Nat) (hf:∀ p,two (f p)=two p) (i:Nat):Run κ r a₀ (setPending st ((pendingOf st).modify i f)) Rs W:=by
 calc ⟨h.k,h.f,h.arr,h.perm,h.srt,?_⟩;show ((pendingOf st).modify i f).toList.map two=_;rw[Array.toList_modify,<-h.pd];apply Dm;intro j;rw[AQ,AQ,List.getElem?_modify];cases (pendingOf st).toList[j]? with
 |none=>rfl
 |some p=>
  by_cases z:i=j
  .simp[z,hf]
  .simp[z]
set_option maxHeartbeats 4000000 in
def Xz (R:B9 prog w s κ vs r) (hv:∀ x∈a₀,x.1∈vs) (h:Run κ r a₀ st [] a₀)
  (q:∀ st',failedOf st'=none->Mgd (leR r) a₀ (arrOf st').toList->Q Unit.unit st'):wpS (model prog w) A E s sortRuns' Q st:=by
 let hN:=h.size;calc wpS_bind (wpS_get ?_);refine wpS_bind (wpS_mono (wpS_forRange (I:=λx c st'=>∃ lo Rs rest,c=(none,lo)/\Run κ r a₀ st' Rs rest/\lo=Rs.flatten.length/\x<=lo/\Rs.length<=lo) (Q:=λc st'=>∃ lo Rs,c=(none,lo)/\Run κ r a₀ st' Rs []/\Rs.length<=lo/\lo<=a₀.length) ?step ?fin ⟨0,[],a₀,rfl,h,rfl,AF _,AF _⟩) ?post)
 case fin=>
  intro c st' hI;refine qz λG=>?_;let⟨lo,Rs,rest,eI1,h,hlo,hp,hz⟩:=hI;calc G ?_;clear G;subst eI1;let ht:=h.total;have:rest=[]:=Ea.mp (by have:max 0 (arrOf st).size<=lo:=hp;omega);subst this;exact ⟨lo,Rs,rfl,h,hz,()⟩
 case post=>
  intro c st' hI;refine qz λG=>?_;let⟨lo,Rs,eI1,h,hz,hz2⟩:=hI;calc G ?_;clear G;subst eI1;refine wpS_bind (wpS_mono (wpS_forRange (I:=λx c st'=>c=(none,Unit.unit) /\ ∃ Rs,Run κ r a₀ st' Rs []/\Rs.length+x<=max (a₀.length) (x+1)) (Q:=λc st'=>c=(none,Unit.unit) /\ ∃ Rs,Run κ r a₀ st' Rs []/\Rs.length<=1) ?step2 ?fin2 ⟨rfl,Rs,h,()⟩) ?post2)
  case fin2=>
   intro c st' hI;refine qz λG=>?_;let⟨eI1,Rs,h,hx⟩:=hI;calc G ?_;clear G;subst eI1;let hx':Rs.length+max 0 (arrOf st).size<=max a₀.length (max 0 (arrOf st).size+1):=hx;exact ⟨rfl,Rs,h,()⟩
  case post2=>
   intro c st' hI;refine qz λG=>?_;let⟨eI1,Rs,h,hx⟩:=hI;calc G ?_;clear G;subst eI1;calc wpS_pure (q st' h.f ⟨h.perm,?_⟩);rw[h.arr,C1];match Rs,hx,h with
   |[],_,_=>calc .nil
   |[X],_,h=>simpa using (h.srt X (by simp)).2
   |_::_::_,hx,_=>simp at hx
  case step2=>
   intro x c st' _ hx hI;refine qz λG=>?_;let⟨eI1,Rs,h,hr⟩:=hI;calc G ?_;clear G;subst eI1;calc wpS_bind (wpS_get ?_);let hpl:=h.plen;refine zK (λc1=>wpS_pure ⟨rfl,Rs,h,An (Nat.le_of_eq hpl.symm) c1⟩) (λc1=>?_);let c1':1<(pendingOf st').size:=by have:¬ (pendingOf st').size<=1:=c1;omega
   refine wpS_bind (Nn R hv h ?_ λst2 Rs2 h2 l1 l2=>?_)
   .exact V3 c1' hpl
   .exact zK (λz=>absurd z ()) (λ_=>wpS_pure ⟨rfl,Rs2,h2,()⟩)
 case step=>
  intro x c st' _ hx hI;refine qz λG=>?_;let⟨lo,Rs,rest,eI1,h,hlo,hp,hz⟩:=hI;calc G ?_;clear G;subst eI1;let ht:=h.total;refine zK (λc1=>?_) (λc1=>?_)
  .have c1':(arrOf st).size<=lo:=c1;have:rest=[]:=Ea.mp ();subst this;exact wpS_pure ⟨lo,Rs,rfl,h,hz,()⟩
  let c1':lo<(arrOf st).size:=Nat.lt_of_not_le c1;let hv':∀ x∈(arrOf st').toList,x.1∈vs:=λx hx=>hv x (h.perm.mem_iff.mp hx);refine wpS_bind (Nk (lo:=lo) (nrem:=(arrOf st).size-lo) R h.k hv' (by rw[h.size];omega) () λn st1 cb n1 n2 hu=>?_);refine zK (λc2=>?_) (λc2=>?_)
  case' refine_1=>
   calc wpS_bind (wpS_lift (Bc ⟨rfl,?_⟩));let c2':n<minRun' (arrOf st).size (arrOf st).size 0:=c2;refine wpS_bind (Mk (n:=min ((arrOf st).size-lo) (minRun' (arrOf st).size (arrOf st).size 0)) R h.k hv' cb (by rw[h.size];omega) n1 () hu λst2 cb2 hu2=>?_);replace n1:1<=min ((arrOf st).size-lo) (minRun' (arrOf st).size (arrOf st).size 0):=()
   replace n2:min ((arrOf st).size-lo) (minRun' (arrOf st).size (arrOf st).size 0)<=(arrOf st).size-lo:=()
   refine zK (λz=>absurd z ()) (λ_=>?_);replace hu:=hu2;replace cb:=cb2
  all_goals
   let⟨W,hW,hWl⟩:=QR h cb hlo;let n3:=An n2 (show (arrOf st).size-lo<=W.length by omega);let hs:=Sw hW hlo n3 hu;calc wpS_bind (wpS_get ?_);split
   .refine wpS_bind (wpS_mono (wpS_forRange (I:=λy c st3=>c=(none,Unit.unit) /\ ∃ Rs3,Run κ r a₀ st3 Rs3 W/\Rs3.flatten.length=Rs.flatten.length/\Rs3.length<=lo) (Q:=λc st3=>c=(none,Unit.unit) /\ ∃ Rs3,Run κ r a₀ st3 Rs3 W/\Rs3.flatten.length=Rs.flatten.length/\Rs3.length<=lo) ?step3 (λ_ _ z=>z) ⟨rfl,Rs,hW,rfl,hz⟩) ?post3)
    case step3=>
     intro y c st3 _ _ hI;refine qz λG=>?_;let⟨eI1,Rs3,h3,l3,z3⟩:=hI;calc G ?_;clear G;subst eI1;calc wpS_bind (wpS_get ?_);let hpl:=h3.plen;dsimp only;by_cases hp1:(pendingOf st3).size>1
     .obtain ⟨p,ep⟩:∃ p,(pendingOf st3)[(pendingOf st3).size-2]?=some p:=⟨_,BQ ()⟩;rw[AD hp1,ep];refine zK (λ_=>wpS_pure ⟨rfl,Rs3,h3,l3,z3⟩) (λ_=>?_);refine wpS_bind (Nn R hv h3 (i:=(pendingOf st3).size-2) () λst4 Rs4 h4 l4 z4=>?_);exact zK (λz=>absurd z ()) (λ_=>wpS_pure ⟨rfl,Rs4,h4,(),()⟩)
     .rw[AE hp1];exact wpS_pure ⟨rfl,Rs3,h3,l3,z3⟩
    case post3=>
     intro c st3 hI;refine qz λG=>?_;let⟨eI1,Rs3,h3,l3,z3⟩:=hI;calc G ?_;clear G;subst eI1;calc wpS_bind (wpS_modify (wpS_bind (wpS_modify (wpS_pure ?_))));calc Pr (UP h3 _ ?_ _) (hlo.trans l3.symm) n1 n3 hs hp z3;rintro ⟨a,b,c⟩;rfl
   .exact wpS_bind (wpS_modify (wpS_pure (Pr hW hlo n1 n3 hs hp hz)))
end
section
variable {prog:Ym} {w:Yo} {A:Yn} {E:Yc} {s:Yl} {κ:SortKind} {vs:Yf} {r:Yr}
def QB (R:B9 prog w s κ vs r):wpS (model prog w) A E s sortRuns' (λ_ st=>failedOf st=none/\((arrOf st).map (·.2)).toList.Perm vs/\((arrOf st).map (·.2)).toList.Pairwise λx y=>r x<=r y) (SortSt.mk' κ (pairsOf vs) #[] 7 none):=by
 let hz:(pairsOf vs).toList=vs.zip vs:=pairsOf_toList vs;let hv:∀ p∈(pairsOf vs).toList,p.1∈vs:=λp hp=>by rw[hz]at hp;exact (mem_zip_self hp).2
 refine Xz R hv ⟨rfl,rfl,rfl,.refl _,(λX hX=>absurd hX (by simp)),rfl⟩ λst hf hm=>⟨hf,?_,?_⟩
 .rw[Array.toList_map];have:=hm.1.map (·.2);rw[hz,List.map_snd_zip (AF _)]at this;exact this
 .rw[Array.toList_map];refine List.pairwise_map.mpr ((List.Pairwise.and_mem.mp hm.2).imp λ{x y} h=>?_);let hx:=(mem_zip_self (hz▸hm.1.mem_iff.mp h.1)).1;let hy:=(mem_zip_self (hz▸hm.1.mem_iff.mp h.2.1)).1;rw[<-hx,<-hy];calc h.2.2
def Uq
  (hc:wpAny (model prog w) A.in1 (collect v) (λvs s1=>vs.length<=sizeLine/\HD s1.heap vs /\
   ∀ (h':Heap) (out:List Value) (n:Nat),(∀ b u,s1.heap.get? b=some u->h'.get? b=some u)->h'.get? ⇑s1=some (seqObj "list" out.toArray n)->out.Perm vs->out.Pairwise (λx y=>AM (BZ s1.heap y) (BZ s1.heap x)=false)->Q (.ref ⇑s1) { s1 with heap:=h' }) E s) :
  wpAny (model prog w) A (call (.builtin "sorted") [v]) Q E s:=by
 calc Calls.call_function_entry kind_sorted plain_sorted entry_sorted (args_sorted1 _) ?_;unfold Builtin.«sorted»;calc AA (AB ?_);refine AA (Aq hc (λvs s1 z=>?_) λ_ _ e=>e);let⟨hz,ht,h⟩:=z;calc AA (wpAny_newList ?_ hz);let hoL:(s1.heap.push (seqObj "list" vs.toArray 0)).get? ⇑s1=some (seqObj "list" vs.toArray 0):=AN _ rfl;refine AA (Bl (A9 slot_list_sort ⟨_,hoL,rfl⟩ entry_list_sort (Ox (κ:=tuples' true) (F:=λout=>out.toList.Perm vs/\out.toList.Pairwise (λx y=>AM (BZ s1.heap y) (BZ s1.heap x)=false)) hoL hz (λout e=>by rw[<-AU];calc e.1.length_eq) (λh2=>⟨by simp,?_⟩) ?_ λout e=>⟨_,rfl,?_⟩) (args_list_sort _)))
 .match vs,h2 with
  |[],_=>calc .nil
  |[x],_=>simp
  |_::_::_,h2=>simp at h2;omega
 .intro h2 h6 k6;let kT:∀ {v xs},BD s1.heap v xs->BD h6 v xs:=λ{v xs} t=>t.keep λb o _ e=>k6 b o (λz=>A7 _ (z▸AG e)) (AH _ e);let ht6:HD h6 vs:=λv hv=>let ⟨x,xs,t⟩:=ht v hv;⟨x,xs,kT t⟩;refine ⟨λA E Q q=>?_,λA E=>wpS_mono (QB (PD ht6)) ?_⟩
  .match vs,h2,ht6 with
   |v::vs,_,ht6=>exact Lw ht6 q
  .rintro _ st ⟨e1,e2,e3⟩;refine ⟨e1,e2,(List.Pairwise.and_mem.mp e3).imp λ{x y} z=>?_⟩;let mx:=e2.mem_iff.mp z.1;let my:=e2.mem_iff.mp z.2.1;let⟨a,as,tx⟩:=ht x mx;let⟨b,bs,ty⟩:=ht y my;rw[Cv tx,Cv ty,<-Cv (kT tx),<-Cv (kT ty),LO (List.mem_map_of_mem my) (List.mem_map_of_mem mx)];have:rkV h6 vs x<=rkV h6 vs y:=z.2.2;erw[rkV]at this;exact A6 ()
 .refine AB ⟨_,rfl,?_⟩;let g1:=get?_update_seq hoL (λ_=> #[]);let g4:=get?_update_seq (AH (seqObj "list" #[] 0) (AH (seqObj "tuple" vs.toArray 0) g1)) (λ_=>out);refine h _ out.toList _ (λb u e=>?_) (by rw[Array.toArray_toList];calc g4) e.1 e.2;let hb:⇑s1≠b:=λz=>A7 _ (z▸AG e);calc (CG _ _ hb).trans (AH _ (AH _ ((CG _ _ hb).trans (AH _ e))))
def leL (a b:Ye):Bool:=!AM b a
def Bp (ts:Ya):List (List Int):=ts.mergeSort leL
def Tv (a b c:Ye) (h1:leL a b=true) (h2:leL b c=true):leL a c=true:=by
 unfold leL at *;rw[Bool.not_eq_true']at *;cases e:AM c a with
 |false=>rfl
 |true=>
  cases e2:AM b a with
  |true=>rw[e2]at h1;ext h1
  |false=>
   cases e3:AM a b with
   |true=>rw[IP e e3]at h2;ext h2
   |false=>rw[IL e2 e3]at h2;rw[h2]at e;ext e
def RK (a b:Ye):(leL a b||leL b a)=true:=by
 erw[leL];cases e:AM b a with
 |false=>rfl
 |true=>
  cases e2:AM a b with
  |false=>rfl
  |true=>have:=IP e e2;rw[JB]at this;ext this
def F6 (ts:Ya):(Bp ts).Perm ts:=List.mergeSort_perm ts leL
def IU (ts:Ya):(Bp ts).Pairwise λa b=>AM b a=false:=(List.pairwise_mergeSort Tv RK ts).imp λ{a b} h=>by erw[leL]at h;simpa using h
theorem JO:∀ {xs ys:Ya},xs.Perm ys->xs.Pairwise (λa b=>AM b a=false)->ys.Pairwise (λa b=>AM b a=false)->xs=ys
 |[],ys,h,_,_=>by rw[List.nil_perm.mp h]
 |x::xs,[],h,_,_=>by have:=h.length_eq;simp at this
 |x::xs,y::ys,h,hx,hy=>by
  let px:=Eb.mp hx;let py:=Eb.mp hy;let e:x=y:=by
   let m1:x∈y::ys:=h.mem_iff.mp Az;let m2:y∈x::xs:=h.mem_iff.mpr Az;rcases AL.mp m1 with z|z
   .exact z
   .rcases AL.mp m2 with z'|z'
    .exact z'.symm
    .exact IL (py.1 x z) (px.1 y z')
  subst e;rw[JO (List.Perm.cons_inv h) px.2 py.2]
def NZ (h:xs.Perm ts) (hp:xs.Pairwise λa b=>AM b a=false):xs=Bp ts:=JO (h.trans (F6 ts).symm) hp (IU ts)
end
end ST
namespace L3
open L2 ST
def ES (H:Hp) (ys:List V) (ts:Ya):Prop:=ys.length=ts.length /\ ∀ (i:Nat) t,ts[i]?=some t -> ∃ b,ys[i]?=some (.ref b)/\H b=some (.tup ((kkI t).map kV))
def L9 (hl:its.length=ts.length) (ha:∀ (i:Nat) u,its[i]?=some u -> ∃ t b,ts[i]?=some t/\u=.ref b/\H b=some (.tup ((kkI t).map kV))/\BD h1 (.ref b) t)
  (hp:out.Perm its) (hs:out.Pairwise λx y=>AM (BZ h1 y) (BZ h1 x)=false):∃ ys,zU ys out/\ES H ys (Bp ts):=by
 let key:∀ u∈its,∃ t b,u=.ref b/\H b=some (.tup ((kkI t).map kV))/\BZ h1 u=t:=λu hu=>by
  let⟨i,hi⟩:=List.mem_iff_getElem?.mp hu;let⟨t,b,_,rfl,e1,e2⟩:=ha i u hi;exact ⟨t,b,rfl,e1,Cv e2⟩
 let e0:its.map (BZ h1)=ts:=by
  apply Dm;intro i;rw[AQ];by_cases hi:i<its.length
  .rw[AJ hi];let⟨t,b,e1,e2,_,e4⟩:=ha i _ (AJ hi);rw[e1,e2];exact BC some (Cv e4)
  .rw[DA (),DA ()];rfl
 let e1:out.map (BZ h1)=Bp ts:=NZ (by rw[<-e0];calc hp.map _) (List.pairwise_map.mpr hs);refine ⟨out.map λu=>match u with|.ref b=> .ref b|_=> .non,?_,?_,λi t et=>?_⟩
 .refine Pm (by simp) λi y u ey eu=>?_;rw[AQ,eu]at ey;let⟨t,b,rfl,_⟩:=key u (hp.mem_iff.mp (Ax eu));ext ey;rfl
 .rw[AI,<-e1,AI]
 .rw[<-e1,AQ]at et;cases eu:out[i]? with
  |none=>rw[eu]at et;ext et
  |some u=>
   rw[eu]at et;let⟨t',b,rfl,e2,e3⟩:=key u (hp.mem_iff.mp (Ax eu));let et':BZ h1 (.ref b)=t:=BG et;rw[e3]at et';subst et';calc ⟨b,by rw[AQ,eu];rfl,e2⟩
theorem Kr:∀ {ts:Ya} {ys:List V},ES H ys ts->zG L H (ts.map λt=>D.tup (t.map D.int)) ys
 |[],ys,h=>by
  have:ys=[]:=Ea.mp h.1;subst this;calc .nil
 |t::ts,[],h=>by have:=h.1;ext this
 |t::ts,y::ys,h=>by
  let⟨b,e1,e2⟩:=h.2 0 t rfl;ext e1;refine .cons (Wj ?_ e2) (Kr ⟨Nat.succ.inj h.1,λi u e=>by let⟨b,q1,q2⟩:=h.2 (i+1) u (~~~e);calc ⟨b,by simpa using q1,q2⟩⟩);calc NB (E6 t)
theorem JK:∀ {ds:List D} {ts:Ya} {vs:List V},DJ ds=some ts->zG L H ds vs->ES H vs ts
 |[],ts,vs,h,r=>by ext h;erw[zG]at r;subst r;exact ⟨rfl,λi t e=>by simp at e⟩
 |d::ds,ts,vs,h,r=>by
  erw[DJ]at h;cbv at h
  .rename_i x xs h1 h2;ext h;erw[zG]at r;let⟨v,r',rfl,r1,r2⟩:=r;let⟨l2,q2⟩:=JK h2 r2;refine ⟨by simp[l2],λi t e=>?_⟩;cases i with
   |succ i=>let⟨b,z1,z2⟩:=q2 i t (~~~e);calc ⟨b,by simpa using z1,z2⟩
   |zero=>
    ext e;cases d with
    |tup es=>
     erw[Rep]at r1;let⟨a,ws,rfl,e1,r3⟩:=r1;have:=G6 h1 r3;subst this;calc ⟨a,rfl,?_⟩;rw[e1];erw[kkI];rw[List.map_map];rfl
    |_=>ext h1
  .cases h
section
variable {X:Cx}
def Tx:Cp X (.builtin "sorted") (λxs H Q=>∃ a vs ts,xs=[.ref a]/\(SqL X.K H a vs\/SqT X.K H a vs)/\ES H vs ts/\(∀ t∈ts,t≠[])/\ts.length<=90000 /\ ∀ ys l,ES H ys (Bp ts)->H l=none->Q (.ref l) (upd H l (.lst ys))):=by
 intro zB s Y H xs us Q I r h;let⟨a,vs,ts,rfl,hq,hv,hne,hz,q⟩:=h;let⟨u,rfl,rx⟩:=F5 r;ext rx;let key:∃ (ty:String) (its:List Value),(ty = "list" \/ ty = "tuple")/\(∃ ol,s.heap.get? a=some ol/\ol.cls=.type ty /\ ∃ nl,ol.data=.seq its.toArray nl)/\zU vs its:=by
  rcases hq with hq|hq
  .obtain ⟨its,rv,⟨ol,nl,e1,e2,_,e3⟩,_⟩:=I.list hq;exact ⟨"list", its,.inl rfl,⟨ol,e1,e2,nl,e3⟩,rv⟩
  .obtain ⟨its,rv,⟨ol,e1,e2,nl,e3⟩,_⟩:=I.tuple hq;exact ⟨"tuple", its,.inr rfl,⟨ol,e1,e2,nl,e3⟩,rv⟩
 let⟨ty,its,hty,hl,rv⟩:=key;let hlen:its.length=ts.length:=by rw[<-rv.length];exact hv.1
 let hsl:its.length<=sizeLine:=by rw[Cd];omega
 let ait:∀ (i:Nat) u,its[i]?=some u -> ∃ t b,ts[i]?=some t/\u=.ref b/\H b=some (.tup ((kkI t).map kV)):=by
  intro i u e;let hi:i<ts.length:=by rw[<-hlen];exact (AK.mp e).1
  let⟨b,e1,e2⟩:=hv.2 i _ (AJ hi);calc ⟨_,b,AJ hi,?_,e2⟩;let⟨u',e3,rfl⟩:=rv.get e1;rw[e]at e3;exact BG e3
 refine Uq (MB hty hl ?_ hsl);generalize hH1:(s.heap.push (seqObj "list" #[] 0)).update ⇑s (Obj.mapSeq (· ++ its.toArray))=h1;let k1:∀ b u,s.heap.get? b=some u->h1.get? b=some u:=λb u e=>by
  let hb:⇑s≠b:=λz=>A7 _ (z▸AG e);rw[<-hH1];exact (CG _ _ hb).trans (AH _ e)
 let a2:∀ (i:Nat) u,its[i]?=some u -> ∃ t b,ts[i]?=some t/\u=.ref b/\H b=some (.tup ((kkI t).map kV))/\BD h1 (.ref b) t:=λi u e=>by
  let⟨t,b,e1,e2,e3⟩:=ait i u e;exact ⟨t,b,e1,e2,e3,(MY (I.hok b _ e3)).keep λc o _ eo=>k1 c o eo⟩
 refine ⟨hsl,λv hv'=>?_,λh' out n hk hL hp hs=>?_⟩
 .obtain ⟨i,hi⟩:=List.mem_iff_getElem?.mp hv';let⟨t,b,e1,rfl,_,tt⟩:=a2 i v hi;cases t with
  |nil=>calc absurd rfl (hne _ (Ax e1))
  |cons x t=>exact ⟨x,t,tt⟩
 .obtain ⟨ys,rvy,tv⟩:=L9 hlen a2 hp hs;let I2:Inv X zB Y H { s with heap:=h1 }:=I.kept k1;let hf:H h1.objs.size=none:=I2.hok.fresh (AF _);calc ⟨.ref h1.objs.size,upd H h1.objs.size (.lst ys),I2.laid hk (AF _) ⟨by rw[tv.1,(F6 ts).length_eq,Cd];omega,out,n,rvy,hL⟩,rfl,q ys _ tv hf⟩
def DU (ts:Ya):Bool:=ts.all λt=> !t.isEmpty
def MQ (h:DU ts=true):∀ t∈ts,t≠[]:=λt ht e=>by
 erw[DU]at h;rw[Aj]at h;have:=h t ht;rw[e]at this;ext this
def FQ:KB:=λxs M=>match xs with
 |[x]=>match zu M x with
  |some ds=>match DJ ds with
   |some ts=>if DU ts=true/\ts.length<=90000 then some (.fl ((Bp ts).map λt=>D.tup (t.map D.int)),M) else none
   |none=>none
  |none=>none
 |_=>none
def Xx:DL X.K (λxs H Q=>∃ a vs ts,xs=[.ref a]/\(SqL X.K H a vs\/SqT X.K H a vs)/\ES H vs ts/\(∀ t∈ts,t≠[])/\ts.length<=90000 /\ ∀ ys l,ES H ys (Bp ts)->H l=none->Q (.ref l) (upd H l (.lst ys))) FQ:=by
 intro L M M' H H0 xs d vs Q cc r hk q;erw[FQ]at hk;cbv at hk
 .rename_i x;cbv at hk
  .rename_i ds e1;cbv at hk
   .rename_i ts e2;cbv at hk
    .rename_i hb;ext hk;let⟨v,rfl,r1⟩:=r.one;let⟨a,ws,rfl,hs,r2⟩:=FV cc r1 e1;exact ⟨a,ws,ts,rfl,hs,JK e2 r2,MQ hb.1,hb.2,λys l tv hl=>q L _ _ (.upd hl) (cc.upd hl) (zR.newLst' cc hl (Kr tv))⟩
    .cases hk
   .cases hk
  .cases hk
 .cases hk
def P5 (hg:Gl X "sorted") (hm:X.mg "sorted" = none) (ha:QAE X [e] fa) (he:starEach [e] X.env=(false,eval e X.env)::starEach [] X.env:=by rfl) (hpl:(backTo pos (starEach [] X.env)).any (·.1)=false:=by rfl):QE X (.Call (.Name "sorted" p) [e] [] pos) (fB FQ fa) :=
 Es Xx Tx (by rfl) hg hm ha () () he hpl
end
def Oq (neg:Bool) (K:Yb):R2:=λx y H Q=>∃ (L:Yg) (d:D) (ds:List D) (p:Yt) (xs:List V),y=.ref p/\(SqL K H p xs\/SqT K H p xs)/\zZ 1 d=true/\ds.all (zZ 1)=true/\Rep L H d x/\zG L H ds xs/\Q (.bl (nb neg (ds.any λe=>AV 1 e d))) H
section
variable {X:Cx} {a b:Expr} {pos:Pos} {f g:FE} {zB:Yd} {Y:L2.St} {H:Hp} {s:Yl} {L:Yg} {d:D} {ds:List D} {xs:List V} {its:Yf} {v:V} {u:Yu}
open Classical in
def eY (L:Yg) (H:Hp) (ds:List D) (d:D) (y:Yu):Bool:=decide (∃ e,e∈ds/\(∃ v,Rep L H e v/\za v y)/\AV 1 e d=true)
open Classical in
def Jz (hs:ds.all (zZ 1)=true) {e:D} {v:V} {y:Yu} (he:e∈ds) (r:Rep L H e v) (q:za v y):eY L H ds d y=AV 1 e d:=by
 rw[Aj]at hs;let h1:=hs e he;let key:(∃ e,e∈ds/\(∃ v,Rep L H e v/\za v y)/\AV 1 e d=true) ↔ AV 1 e d=true:=by
  constructor
  .rintro ⟨e',h2,⟨v',r',q'⟩,h3⟩;let h4:=hs e' h2;have:v=v':=by
    cases e <;> first|cases h1|skip
    cases e' <;> first|cases h4|skip
    let r1:=r;let r2:=r';unfold Rep at r1 r2;let⟨a1,_,rfl,_⟩:=r1;let⟨a2,_,rfl,_⟩:=r2;ext q;ext q';rfl
   subst this;rw[Pa 1 e e' v h1 h4 r r'];exact h3
  .intro h;exact ⟨e,he,⟨v,r,q⟩,h⟩
 erw[eY];cases z:AV 1 e d with
 |true=>calc BF (key.mpr z)
 |false=>exact A6 λw=>by rw[key.mp w]at z;ext z
def Ja (rr:zG L H ds xs) (r:zU xs its) (h:j<its.length):∃ e v,e∈ds/\ds[j]?=some e/\Rep L H e v/\za v its[j]:=by
 let l1:xs.length=its.length:=r.length;let l2:xs.length=ds.length:=rr.length;let hj:j<ds.length:=()
 let⟨v,g1,t1⟩:=rr.get (AJ hj);let⟨o,g2,t2⟩:=r.get g1;rw[AJ h]at g2;ext g2;calc ⟨_,v,Au hj,AJ hj,t1,t2⟩
def OA (I:Inv X zB Y H s) (hu:X.A.units+1+1<cLine) (hd:zZ 1 d=true) (hs:ds.all (zZ 1)=true) (rd:Rep L H d v) (rx:za v u) (rr:zG L H ds xs) (r:zU xs its) (w:Yu) (hw:w∈its):SeqAt.EqAt X.A.in1 s w u (eY L H ds d w):=by
 let⟨j,hj,rfl⟩:=Bo hw;let⟨e,v',he,_,re,q⟩:=Ja rr r hj;rw[Jz hs he re q];rw[Aj]at hs;calc M0 I 1 X.A.in1 _ _ _ _ _ _ hu (hs e he) hd re rd q rx
def PH (hs:ds.all (zZ 1)=true) (rr:zG L H ds xs) (r:zU xs its):its.any (eY L H ds d)=ds.any λe=>AV 1 e d:=by
 let l1:xs.length=its.length:=r.length;let l2:xs.length=ds.length:=rr.length;rw[DC,List.any_eq_true,List.any_eq_true];constructor
 .rintro ⟨w,hw,h⟩;let⟨j,hj,rfl⟩:=Bo hw;let⟨e,v',he,_,re,q⟩:=Ja rr r hj;rw[Jz hs he re q]at h;exact ⟨e,he,h⟩
 .rintro ⟨e,he,h⟩;let⟨j,hj,rfl⟩:=Bo he;let⟨e',v',he',g,re,q⟩:=Ja rr r (j:=j) ();rw[AJ hj]at g;ext g;calc ⟨its[j],Au (),by rw[Jz hs he' re q];calc h⟩
def S8 (hu:X.A.units+1+1<cLine):OpR X (compareOp .NotIn) (Oq true X.K):=by
 intro zB s Y H x y v u Q I rx ry h;let⟨L,d,ds,p,xs,rfl,hq,hd,hs,rd,rr,q⟩:=h;ext ry;rcases hq with hq|hq
 .obtain ⟨its,r,pl,hz⟩:=I.list hq;refine SeqAt.notIn_listAt (eY L H ds d) pl.isList (λw hw=>OA I hu hd hs rd rx rr r w (~~~hw)) ⟨.bl _,H,I,rfl,?_⟩;rw[show its.toArray.any (eY L H ds d)=its.any (eY L H ds d) by simp,PH hs rr r];exact q
 .obtain ⟨its,r,pl,hz⟩:=I.tuple hq;refine SeqAt.notIn_tupleAt (eY L H ds d) pl (λw hw=>OA I hu hd hs rd rx rr r w (~~~hw)) ⟨.bl _,H,I,rfl,?_⟩;rw[show its.toArray.any (eY L H ds d)=its.any (eY L H ds d) by simp,PH hs rr r];calc q
def GB (neg:Bool):K2:=λx y M=>match x with
 |.dat d=>match zu M y with
  |some ds=>if zZ 1 d&&ds.all (zZ 1) then some (.dat (.bl (nb neg (ds.any λe=>AV 1 e d))),M) else none
  |none=>none
 |_=>none
def VS {K:Yb} {neg:Bool}:BP K (Oq neg K) (GB neg):=by
 intro L M M' H H0 x y d v w Q cc rx ry hk q;erw[GB]at hk;cbv at hk
 .rename_i d';cbv at hk
  .rename_i ds e1;cbv at hk
   .rename_i hb;ext hk;rw[A8]at hb;let⟨p,vs,rfl,hs,r⟩:=FV cc ry e1;exact ⟨L,d',ds,p,vs,rfl,hs,hb.1,hb.2,rx,r,q L H _ (.refl L H) cc (Cb (L:=L) (H:=H))⟩
   .cases hk
  .cases hk
 .cases hk
def RN (hu:X.A.units+1+1<cLine) (h1:QE X a f) (h2:QE X b g) (hm:behindInMarks .NotIn b=false:=by rfl):QT X (.Compare a [.NotIn] [b] pos) (tst (fOp (GB true) f g)):=Dz VS (S8 hu) h1 h2 hm
end
theorem LW:∀ {ns:Ye} {us:Yf},us.length=ns.length->(∀ (i:Nat) u,us[i]?=some u -> ∃ n t,ns[i]?=some n/\u=Value.int n t)->IntsAre us ns
 |[],[],_,_=> .nil
 |[],_::_,h,_=>nomatch h
 |_::_,[],h,_=>nomatch h
 |n::ns,u::us,h,ha=>by
  let⟨m,t,e,rfl⟩:=ha 0 u rfl;ext e;exact .cons n t (LW (Nat.succ.inj h) λi v e=>by
   let⟨m,t,e1,e2⟩:=ha (i+1) v (~~~e);calc ⟨m,t,by simpa using e1,e2⟩)
theorem Mu:∀ {es:List DictEntry} {kvs:List (Key × Value)},Pairs (ze P w) es kvs -> ∀ (i:Nat) e,es[i]?=some e -> ∃ kv,kvs[i]?=some kv/\Eo kv.1 e.key=true
 |_,_,.nil,i,e,h=>by simp at h
 |_,_,.cons h1 h2 h3,0,e,h=>by ext h;calc ⟨_,rfl,h1⟩
 |_,_,.cons h1 h2 h3,i+1,e,h=>Mu h3 i e (~~~h)
theorem OR:∀ {kvs:List (Key × V)} {vs:List (Key × Value)},KV kvs vs->vs.map (·.1)=kvs.map (·.1)
 |_,_,.nil=>rfl
 |_,_,.cons h1 h2=>by rw[Ad,Ad,OR h2,h1.1]
section
variable {X:Cx}
def WC (hc:X.calm=true):Cp X (.builtin "sorted") (λxs H Q=>∃ d kvs ns,xs=[.ref d]/\H d=some (.dK kvs)/\kvs.map (·.1)=ns.map Sum.inl/\ns.length<64 /\ ∀ q,H q=none->Q (.ref q) (upd H q (.lst ((zX ns).map V.int)))):=by
 intro zB s Y H xs us Q I r h;let⟨d,kvs,ns,rfl,ed,ens,h64,q⟩:=h;let⟨u,rfl,rx⟩:=F5 r;ext rx;let⟨z1,z2,vs,rv,o,es,ep,h1,h2,h3,h4,h5,h6⟩:=(show Ag X.prog X.w H s.heap d (.dK kvs)from I.hok d _ ed);let hvl:vs.map (·.1)=ns.map Sum.inl:=(OR rv).trans ens;let hsz:es.size=ns.length:=by
  rw[<-AU,Pairs.length h5];have:=BC List.length hvl;simpa using this
 refine J8 (U5 (WZ z2 h2.1 h3) (I.ok.hd hc) h1 (by rw[hsz,Cd];omega) λh' tk acc hk hle hacc=>?_);let hal:acc.toList.length=ns.length:=by rw[AU,hacc.1,hsz]
 refine ⟨ns,LW hal λi u e=>?_,by rw[hal];exact h64,λh2' out n hk2 hL hI=>?_⟩
 .rw[Am]at e;let⟨e',he',rfl⟩:=hacc.2 i u e;let⟨kv,e1,e2⟩:=Mu h5 i e' (by rw[Am];exact he');let e3:(ns.map Sum.inl)[i]?=some kv.1:=by rw[<-hvl,AQ,e1];rfl
  rw[AQ]at e3;cases hn:ns[i]? with
  |none=>rw[hn]at e3;ext e3
  |some m=>
   rw[hn]at e3;let e4:Sum.inl m=kv.1:=BG e3;rw[<-e4]at e2;rcases zt e2 with ⟨j,t,ej,ev⟩|⟨x,t,ej,_⟩
   .cases ej;exact ⟨m,t,rfl,ev⟩
   .cases ej
 .exact ⟨.ref h'.objs.size,_,I.laid (t':=tk) (λb o e=>hk2 b o (hk b o e)) hle (show Ag X.prog X.w _ h2' _ (.lst ((zX ns).map V.int))from ⟨by rw[AI,LC,Cd];omega,out,n,Ij hI,hL⟩),rfl,q _ (I.hok.fresh hle)⟩
def GQ:KB:=λxs M=>match xs with
 |[.dat (.ref n)]=>match M[n]? with
  |some (.dict ps)=>match CA (ps.map (·.1)) with
   |some ns=>if ns.length<64 then some (.fl ((zX ns).map D.int),M) else none
   |none=>none
  |_=>none
 |_=>none
theorem L6:∀ {ps:List (D × D)} {ns:Ye} {kvs:List (Key × V)},CA (ps.map (·.1))=some ns->AR Ak L H ps kvs->kvs.map (·.1)=ns.map Sum.inl
 |[],ns,kvs,h,r=>by ext h;erw[AR]at r;subst r;rfl
 | (.int i,x)::ps,ns,kvs,h,r=>by
  erw[AR]at r;let⟨k,v,r',rfl,ek,_,r2⟩:=r;ext ek;rw[Ad]at h;erw[CA]at h;cbv at h
  .rename_i bs e1;ext h;rw[Ad,Ad,L6 e1 r2]
  .cases h
 | (.non,x)::ps,_,_,h,_|(.bl _,x)::ps,_,_,h,_|(.str _,x)::ps,_,_,h,_|(.tup _,x)::ps,_,_,h,_|(.ref _,x)::ps,_,_,h,_=>nomatch h
def SD:DL X.K (λxs H Q=>∃ d kvs ns,xs=[.ref d]/\H d=some (.dK kvs)/\kvs.map (·.1)=ns.map Sum.inl/\ns.length<64 /\ ∀ q,H q=none->Q (.ref q) (upd H q (.lst ((zX ns).map V.int)))) GQ:=by
 intro L M M' H H0 xs d vs Q cc r hk q;erw[GQ]at hk;cbv at hk
 .rename_i n;cbv at hk
  .rename_i ps e1;cbv at hk
   .rename_i ns e2;cbv at hk
    .rename_i hb;ext hk;let⟨v,rfl,r1⟩:=r.one;erw[zR,Rep]at r1;let⟨a,rfl,ea⟩:=r1;let⟨ws,e3,r3⟩:=cc.obj n a _ ea e1;exact ⟨a,ws,ns,rfl,e3,L6 e2 r3,hb,λl hl=>q L _ _ (.upd hl) (cc.upd hl) (zR.newLst' cc hl (Ip _))⟩
    .cases hk
   .cases hk
  .cases hk
 .cases hk
def U3 (hc:X.calm=true) (hg:Gl X "sorted") (hm:X.mg "sorted" = none) (ha:QAE X [e] fa) (he:starEach [e] X.env=(false,eval e X.env)::starEach [] X.env:=by rfl) (hpl:(backTo pos (starEach [] X.env)).any (·.1)=false:=by rfl):QE X (.Call (.Name "sorted" p) [e] [] pos) (fB GQ fa) :=
 Es SD (WC hc) (by rfl) hg hm ha () () he hpl
end
end L3
namespace ST
section
variable {prog:Ym} {w:Yo} {A:Yn} {E:Yc} {s:Yl} {κ:SortKind} {vs:Yf} {r:Yr} {st:SortSt}
def SY:∀ n,n<64->minRun' n n 0=n:=by decide+kernel
def Dn (r:Yr) (st0 st:SortSt):Prop:=failedOf st=none/\(arrOf st).toList.Perm (arrOf st0).toList/\(arrOf st).toList.Pairwise (λx y=>r x.1<=r y.1)/\(pendingOf st).size<=1
def WR (hn:xs.size<=n) (hu:RUp r xs 0 n):xs.toList.Pairwise (λx y=>r x.1<=r y.1):=by
 rw[List.pairwise_iff_getElem];intro i j hi hj hij;rw[AU]at hi hj;have:=hu i j (Bh _) (CH hij) ();erw[KR]at this;rw[BQ hi,BQ hj]at this;calc this
def TR (R:B9 prog w s κ vs r) (hk:kindOf st=κ) (hf:failedOf st=none) (hp0:pendingOf st = #[]) (hv:∀ x∈(arrOf st).toList,x.1∈vs) (hn:(arrOf st).size<64)
  (q:∀ st',Dn r st st'->Q Unit.unit st'):wpS (model prog w) A E s sortRuns' Q st:=by
 let hm:=SY _ hn;calc wpS_bind (wpS_get ?_);refine wpS_bind (wpS_mono (wpS_forRange (I:=λx c st'=>(c=(none,0)/\x=0/\st'=st)\/(c=(none,(arrOf st).size)/\Dn r st st')) (Q:=λc st'=>(∃ lo,c=(none,lo))/\Dn r st st') ?step ?fin (.inl ⟨rfl,rfl,rfl⟩)) ?post)
 case fin=>
  rintro c st' (⟨rfl,hx,rfl⟩|⟨rfl,hd⟩)
  .have h0:max 0 (arrOf st').size=0:=hx;let e:(arrOf st').toList=[]:=Ea.mp (by rw[AU];omega);exact ⟨⟨_,rfl⟩,hf,.refl _,by rw[e];calc .nil,by rw[hp0];simp⟩
  .exact ⟨⟨_,rfl⟩,hd⟩
 case post=>
  rintro c st' ⟨⟨lo,rfl⟩,hd⟩;refine wpS_bind (wpS_mono (wpS_forRange (I:=λx c st2=>c=(none,Unit.unit)/\Dn r st st2) (Q:=λc st2=>c=(none,Unit.unit)/\Dn r st st2) ?step2 (λ_ _ z=>z) ⟨rfl,hd⟩) ?post2)
  case step2=>
   rintro x c st2 _ hx ⟨rfl,hd⟩;calc wpS_bind (wpS_get ?_);exact zK (λ_=>wpS_pure ⟨rfl,hd⟩) (λc1=>absurd hd.2.2.2 c1)
  case post2=>
   rintro c st2 ⟨rfl,hd⟩;exact wpS_pure (q st2 hd)
 case step=>
  rintro x c st' _ hx (⟨rfl,rfl,rfl⟩|⟨rfl,hd⟩)
  .refine zK (λc1=>?_) (λc1=>?_)
   .have c1':(arrOf st').size<=0:=c1;let e:(arrOf st').toList=[]:=Ea.mp (by rw[AU];omega);exact wpS_pure ⟨⟨_,rfl⟩,hf,.refl _,by rw[e];calc .nil,by rw[hp0];simp⟩
   let c1':0<(arrOf st').size:=Nat.lt_of_not_le c1;refine wpS_bind (Nk (lo:=0) (nrem:=(arrOf st').size-0) R hk hv () () λn st1 cb n1 n2 hu=>?_);let fin:∀ (n:Nat) (st1:SortSt),CB 0 st' st1->RUp r (arrOf st1) 0 (0+n)->n=(arrOf st').size->((none:Option Unit),0+n)=(none,(arrOf st').size)/\Dn r st' (setPending st1 ((pendingOf st1).push (0,n,0))):=λn st1 cb hu e=>⟨by rw[e,Nat.zero_add],cb.f.trans hf,cb.perm.toList,WR (by have:=cb.size;show (arrOf st1).size<=0+n;omega) hu,by
    show ((pendingOf st1).push (0,n,0)).size<=1;rw[Array.size_push,cb.p,hp0];simp⟩
   refine zK (λc2=>?_) (λc2=>?_)
   .refine wpS_bind (wpS_lift (Bc ⟨rfl,?_⟩));let c2':n<minRun' (arrOf st').size (arrOf st').size 0:=c2;refine wpS_bind (Mk (n:=min ((arrOf st').size-0) (minRun' (arrOf st').size (arrOf st').size 0)) R hk hv cb () n1 () hu λst2 cb2 hu2=>?_);refine zK (λz=>absurd z ()) (λ_=>?_);refine wpS_bind (wpS_get ?_);split
    .rename_i hb;let hb:(pendingOf st2).back?=some _:=hb;rw[cb2.p,hp0]at hb;ext hb
    .exact wpS_bind (wpS_modify (wpS_pure (.inr (fin _ st2 cb2 hu2 (show min ((arrOf st').size-0) (minRun' (arrOf st').size (arrOf st').size 0)=(arrOf st').size by rw[hm];omega)))))
   .have c2':¬ n<minRun' (arrOf st').size (arrOf st').size 0:=c2;refine wpS_bind (wpS_get ?_);split
    .rename_i hb;let hb:(pendingOf st1).back?=some _:=hb;rw[cb.p,hp0]at hb;ext hb
    .exact wpS_bind (wpS_modify (wpS_pure (.inr (fin _ st1 cb hu ()))))
  .exact zK (λ_=>wpS_pure ⟨⟨_,rfl⟩,hd⟩) (λc1=>absurd (AF _) c1)
end
section
variable {prog:Ym} {w:Yo} {A:Yn} {E:Yc} {s:Yl} {κ:SortKind} {vs:Yf} {r:Yr}
def QX (h64:vs.length<64) (R:B9 prog w s κ vs r):wpS (model prog w) A E s sortRuns' (λ_ st=>failedOf st=none/\((arrOf st).map (·.2)).toList.Perm vs/\((arrOf st).map (·.2)).toList.Pairwise λx y=>r x<=r y) (SortSt.mk' κ (pairsOf vs) #[] 7 none):=by
 let hz:(pairsOf vs).toList=vs.zip vs:=pairsOf_toList vs;let hv:∀ p∈(pairsOf vs).toList,p.1∈vs:=λp hp=>by rw[hz]at hp;exact (mem_zip_self hp).2
 let hl:(pairsOf vs).size<64:=by rw[<-AU,hz,List.length_zip];omega
 refine TR R rfl rfl rfl hv hl λst hd=>⟨hd.1,?_,?_⟩
 .rw[Array.toList_map];have:=hd.2.1.map (·.2);rw[show (arrOf (SortSt.mk' κ (pairsOf vs) #[] 7 none)).toList=vs.zip vs from hz,List.map_snd_zip (AF _)]at this;exact this
 .rw[Array.toList_map];let hp:(arrOf st).toList.Perm (vs.zip vs):=hz▸hd.2.1;refine List.pairwise_map.mpr ((List.Pairwise.and_mem.mp hd.2.2.1).imp λ{x y} h=>?_);let hx:=(mem_zip_self (hp.mem_iff.mp h.1)).1;let hy:=(mem_zip_self (hp.mem_iff.mp h.2.1)).1;rw[<-hx,<-hy];calc h.2.2
def Ru
  (hc:wpAny (model prog w) A.in1 (collect v) (λvs s1=>vs.length<64/\HD s1.heap vs /\
   ∀ (h':Heap) (out:List Value) (n:Nat),(∀ b u,s1.heap.get? b=some u->h'.get? b=some u)->h'.get? ⇑s1=some (seqObj "list" out.toArray n)->out.Perm vs->out.Pairwise (λx y=>AM (BZ s1.heap y) (BZ s1.heap x)=false)->Q (.ref ⇑s1) { s1 with heap:=h' }) E s) :
  wpAny (model prog w) A (call (.builtin "sorted") [v]) Q E s:=by
 calc Calls.call_function_entry kind_sorted plain_sorted entry_sorted (args_sorted1 _) ?_;unfold Builtin.«sorted»;calc AA (m:=checkCount "sorted" 1 1 _) (AB ?_);refine AA (Aq hc (λvs s1 z=>?_) λ_ _ e=>e);let⟨h64,ht,h⟩:=z;let hz:vs.length<=sizeLine:=An (CH h64) ();calc AA (wpAny_newList ?_ hz);let hoL:(s1.heap.push (seqObj "list" vs.toArray 0)).get? ⇑s1=some (seqObj "list" vs.toArray 0):=AN _ rfl;refine AA (Bl (A9 slot_list_sort ⟨_,hoL,rfl⟩ entry_list_sort (Ox (κ:=tuples' true) (F:=λout=>out.toList.Perm vs/\out.toList.Pairwise (λx y=>AM (BZ s1.heap y) (BZ s1.heap x)=false)) (s:={ s1 with heap:=s1.heap.push (seqObj "list" vs.toArray 0) }) hoL hz (λout e=>by rw[<-AU];calc e.1.length_eq) (λh2=>⟨by simp,?_⟩) ?_ λout e=>⟨_,rfl,?_⟩) (args_list_sort _)))
 .match vs,h2 with
  |[],_=>calc .nil
  |[x],_=>simp
  |_::_::_,h2=>simp at h2;omega
 .intro h2 h6 k6;let kT:∀ {v xs},BD s1.heap v xs->BD h6 v xs:=λ{v xs} t=>t.keep λb o _ e=>k6 b o (λz=>A7 _ (z▸AG e)) (AH _ e);let ht6:HD h6 vs:=λv hv=>let ⟨x,xs,t⟩:=ht v hv;⟨x,xs,kT t⟩;refine ⟨λA E Q q=>?_,λA E=>wpS_mono (QX h64 (PD (s:={ s1 with heap:=h6 }) ht6)) ?_⟩
  .match vs,h2,ht6 with
   |v::vs,_,ht6=>exact Lw (s:={ s1 with heap:=h6 }) ht6 q
  .rintro _ st ⟨e1,e2,e3⟩;refine ⟨e1,e2,(List.Pairwise.and_mem.mp e3).imp λ{x y} z=>?_⟩;let mx:=e2.mem_iff.mp z.1;let my:=e2.mem_iff.mp z.2.1;let⟨a,as,tx⟩:=ht x mx;let⟨b,bs,ty⟩:=ht y my;rw[Cv tx,Cv ty,<-Cv (kT tx),<-Cv (kT ty),LO (ks:=vs.map (BZ h6)) (List.mem_map_of_mem my) (List.mem_map_of_mem mx)];have:rkV h6 vs x<=rkV h6 vs y:=z.2.2;erw[rkV]at this;exact A6 ()
 .refine AB ⟨_,rfl,?_⟩;let g1:=get?_update_seq hoL (λ_=> #[]);let g4:=get?_update_seq (AH (seqObj "list" #[] 0) (AH (seqObj "tuple" vs.toArray 0) g1)) (λ_=>out);refine h _ out.toList _ (λb u e=>?_) (by rw[Array.toArray_toList];calc g4) e.1 e.2;let hb:⇑s1≠b:=λz=>A7 _ (z▸AG e);calc (CG _ _ hb).trans (AH _ (AH _ ((CG _ _ hb).trans (AH _ e))))
end
open PySem.SetTable
def stp (mask:Nat) (p:Probe):Probe :=
 if p.more>0 then { p with j:=p.j+1,more:=p.more-1 } else
 { p with j:=(leap mask p.i p.perturb).1,more:=runEnd mask (leap mask p.i p.perturb).1-(leap mask p.i p.perturb).1,i:=(leap mask p.i p.perturb).1,perturb:=(leap mask p.i p.perturb).2 }
def sta (mask i q:Nat):Probe:={ j:=i,more:=runEnd mask i-i,i,perturb:=q,dummy:=none }
def pth (mask:Nat) (h:Int):Nat->Probe
 |0=>sta mask (bits h % (mask+1)) (bits h)
 |n+1=>stp mask (pth mask h n)
def O8 (t:SetTable) (p:Probe):t.advance p=stp t.mask p:=rfl
theorem MW (mask:Nat) (h:Int):∀ n,(pth mask h n).dummy=none
 |0=>rfl
 |n+1=>by
  have:=MW mask h n;simp only[pth,stp];split <;> calc this
def rs (mask:Nat) (h:Int):Nat->Nat × Nat
 |0=>(bits h % (mask+1),bits h)
 |k+1=>leap mask (rs mask h k).1 (rs mask h k).2
def ix (mask:Nat) (h:Int):Nat->Nat
 |0=>0
 |k+1=>ix mask h k+(runEnd mask (rs mask h k).1-(rs mask h k).1)+1
def OP (mask i:Nat):i<=runEnd mask i/\runEnd mask i-i<=9:=by
 erw[runEnd];split <;> omega
theorem Na (mask:Nat) (h:Int):∀ k,ix mask h k<=10*k
 |0=>AF _
 |k+1=>by
  have:=Na mask h k;have:=(OP mask (rs mask h k).1).2;simp only[ix];omega
theorem Ko (mask:Nat) (h:Int) (n i q:Nat) (e:pth mask h n=sta mask i q):∀ k,k<=runEnd mask i-i->pth mask h (n+k)={ sta mask i q with j:=i+k,more:=runEnd mask i-i-k }
 |0,_=>by rw[Nat.add_zero,e];rfl
 |k+1,hk=>by
  have:=Ko mask h n i q e k ();rw[<-Nat.add_assoc,pth,this];let hp:runEnd mask i-i-k>0:=()
  simp only[stp,hp,A4,sta];congr 1
theorem Ht (mask:Nat) (h:Int):∀ k,pth mask h (ix mask h k)=sta mask (rs mask h k).1 (rs mask h k).2
 |0=>rfl
 |k+1=>by
  have:=Ko mask h _ _ _ (Ht mask h k) _ (AF _);rw[ix,pth,this];simp[stp,sta,rs]
theorem NW (mask:Nat) (h:Int):∀ k,(rs mask h k).2=bits h / 32 ^ k
 |0=>by simp[rs]
 |k+1=>by
  simp only[rs,leap,NW mask h k];rw[Nat.div_div_eq_div_mul,Nat.pow_succ]
def RZ (h:Int):bits h<2 ^ 64:=by
 erw[bits];omega
def Zr (mask:Nat) (h:Int) (k:Nat):(rs mask h (13+k)).2=0:=by
 rw[NW];apply Nat.div_eq_of_lt;calc Ao (RZ h) ?_;rw[Nat.pow_add];have:1<=32 ^ k:=Nat.pow_pos ()
 calc 2 ^ 64<=32 ^ 13*1:=()
  _<=_:=Nat.mul_le_mul_left _ this
def orb (m:Nat):Nat->Nat->Nat
 |0,i=>i
 |k+1,i=>(orb m k i*5+1) % m
theorem Hw (m:Nat) (a:Nat):∀ b i,orb m (b+a) i=orb m b (orb m a i)
 |0,i=>by simp[orb]
 |b+1,i=>by
  have:=Hw m a b i;rw[show b+1+a=(b+a)+1 from (),orb,this];rfl
theorem Ju (mask:Nat) (h:Int):∀ k,(rs mask h (13+k)).1=orb (mask+1) k (rs mask h 13).1
 |0=>rfl
 |k+1=>by
  rw[<-Nat.add_assoc,rs,leap];have:=Zr mask h k;simp only[this,Ju mask h k,orb]
def OU (mask:Nat) (h:Int):∀ k,(rs mask h k).1<mask+1
 |0=>Nat.mod_lt _ ()
 |k+1=>Nat.mod_lt _ ()
def Msk (mask:Nat):Prop:=mask=7\/mask=31\/mask=127
def UL:∀ i<8,∃ a<8,orb 8 a 0=i:=()
def VH:∀ i<32,∃ a<32,orb 32 a 0=i:=by decide+kernel
def Vk:∀ i<128,∃ a<128,orb 128 a 0=i:=by decide+kernel
def Uc {mask:Nat} (h:Msk mask):(∀ i<mask+1,∃ a<mask+1,orb (mask+1) a 0=i)/\orb (mask+1) (mask+1) 0=0:=by
 rcases h with e|e|e <;> subst e
 .exact ⟨UL,()⟩
 .exact ⟨VH,by decide+kernel⟩
 .exact ⟨Vk,by decide+kernel⟩
def Ou {mask:Nat} (h:Msk mask) {i j:Nat} (hi:i<mask+1) (hj:j<mask+1):∃ k,k<=mask/\orb (mask+1) k i=j:=by
 let⟨q,z⟩:=Uc h;let⟨a,ha,ea⟩:=q i hi;let⟨b,hb,eb⟩:=q j hj;rcases DH b a with c|c
 .refine ⟨b+(mask+1)-a,(),?_⟩;rw[<-ea,<-Hw,show b+(mask+1)-a+a=b+(mask+1)from by omega,Hw,z,eb]
 .refine ⟨b-a,(),?_⟩;rw[<-ea,<-Hw,show b-a+a=b from (),eb]
def RM {mask:Nat} (hm:Msk mask) (h:Int) {j:Nat} (hj:j<=mask):∃ n<10*turns mask,(pth mask h n).j=j:=by
 let⟨k,hk,e⟩:=Ou hm (OU mask h 13) (show j<mask+1 by omega);refine ⟨ix mask h (13+k),?_,?_⟩
 .have:=Na mask h (13+k);erw[turns];omega
 .rw[Ht,<-e,<-Ju];rfl
def PK (mask:Nat) (h:i<=mask):i+(runEnd mask i-i)<=mask:=by
 erw[runEnd];split <;> omega
def Mc (mask:Nat) (h:Int) (n:Nat):(pth mask h n).j+(pth mask h n).more<=mask:=by
 induction n with
 |zero=>calc PK mask (Nat.le_of_lt_succ (Nat.mod_lt _ ()))
 |succ n ih=>
  simp only[pth,stp];split
  .simp only;omega
  .exact PK mask (Nat.le_of_lt_succ (Nat.mod_lt _ ()))
def Px {t:SetTable} (hu:Up t.place) (h:i<t.place.size):t.slot t.place[i]=.live i:=by
 let e:below t.place t.place[i]=i:=by
  let⟨a,b,c⟩:=Fh hu t.place[i];rcases Nat.lt_trichotomy (below t.place t.place[i]) i with q|q|q
  .have:=c _ () (AF _);have:=hu.get q h;omega
  .exact q
  .have:=b i h q;omega
 erw[slot];simp[e,h]
def V0 {t:SetTable} (hd:t.dummies = #[]) (h:j∉t.place.toList):t.slot j=.empty:=by
 let h1:(t.place[below t.place j]?==some j)=false:=by
  rw[beq_eq_false_iff_ne];intro e;exact h (~~~Array.mem_of_getElem? e)
 erw[slot];simp[h1,hd,Hi]
theorem Of {t:SetTable} (hu:Up t.place) (hd:t.dummies = #[]) (ha:Nat->Int) (h:Int):∀ fuel n,(∃ m,n<=m/\m<n+fuel/\(pth t.mask h m).j∉t.place.toList) ->
  ∃ m,n<=m/\(∀ k,n<=k->k<m -> ∃ i,∃ hi:i<t.place.size,t.place[i]=(pth t.mask h k).j/\ha i≠h) /\
   ((probe.go t ha h fuel (pth t.mask h n)=some (.empty (pth t.mask h m).j none)/\(pth t.mask h m).j∉t.place.toList) \/
    ∃ i,∃ hi:i<t.place.size,t.place[i]=(pth t.mask h m).j/\ha i=h/\probe.go t ha h fuel (pth t.mask h n)=some (.candidate (pth t.mask h m).j i (pth t.mask h (m+1))))
 |0,n,⟨m,a,b,_⟩=>absurd b ()
 |fuel+1,n,⟨m,a,b,c⟩=>by
  by_cases hn:(pth t.mask h n).j∈t.place.toList
  .obtain ⟨i,hi,e⟩:=Bo hn;let hi':i<t.place.size:=by simpa using hi
   let e':t.place[i]=(pth t.mask h n).j:=by simpa using e
   let hs:=Px hu hi';rw[e']at hs;erw[probe.go];rw[hs];by_cases q:ha i=h
   .refine ⟨n,AF _,λk h1 h2=>absurd h1 (),.inr ⟨i,hi',e',q,?_⟩⟩;simp only[q,beq_self_eq_true,A4,O8];rfl
   .have hne:n≠m:=λz=>c (z▸hn);let⟨m',h1,h2,h3⟩:=Of hu hd ha h fuel (n+1) ⟨m,(),(),c⟩;refine ⟨m',(),λk k1 k2=>?_,?_⟩
    .rcases Nat.eq_or_lt_of_le k1 with z|z
     .subst z;exact ⟨i,hi',e',q⟩
     .exact h2 k z k2
    .have hb:(ha i==h)=false:=by simpa using q
     simp only[hb,O8];exact h3
  .unfold probe.go;rw[V0 hd hn];refine ⟨n,AF _,λk h1 h2=>absurd h1 (),.inl ⟨?_,hn⟩⟩;rw[MW]
def OnP (mask:Nat) (h:Int) (j:Nat) (S:Nat->Prop):Prop:=∃ n,(pth mask h n).j=j /\ ∀ m<n,S (pth mask h m).j
def OnP.mono {mask:Nat} {h:Int} {j:Nat} {S S':Nat->Prop} (q:OnP mask h j S) (hs:∀ j,S j->S' j):OnP mask h j S':=by
 let⟨n,a,b⟩:=q;calc ⟨n,a,λm hm=>hs _ (b m hm)⟩
structure PT (t:SetTable) (es:List (Int × Value)):Prop where
 up:Up t.place
 nod:t.dummies = #[]
 msk:Msk t.mask
 siz:t.place.size=es.length
 inb:∀ j∈t.place.toList,j<=t.mask
 on:∀ p∈t.place.toList.zip es,OnP t.mask p.2.1 p.1 (· ∈ t.place.toList)
def Ww (hu:Up xs) (h:j∈xs.toList):below xs (j+1)=below xs j+1:=by
 let⟨i,hi,e⟩:=Bo h;let hi':i<xs.size:=by simpa using hi
 let e':xs[i]=j:=by simpa using e
 rw[<-e',Oz hu hi'];let⟨a,b,c⟩:=Fh hu xs[i];rcases Nat.lt_trichotomy (below xs xs[i]) i with q|q|q
 .have:=c _ () (AF _);have:=hu.get q hi';omega
 .omega
 .have:=b i hi' q;omega
theorem Me (hu:Up xs):∀ n,(∀ j<n,j∈xs.toList)->below xs n=n
 |0,_=>Pj hu
 |n+1,h=>by rw[Ww hu (h n ()),Me hu n (λj hj=>h j ())]
def Qg {xs:Array Nat} (hu:Up xs) {mask:Nat} (h:xs.size<=mask):∃ j,j<=mask/\j∉xs.toList:=by
 refine qz λhc=>?_;have:=Me hu (mask+1) (λj hj=>qz λq=>hc ⟨j,(),q⟩);have:=(Fh hu (mask+1)).1;omega
def PT.free {t:SetTable} {es:List (Int × Value)} (q:PT t es) (hr:es.length<=t.mask) (h:Int):∃ n<10*turns t.mask,(pth t.mask h n).j∉t.place.toList:=by
 let⟨j,hj,e⟩:=Qg q.up (mask:=t.mask) (by rw[q.siz];calc hr);let⟨n,hn,en⟩:=RM q.msk h hj;calc ⟨n,hn,en▸e⟩
def PT.put (q:PT t es.toList) (hj:j∉t.place.toList) (hm:j<=t.mask) (ho:OnP t.mask h j (· ∈ t.place.toList)) :
  PT (t.put j).1 (insertAt es (t.put j).2 (h,x)).toList:=by
 let hp:(t.put j).1.place.toList=t.place.toList.take (below t.place j)++j::t.place.toList.drop (below t.place j):=HJ _ _ _;let hsub:∀ i,i∈t.place.toList->i∈(t.put j).1.place.toList:=λi hi=>by
  rw[hp,Ab,AL];rw[<-Cz (below t.place j) t.place.toList,Ab]at hi;exact hi.elim .inl (λz=> .inr (.inr z))
 let hof:∀ i,i∈(t.put j).1.place.toList->i=j\/i∈t.place.toList:=λi hi=>by
  rw[hp,Ab,AL]at hi;rcases hi with z|z|z
  .exact .inr (List.mem_of_mem_take z)
  .exact .inl z
  .exact .inr (FX z)
 let hsz:t.place.toList.length=es.toList.length:=by
  have:=q.siz;simpa using this
 refine ⟨Ld q.up hj,?_,q.msk,?_,λi hi=>?_,λp hp'=>?_⟩
 .show (if has t.dummies j then _ else t.dummies) = #[];rw[q.nod,Hi];rfl
 .have h1:=BC List.length hp;rw[HJ];simp only[BK,Cu,BY,D0,AU]at h1 ⊢;have:=q.siz;simp only[AU]at this;show (t.put j).1.place.size=min (below t.place j) es.size+(es.size-below t.place j+1);omega
 .rcases hof i hi with z|z
  .subst z;exact hm
  .exact q.inb i z
 .rw[hp,HJ,List.zip_append (by
   show (List.take (below t.place j) t.place.toList).length=(List.take (below t.place j) es.toList).length;simp only[BY,hsz]),List.zip_cons_cons,Ab,AL]at hp'
  let hz:∀ p,p∈t.place.toList.zip es.toList->OnP (t.put j).1.mask p.2.1 p.1 (· ∈ (t.put j).1.place.toList):=λp z=>(q.on p z).mono hsub;rcases hp' with z|z|z
  .refine hz p ?_;let e:List.zip (List.take (below t.place j) t.place.toList) (List.take (t.put j).2 es.toList)=List.take (below t.place j) (t.place.toList.zip es.toList):=by
    simp only[List.zip_eq_zipWith,List.take_zipWith];rfl
   rw[e]at z;exact List.mem_of_mem_take z
  .subst z;exact ho.mono hsub
  .refine hz p ?_;let e:List.zip (List.drop (below t.place j) t.place.toList) (List.drop (t.put j).2 es.toList)=List.drop (below t.place j) (t.place.toList.zip es.toList):=by
    simp only[List.zip_eq_zipWith,List.drop_zipWith];rfl
   rw[e]at z;calc FX z
theorem Pt (mask:Nat) (h:Int):∀ a b,a<b->ix mask h a<ix mask h b
 |a,0,hab=>absurd hab ()
 |a,b+1,hab=>by
  simp only[ix];rcases Nat.eq_or_lt_of_le (Nat.le_of_lt_succ hab)with z|z
  .subst z;omega
  .have:=Pt mask h a b z;omega
abbrev Fr (ow:Array (Option Nat)) (j:Nat):Prop:=(ow.getD j (some 0)).isNone=true
theorem Nu {mask:Nat} {ow:Array (Option Nat)} {h:Int}:∀ fuel k,(∀ m<ix mask h k,¬ Fr ow (pth mask h m).j)->(∃ m<ix mask h (k+fuel),Fr ow (pth mask h m).j) ->
  ∃ n,layClean.free mask ow fuel (rs mask h k).1 (rs mask h k).2=some (pth mask h n).j/\Fr ow (pth mask h n).j /\ ∀ m<n,¬ Fr ow (pth mask h m).j
 |0,k,h1,⟨m,h2,h3⟩=>absurd h3 (h1 m (~~~h2))
 |fuel+1,k,h1,⟨m,h2,h3⟩=>by
  erw[layClean.free];let hr:=Ko mask h _ _ _ (Ht mask h k);let hj:∀ d,d<=runEnd mask (rs mask h k).1-(rs mask h k).1->(pth mask h (ix mask h k+d)).j=(rs mask h k).1+d:=λd hd=>by rw[hr d hd]
  let hle:=(OP mask (rs mask h k).1).1;cases hf:(List.range (runEnd mask (rs mask h k).1+1-(rs mask h k).1)).find? λd=>(ow.getD ((rs mask h k).1+d) (some 0)).isNone with
  |some d=>
   rw[List.find?_range_eq_some]at hf;let⟨f1,f2,f3⟩:=hf;rw[C3]at f2;refine ⟨ix mask h k+d,?_,?_,λm' hm'=>?_⟩
   .simp only[hj d ()]
   .rw[hj d ()];exact f1
   .rcases DH m' (ix mask h k)with z|z
    .exact h1 m' z
    .have e:=hj (m'-ix mask h k) ();rw[show ix mask h k+(m'-ix mask h k)=m' from ()]at e;rw[e];have:=f3 (m'-ix mask h k) ();intro z';rw[show (ow.getD ((rs mask h k).1+(m'-ix mask h k)) (some 0)).isNone=true from z']at this;calc absurd this ()
  |none=>
   rw[List.find?_range_eq_none]at hf;refine Nu fuel (k+1) (λm' hm'=>?_) ⟨m,by rw[show k+1+fuel=k+(fuel+1)from by omega];calc h2,h3⟩;rcases DH m' (ix mask h k)with z|z
   .exact h1 m' z
   .simp only[ix]at hm';let e:=hj (m'-ix mask h k) ();rw[show ix mask h k+(m'-ix mask h k)=m' from ()]at e;rw[e];have:=hf (m'-ix mask h k) ();intro z';rw[show (ow.getD ((rs mask h k).1+(m'-ix mask h k)) (some 0)).isNone=true from z']at this;calc absurd this ()
def W6 {mask:Nat} (hm:Msk mask) (h:Int) {j:Nat} (hj:j<=mask):∃ k<turns mask,(rs mask h k).1=j:=by
 let⟨k,hk,e⟩:=Ou hm (OU mask h 13) (show j<mask+1 by omega);refine ⟨13+k,?_,?_⟩
 .unfold turns;omega
 .rw[<-e,<-Ju]
def Sz {mask:Nat} (hm:Msk mask) {ow:Array (Option Nat)} (h:Int) (hf:∃ j,j<=mask/\Fr ow j) :
  ∃ n,layClean.free mask ow (turns mask) (bits h % (mask+1)) (bits h)=some (pth mask h n).j/\Fr ow (pth mask h n).j /\ ∀ m<n,¬ Fr ow (pth mask h m).j:=by
 let⟨j,hj,fj⟩:=hf;let⟨k,hk,e⟩:=W6 hm h hj;refine Nu (turns mask) 0 (λm hm'=>absurd hm' (by simp[ix])) ⟨ix mask h k,by rw[Nat.zero_add];calc Pt mask h _ _ hk,?_⟩;rw[Ht];show Fr ow (rs mask h k).1;rw[e];calc fj
structure Ow (mask:Nat) (hs:Ye) (ow:Array (Option Nat)):Prop where
 siz:ow.size=mask+1
 per:(ow.toList.filterMap id).Perm (List.range hs.length)
 on:∀ j k,ow.toList[j]?=some (some k) -> ∃ h,hs[k]?=some h/\OnP mask h j (¬ Fr ow ·)
def X6 {l:List (Option Nat)} (h:none∉l):(l.filterMap id).length=l.length:=by
 induction l with
 |nil=>rfl
 |cons a l ih=>
  rw[AL,not_or]at h;cases a with
  |none=>calc absurd rfl h.1
  |some a=>simpa using ih h.2
def Fo:Fr ow j ↔ ow.toList[j]?=some none:=by
 erw[Fr];rw[Array.getD_eq_getD_getElem?,<-Am];cases ow.toList[j]? with
 |none=>simp
 |some a=>cases a <;> simp
def Ow.step {mask:Nat} (hm:Msk mask) {hs:Ye} {ow:Array (Option Nat)} (q:Ow mask hs ow) (hl:hs.length<=mask) (h:Int) :
  ∃ j,layClean.free mask ow (turns mask) (bits h % (mask+1)) (bits h)=some j/\Ow mask (hs++[h]) (ow.setIfInBounds j (some hs.length)):=by
 let hf:∃ j,j<=mask/\Fr ow j:=by
  let hn:none∈ow.toList:=qz λz=>by
   let e1:=X6 z;let e2:=q.per.length_eq;have:=q.siz;simp only[Di,AU]at e1 e2;omega
  let⟨i,hi,e⟩:=Bo hn;have:=q.siz;calc ⟨i,by simp only[AU]at hi;omega,?_⟩;rw[Fo,AJ hi,e]
 let⟨n,f1,f2,f3⟩:=Sz hm h hf;refine ⟨_,f1,?_⟩;generalize hj:(pth mask h n).j=j at *;let e2:ow.toList[j]?=some none:=Fo.mp f2;let hjl:j<ow.toList.length:=(AK.mp e2).1;let ej:ow.toList[j]=none:=(AK.mp e2).2;let tl:(ow.setIfInBounds j (some hs.length)).toList=ow.toList.set j (some hs.length):=Array.toList_setIfInBounds;let fm:∀ i,¬ Fr ow i -> ¬ Fr (ow.setIfInBounds j (some hs.length)) i:=λi hi z=>by
  rw[Fo,tl,CJ]at z;by_cases c:j=i
  .subst c;exact hi f2
  .rw[AE c]at z;exact hi (Fo.mpr z)
 let fj:∀ i,i=j -> ¬ Fr (ow.setIfInBounds j (some hs.length)) i:=λi hi z=>by
  subst hi;rw[Fo,tl,Bv hjl]at z;ext z
 refine ⟨by simpa using q.siz,?_,λi k hik=>?_⟩
 .rw[tl,List.set_eq_take_append_cons_drop,AD hjl,BK,List.length_singleton,List.range_succ];let hd:ow.toList=ow.toList.take j++none::ow.toList.drop (j+1):=by
   conv=>lhs;rw[<-Cz j ow.toList,List.drop_eq_getElem_cons hjl,ej]
  let p:=q.per;rw[hd]at p;rw[List.filterMap_append]at p ⊢;simp only[List.filterMap_cons,id]at p ⊢;calc (List.perm_middle).trans (((List.Perm.cons _ p)).trans ?_);exact (List.perm_append_singleton _ _).symm
 .rw[tl,CJ]at hik;by_cases c:j=i
  .subst c;rw[AD rfl,AD hjl]at hik;ext hik;exact ⟨h,by simp,n,hj,λm hm'=>fm _ (f3 m hm')⟩
  .rw[AE c]at hik;let⟨h',a,b⟩:=q.on i k hik;calc ⟨h',?_,b.mono fm⟩;rw[BI (AK.mp a).1,a]
def Ow.init (mask:Nat):Ow mask [] (Array.replicate (mask+1) none):=by
 refine ⟨by simp,?_,λj k h=>?_⟩
 .have:(List.replicate (mask+1) (none:Option Nat)).filterMap id=[]:=by
   rw[List.filterMap_eq_nil_iff];intro a ha;exact (List.mem_replicate.mp ha).2
  rw[Array.toList_replicate,this];exact .refl _
 .rw[Array.toList_replicate]at h;have:=(List.mem_replicate.mp (Ax h)).2;ext this
theorem Ls {mask:Nat} (hm:Msk mask):∀ (rest pre:Ye) (ow:Array (Option Nat)),Ow mask pre ow->pre.length+rest.length<=mask+1 ->
  ∃ ow',rest.foldl (λ(acc:Option (Array (Option Nat) × Nat)) h=>do
   let (owner,k) <- acc;let j <- layClean.free mask owner (turns mask) (bits h % (mask+1)) (bits h);pure (owner.setIfInBounds j (some k),k+1)) (some (ow,pre.length))=some (ow',(pre++rest).length)/\Ow mask (pre++rest) ow'
 |[],pre,ow,q,_=>⟨ow,by simp,by simpa using q⟩
 |h::rest,pre,ow,q,hl=>by
  rw[Cu]at hl;let⟨j,e,q'⟩:=q.step hm () h;let⟨ow',e',q''⟩:=Ls hm rest (pre++[h]) _ q' (by rw[BK,List.length_singleton];omega);calc ⟨ow',?_,by simpa using q''⟩;rw[List.foldl_cons];let e2:(pre++[h]++rest).length=(pre++h::rest).length:=by simp
  rw[<-e2,<-e'];congr 1;simp[e]
def ZD {mask:Nat} (hm:Msk mask) (hs:Array Int) (hl:hs.size<=mask):∃ ow,layClean mask hs=some ow/\Ow mask hs.toList ow:=by
 let⟨ow,e,q⟩:=Ls hm hs.toList [] _ (Ow.init mask) (by simp;omega);calc ⟨ow,?_,by simpa using q⟩;erw[layClean];rw[<-Array.foldl_toList];erw [e];rfl
def live (mask:Nat) (ow:Array (Option Nat)):List (Nat × Nat):=(List.range (mask+1)).filterMap λj=>(ow.getD j none).map (j,·)
def Qt {mask:Nat} {ow:Array (Option Nat)} (h:ow.size=mask+1):(live mask ow).map (·.2)=ow.toList.filterMap id:=by
 let e:ow.toList=(List.range (mask+1)).map λj=>ow.getD j none:=by
  apply List.ext_getElem (by simp[h]);intro i h1 h2;have:i<ow.size:=by simpa using h1
  simp[Array.getD,this]
 rw[e,List.filterMap_map,live,List.map_filterMap];congr 1;funext j;simp only[Function.comp,id];cases ow.getD j none <;> rfl
def Ka {mask:Nat} {ow:Array (Option Nat)} {p:Nat × Nat}:p∈live mask ow ↔ p.1<=mask/\ow.toList[p.1]?=some (some p.2):=by
 erw[live];rw[List.mem_filterMap];let key:∀ j,ow.getD j none=some p.2 ↔ ow.toList[j]?=some (some p.2):=λj=>by
  rw[Array.getD_eq_getD_getElem?,<-Am];cases ow.toList[j]? with
  |none=>simp
  |some a=>simp
 constructor
 .rintro ⟨j,hj,e⟩;rw[Option.map_eq_some_iff]at e;let⟨k,ek,rfl⟩:=e;exact ⟨Nat.le_of_lt_succ (C3.mp hj),(key j).mp ek⟩
 .rintro ⟨h1,h2⟩;calc ⟨p.1,C3.mpr (),by rw[(key p.1).mpr h2];rfl⟩
def OnP.within {mask:Nat} {h:Int} {j:Nat} {S S':Nat->Prop} (q:OnP mask h j S) (hs:∀ j,j<=mask->S j->S' j):OnP mask h j S':=by
 let⟨n,a,b⟩:=q;calc ⟨n,a,λm hm=>hs _ (by have:=Mc mask h m;omega) (b m hm)⟩
theorem Gf {α β γ:Type} {f:α->β} {g:α->Option γ}:∀ {L:List α},(∀ p∈L,∃ e,g p=some e)->(L.filterMap g).length=L.length /\ ∀ q∈(L.map f).zip (L.filterMap g),∃ p∈L,f p=q.1/\g p=some q.2
 |[],_=>⟨rfl,λq h=>by ext h⟩
 |a::L,h=>by
  let⟨e,he⟩:=h a (Az ..);let⟨i1,i2⟩:=Gf (f:=f) (g:=g) (L:=L) λp hp=>h p (Ay _ hp);rw[List.filterMap_cons_some he];refine ⟨by simp[i1],λq hq=>?_⟩;rw[Ad,List.zip_cons_cons,AL]at hq;rcases hq with rfl|hq
  .exact ⟨a,Az ..,rfl,he⟩
  .obtain ⟨p,hp,z⟩:=i2 q hq;calc ⟨p,Ay _ hp,z⟩
def ZE {α:Type} (es:Array α):(List.range es.size).filterMap (es[·]?)=es.toList:=by
 let e:(List.range es.size).map (es[·]?)=es.toList.map some:=by
  apply List.ext_getElem (by simp);intro i h1 h2;have:i<es.size:=by simpa using h1
  simp[this]
 have:(List.range es.size).filterMap (es[·]?)=((List.range es.size).map (es[·]?)).filterMap id:=by
  rw[List.filterMap_map];rfl
 rw[this,e,List.filterMap_map];simp
def Wk {t:SetTable} {es:Yw} (hm:Msk (sizeAbove wanted-1)) (hl:es.size<=sizeAbove wanted-1) :
  ∃ t' order,t.relaid (es.map (·.1)) wanted=some (t',order)/\t'.mask=sizeAbove wanted-1/\t'.led=t.led/\t'.plain=t.plain /\
   (order.filterMap (es[·]?)).toList.Perm es.toList/\PT t' (order.filterMap (es[·]?)).toList:=by
 let⟨ow,e,q⟩:=ZD hm (es.map (·.1)) (~~~hl);generalize hmk:sizeAbove wanted-1=mask at *;refine ⟨{ mask,place:=((live mask ow).map (·.1)).toArray,dummies:=#[],finger:=t.finger,led:=t.led,moves:=t.movedTo mask,plain:=t.plain },((live mask ow).map (·.2)).toArray,?_,rfl,rfl,rfl,?_,?_⟩
 .unfold relaid laid;rw[hmk,e];rfl
 .have h1:((((live mask ow).map (·.2)).toArray).filterMap (es[·]?)).toList=((live mask ow).map (·.2)).filterMap (es[·]?):=by simp
  rw[h1,Qt q.siz];let h2:=q.per.filterMap (es[·]?);rw[show (es.map (·.1)).toList.length=es.size from by simp,ZE]at h2;exact h2
 .have h1:((((live mask ow).map (·.2)).toArray).filterMap (es[·]?)).toList=(live mask ow).filterMap (λp=>es[p.2]?):=by
   simp only[List.filterMap_toArray,List.filterMap_map];rfl
  let hon:∀ p∈live mask ow,∃ h,(es.map (·.1)).toList[p.2]?=some h/\OnP mask h p.1 (¬ Fr ow ·):=λp hp=>q.on _ _ (Ka.mp hp).2;let hsome:∀ p∈live mask ow,∃ x,(λp:Nat × Nat=>es[p.2]?) p=some x:=λp hp=>by
   let⟨h,a,_⟩:=hon p hp;have:p.2<es.size:=by simpa using (AK.mp a).1
   exact ⟨es[p.2],by simp[this]⟩
  let⟨z1,z2⟩:=Gf (f:=λp:Nat × Nat=>p.1) hsome;rw[h1];refine ⟨?_,rfl,hm,by simp[z1],λj hj=>?_,λx hx=>?_⟩
  .show List.Pairwise _ ((live mask ow).map (·.1));erw[live];rw[List.pairwise_map,List.pairwise_filterMap];refine List.pairwise_lt_range.imp λ{a b} hab x hx y hy=>?_;let⟨u,_,rfl⟩:=Option.map_eq_some_iff.mp hx;let⟨v,_,rfl⟩:=Option.map_eq_some_iff.mp hy;exact hab
  .obtain ⟨p,hp,rfl⟩:=Af.mp hj;exact (Ka.mp hp).1
  .obtain ⟨p,hp,e1,e2⟩:=z2 x hx;let⟨h,a,b⟩:=hon p hp;let hh:h=x.2.1:=by
    let e2':es[p.2]?=some x.2:=e2;rw[Array.toList_map,AQ,Am,e2']at a;exact (BG a).symm
   rw[<-hh,<-e1];refine b.within λj hj hf=>?_;show j∈(live mask ow).map (·.1);let hlt:j<ow.toList.length:=by
    have:=q.siz;rw[AU];omega
   cases ho:ow.toList[j] with
   |none=>calc absurd (Fo.mpr (by rw[AJ hlt,ho])) hf
   |some k=>calc Af.mpr ⟨(j,k),Ka.mpr ⟨hj,by rw[AJ hlt,ho]⟩,rfl⟩
def PT.absent {t:SetTable} {es:List (Int × Value)} (q:PT t es) {h:Int} {m:Nat} (hf:(pth t.mask h m).j∉t.place.toList) {E:Nat->Prop}
  (hk:∀ k<m,∃ i,∃ hi:i<t.place.size,t.place[i]=(pth t.mask h k).j /\ ¬ E i) {i:Nat} (hi:i<es.length) (eh:es[i].1=h):¬ E i:=by
 intro hE;let hi':i<t.place.size:=by rw[q.siz];exact hi
 let hl:i<t.place.toList.length:=by simpa using hi'
 let hz:(t.place[i],es[i])∈t.place.toList.zip es:=by
  let h1:i<(t.place.toList.zip es).length:=by simp only[List.length_zip];omega
  let h2:(t.place.toList.zip es)[i]=(t.place[i],es[i]):=by simp
  rw[<-h2];exact Au h1
 let⟨n,e1,e2⟩:=q.on _ hz;rw[eh]at e1 e2;let e1':(pth t.mask h n).j=t.place[i]:=e1;let hin:t.place[i]∈t.place.toList:=by
  have:=Au hl;simpa using this
 rcases Nat.lt_trichotomy n m with c|c|c
 .obtain ⟨i',hi2,e3,e4⟩:=hk n c;rw[e1']at e3;have:i'=i:=by
   rcases Nat.lt_trichotomy i' i with z|z|z
   .have:=q.up.get z hi';omega
   .exact z
   .have:=q.up.get z hi2;omega
  subst this;exact e4 hE
 .subst c;exact hf (e1'▸hin)
 .exact hf (e2 m c)
def XN {mask n:Nat} (hm:Msk mask) (h1:n*5<mask*3) (h2:mask*3<=(n+1)*5) (hn:n<60) :
  Msk (sizeAbove (grown (n+1))-1)/\(n+1)*5<(sizeAbove (grown (n+1))-1)*3:=by
 rcases hm with e|e|e <;> subst e
 .have:n=4:=()
  subst this;exact ⟨.inr (.inl ()),()⟩
 .have:n=18:=()
  subst this;exact ⟨.inr (.inr ()),()⟩
 .omega
def PT.fresh {led:Bool}:PT (SetTable.fresh 0 0 led) []:=⟨List.Pairwise.nil,rfl,.inl rfl,rfl,(λj h=>by ext h),(λp h=>by ext h)⟩
theorem PT.plain (q:PT t es) (b:Bool):PT { t with plain:=b } es:=⟨q.up,q.nod,q.msk,q.siz,q.inb,q.on⟩
open PySem.Sem (wp)
section
variable {prog:Ym} {w:Yo} {A:Yn} {Er:Yc} {s:Yl} {a:Yt} {o:Obj} {es:Yw} {ep:Nat} {t:SetTable} {x:Yu} {h:Int} {adding:Bool}
theorem Mi {Q:SetFound->Shared->Prop} (ho:s.heap.get? a=some o) (hd:o.data=.set es ep t) (hf:t.fits es.size=true) (q:PT t es.toList) {M:Nat} (hM:M<10*turns t.mask) (hMf:(pth t.mask h M).j∉t.place.toList)
  (hrf:∀ i (hi:i<es.size),∃ b,es[i].2=.ref b) {F:Nat->Bool}
  (heq:∀ i (hi:i<es.size),es[i].1=h -> ∀ {Q':Bool->Shared->Prop},Q' (F i) s->wpAny (model prog w) A (eqBool es[i].2 x) Q' Er s)
  (hsee:t.led=false -> ∀ {Q':Bool->Shared->Prop},Q' false s->wpAny (model prog w) A (searchCouldBeSeen x ((es.filter (·.1==h)).toList.map (·.2))) Q' Er s)
  (h1:∀ i (hi:i<es.size) u,es[i].1=h->F i=true->(adding=false->u.isSome=true)->Q (.there u) s)
  (h2:∀ m,(pth t.mask h m).j∉t.place.toList->(∀ k<m,∃ i,∃ hi:i<t.place.size,t.place[i]=(pth t.mask h k).j /\ ¬ (F i=true /\ ∃ hi:i<es.size,es[i].1=h))->Q (.free (pth t.mask h m).j false) s) :
  ∀ fuel n stand,stand.getD (t.probeStart h)=pth t.mask h n->n<=M->M-n<fuel->(∀ k<n,∃ i,∃ hi:i<t.place.size,t.place[i]=(pth t.mask h k).j /\ ¬ (F i=true /\ ∃ hi:i<es.size,es[i].1=h)) ->
  wpAny (model prog w) A (setSearchFrom a x h adding fuel stand) Q Er s
 |0,n,stand,_,_,hfu,_=>absurd hfu ()
 |fuel+1,n,stand,hst,hnM,hfu,hk=>by
  let hsz:t.place.size=es.size:=by simpa using q.siz
  erw[setSearchFrom];refine AA (B4 ho hd hf ?_);dsimp only;let hgw:t.gaveWay=false:=by
   erw[gaveWay];rcases q.msk with e|e|e <;> rw[e] <;> rfl
  rw[hgw,hst];simp only[AZ,Ah];let⟨m,m1,m2,m3⟩:=Of q.up q.nod (λi=>(es[i]?.map (·.1)).getD 0) h (10*turns t.mask) n ⟨M,hnM,(),hMf⟩;let hm2:∀ k,n<=k->k<m -> ∃ i,∃ hi:i<t.place.size,t.place[i]=(pth t.mask h k).j /\ ¬ (F i=true /\ ∃ hi:i<es.size,es[i].1=h):=λk k1 k2=>by
   let⟨i,hi,e1,e2⟩:=m2 k k1 k2;refine ⟨i,hi,e1,λ⟨_,hi',e3⟩=>e2 ?_⟩;simp[hi',e3]
  let hkm:∀ k<m,∃ i,∃ hi:i<t.place.size,t.place[i]=(pth t.mask h k).j /\ ¬ (F i=true /\ ∃ hi:i<es.size,es[i].1=h):=λk k2=>by
   rcases DH k n with c|c
   .exact hk k c
   .exact hm2 k c k2
  rcases m3 with ⟨e1,e2⟩|⟨i,hi,e1,e2,e3⟩
  .have e1':t.probe (λi=>(es[i]?.map (·.1)).getD 0) h (pth t.mask h n)=some (.empty (pth t.mask h m).j none):=e1;erw [e1'];dsimp only;exact AB (h2 m e2 hkm)
  .have e3':t.probe (λi=>(es[i]?.map (·.1)).getD 0) h (pth t.mask h n)=some (.candidate (pth t.mask h m).j i (pth t.mask h (m+1))):=e3;erw [e3'];dsimp only;let hi':i<es.size:=()
   let ehi:es[i].1=h:=by simpa [hi'] using e2
   let hge:es[i]?=some es[i]:=by simp[hi']
   rcases (show t.led=true\/t.led=false by cases t.led <;> simp)with hl|hl;simp only[hl,Bx,AZ,Ah];clear hl;calc ?K;rotate_left;simp only[hl,Bool.not_false,A4];calc AA (hsee hl ?_);simp only[AZ,Ah];clear hl;calc ?K;rw[hge];dsimp only;calc AA (Bl (heq i hi' ehi ?_));calc AA (B4 ho hd hf ?_);dsimp only;let hsm:t.sameMemory t.moves t.mask=some true:=by simp[sameMemory]
   let hsl:t.slot (pth t.mask h m).j=.live i:=by rw[<-e1];exact Px q.up hi
   let⟨b,hb⟩:=hrf i hi';by_cases hF:F i=true
   .cases adding with
    |true=>
     simp only[hF,Bool.and_self,A4];exact AB (h1 i hi' _ ehi hF λz=>by ext z)
    |false=>
     simp only[Bool.false_and,AZ,Ah];rw[hsm];dsimp only;simp only[A4,hsl,hge,hb];calc AA (wpAny_isSame_ref_self (AA (AB ?_)));simp only[A4,hF];exact AB (h1 i hi' _ ehi hF λ_=>rfl)
   .have hF':F i=false:=by simpa using hF
    simp only[hF',Bool.and_false,AZ,Ah];rw[hsm];dsimp only;simp only[A4,hsl,hge,hb];refine AA (wpAny_isSame_ref_self (AA (AB ?_)));simp only[A4];let hmM:m<M:=by
     rcases Nat.lt_trichotomy m M with c|c|c
     .exact c
     .subst c;exact absurd (by rw[<-e1];simp) hMf
     .obtain ⟨i',hi2,e4,_⟩:=hkm M c;exact absurd (by rw[<-e4];simp) hMf
    refine Mi ho hd hf q hM hMf hrf heq hsee h1 h2 fuel (m+1) _ rfl () () λk hk'=>?_;rcases DH k m with c|c
    .exact hkm k c
    .have:k=m:=()
     subst this;calc ⟨i,hi,e1,λz=>hF z.1⟩
end
open PySem.Sem (wp)
section
variable {prog:Ym} {w:Yo} {A:Yn} {Er:Yc} {s:Yl} {K:Type} [DecidableEq K] {knd:KeyKind prog w K}
def Rv (n:Nat) (h:carriedByValue v=true):ofAClassStatement n v=pure false:=by
 cases v <;> first|(cases n <;> unfold ofAClassStatement <;> rfl)|ext h
def PF (hk:IsTupleKey knd s.heap ks a) (h:Q false s):wpAny (model prog w) A (ofAClassStatement 8 (.ref a)) Q Er s:=by
 let hT:=hk.typeIs;let⟨o,items,n,ho,_,hd,hi⟩:=hk;erw[ofAClassStatement];calc AA (wpAny_typeOf hT ?_);dsimp only;calc AA ?_;calc AB ?_;simp only[Bx,AZ,Ah];calc AA (Cg ho hd ?_);dsimp only;calc AA ?_;show wpAny _ _ (forIn items _ _) _ _ s;rw[<-Array.forIn_toList];refine wpAny_forIn_list _ (λrest r s'=>r.1=none/\s'=s /\ ∀ v∈rest,carriedByValue v=true) _ ?_ ?_ _ _ ⟨rfl,rfl,hi.byValue⟩
 .rintro v rest r s' ⟨hr,rfl,hall⟩;rw[Rv _ (hall v Az)];calc AA (AB ?_);simp only[AZ,Ah];exact AB ⟨rfl,rfl,λu hu'=>hall u (Ay _ hu')⟩
 .rintro ⟨r1,r2⟩ s' ⟨hr,rfl,_⟩;simp only at hr;subst hr;calc AB h
def Tf (hk:IsTupleKey knd s.heap k a) (hv:∀ v∈vs,∃ b k',v=.ref b/\IsTupleKey knd s.heap k' b) (h:Q false s) :
  wpAny (model prog w) A (searchCouldBeSeen (.ref a) vs) Q Er s:=by
 erw[searchCouldBeSeen];calc AA ?_;refine wpAny_forIn_list _ (λrest r s'=>r.1=none/\s'=s /\ ∀ v∈rest,∃ b k',v=.ref b/\IsTupleKey knd s.heap k' b) _ ?_ ?_ _ _ ⟨rfl,rfl,hv⟩
 .rintro v rest r s' ⟨hr,rfl,hall⟩;let⟨b,k',rfl,hk'⟩:=hall v Az;let next:(∀ v∈rest,∃ b k',v=.ref b/\IsTupleKey knd s'.heap k' b):=λu hu'=>hall u (Ay _ hu')
  dsimp only;split
  .exact AB ⟨rfl,rfl,next⟩
  .refine AA (wpAny_eqIsQuiet_tuple hk ?_);simp only[Bx,AZ,Ah];calc AA (wpAny_eqIsQuiet_tuple hk' ?_);simp only[Bx,AZ,Ah];calc AA (PF hk ?_);simp only[AZ,Ah];calc AA (PF hk' ?_);simp only[AZ,Ah];exact AB ⟨rfl,rfl,next⟩
 .rintro ⟨r1,r2⟩ s' ⟨hr,rfl,_⟩;simp only at hr;subst hr;calc AB h
end
open PySem.Sem (wp)
section
variable {prog:Ym} {w:Yo} {A:Yn} {Er:Yc} {s:Yl} {K:Type} [DecidableEq K] {knd:KeyKind prog w K} {a b:Yt} {o:Obj} {es:Yw} {ep:Nat} {t:SetTable} {ks:List (List K)} {k:List K} {adding:Bool} {P:List K->Addr->Prop}
def IA (knd:KeyKind prog w K) (P:List K->Addr->Prop) (e:Int × Value) (k:List K):Prop:=∃ b,e.2=.ref b/\P k b/\e.1=tupleKeyHash knd k
structure SetT (knd:KeyKind prog w K) (P:List K->Addr->Prop) (o:Obj) (es:Yw) (ep:Nat) (t:SetTable) (ks:List (List K)):Prop where
 ex:o.ExactSet
 data:o.data=.set es ep t
 tab:PT t es.toList
 led:t.led = !w.params.followText "set-order"
 room:es.size*5<t.mask*3
 ent:∃ ks',ks'.Perm ks/\F2 (IA knd P) es.toList ks'
theorem JL {α β:Type} {R:α->β->Prop}:∀ {xs:List α} {ys:List β},F2 R xs ys -> ∀ {i:Nat} {x:α},xs[i]?=some x -> ∃ y,ys[i]?=some y/\R x y
 |_,_,.nil,i,x,h=>by ext h
 |_,_,.cons r q,0,x,h=>by ext h;calc ⟨_,rfl,r⟩
 |_,_,.cons r q,i+1,x,h=>JL q (i:=i) h
def IG {mask:Nat} (h:Msk mask):mask<=127/\mask % 2=1:=by rcases h with e|e|e <;> omega
def SetT.fits (q:SetT knd P o es ep t ks):t.fits es.size=true:=by
 let h1:t.place.size=es.size:=by simpa using q.tab.siz
 have:=q.room;erw[SetTable.fits,SetTable.fill];rw[q.tab.nod,h1];simp;omega
def Vn {Q:SetFound->Shared->Prop} (hu:A.units<cLine) (hP:∀ k b,P k b->IsTupleKey knd s.heap k b) (hk:IsTupleKey knd s.heap k b) (ho:s.heap.get? a=some o) (q:SetT knd P o es ep t ks)
  (h1:k∈ks -> ∀ u,(adding=false->u.isSome=true)->Q (.there u) s)
  (h2:k∉ks -> ∀ j,j∉t.place.toList->j<=t.mask->OnP t.mask (tupleKeyHash knd k) j (· ∈ t.place.toList)->Q (.free j false) s) :
  wpAny (model prog w) A (setSearch a (.ref b) (tupleKeyHash knd k) adding) Q Er s:=by
 let⟨ks',p,f⟩:=q.ent;let hr:=q.room;let⟨M,hM,hMf⟩:=q.tab.free (by rw[AU];omega) (tupleKeyHash knd k);let hml:=(IG q.tab.msk).1;let get:∀ i (hi:i<es.size),∃ k',ks'[i]?=some k'/\IA knd P es[i] k':=λi hi=>JL f (by simp[hi]);erw[setSearch];refine Mi (F:=λi=>decide (ks'[i]?=some k)) ho q.data q.fits q.tab hM hMf (λi hi=>?_) (λi hi eh Q' hq=>?_) (λ_ Q' hq=>?_) (λi hi u eh hF hu'=>?_) (λm hm hkm=>?_) 100000 0 none rfl (Bh _) (by erw[turns]at hM;omega) (λk hk=>absurd hk ())
 .obtain ⟨k',_,b',e,_⟩:=get i hi;exact ⟨b',e⟩
 .obtain ⟨k',e1,b',e2,e3,_⟩:=get i hi;rw[e2];calc wpAny_eqBool_tuple hu (hP _ _ e3) hk ?_;simp only[e1,Option.some.injEq]at hq;exact hq
 .refine Tf hk (λv hv=>?_) hq;let⟨e,he,rfl⟩:=Af.mp hv;let he':e∈es.toList:=by
   have:=(Array.mem_filter.mp (Array.mem_toList_iff.mp he)).1;exact Array.mem_toList_iff.mpr this
  let⟨k',_,b',e2,e3,_⟩:=IV f e he';exact ⟨b',k',e2,hP _ _ e3⟩
 .have:=By hF;exact h1 (p.mem_iff.mp (Ax this)) u hu'
 .refine h2 (λhin=>?_) _ hm (by have:=Mc t.mask (tupleKeyHash knd k) m;omega) ⟨m,rfl,λn hn=>?_⟩
  .obtain ⟨i,hi,e⟩:=Bo (p.mem_iff.mpr hin);let hl:=E8 f;let hi':i<es.size:=by rw[AU]at hl;omega
   let⟨k',e1,b',_,_,e4⟩:=get i hi';let ek:k'=k:=by
    rw[AJ hi,e]at e1;exact (BG e1).symm
   subst ek;refine q.tab.absent hm hkm (i:=i) (~~~hi') (~~~e4) ⟨BF e1,hi',e4⟩
  .obtain ⟨i,hi,e,_⟩:=hkm n hn;rw[<-e];simp
end
open PySem.Sem (wp)
section
variable {prog:Ym} {w:Yo} {A:Yn} {Er:Yc} {s:Yl} {K:Type} [DecidableEq K] {knd:KeyKind prog w K} {a b:Yt} {o:Obj} {es:Yw} {ep:Nat} {t:SetTable} {ks:List (List K)} {k:List K} {P:List K->Addr->Prop}
def S6 (n:Nat) (h:carriedByValue v=true):∃ r,hashByValue n v=pure r:=by
 cases v <;> first|(ext h;done)|exact ⟨_,by cases n <;> unfold hashByValue <;> rfl⟩
def Zk (hk:IsTupleKey knd s.heap k b) (h:∀ r,Q r s):wpAny (model prog w) A (hashByValue 8 (.ref b)) Q Er s:=by
 let hT:=hk.typeIs;let⟨o,items,n,ho,_,hd,hi⟩:=hk;erw[hashByValue];calc AA (wpAny_specialOf hT F.slot_tuple_hash.lookup ?_);show wpAny _ _ (seqItems? (.ref b) >>= _) _ _ s;calc AA (Cg ho hd ?_);calc AA ?_;show wpAny _ _ (forIn items _ _) _ _ s;rw[<-Array.forIn_toList];refine wpAny_forIn_list _ (λrest r s'=>s'=s /\ ∀ v∈rest,carriedByValue v=true) _ ?_ ?_ _ _ ⟨rfl,hi.byValue⟩
 .rintro v rest r s' ⟨rfl,hall⟩;let⟨r',e⟩:=S6 7 (hall v Az);rw[e];refine AA (AB ?_);ext r'
  .simp only[Bool.not_false,A4];exact AB (AB (h _))
  .simp only[Bx,AZ,Ah];exact AB ⟨rfl,λu hu'=>hall u (Ay _ hu')⟩
 .rintro ⟨r1,r2⟩ s' ⟨rfl,_⟩;cases r1 <;> calc AB (h _)
end
open PySem.Sem (wp)
section
variable {prog:Ym} {w:Yo} {A:Yn} {Er:Yc} {s:Yl} {K:Type} [DecidableEq K] {knd:KeyKind prog w K} {a b:Yt} {o:Obj} {es:Yw} {ep:Nat} {t:SetTable} {ks:List (List K)} {k:List K} {P:List K->Addr->Prop}
def F2.imp {α β:Type} {R R':α->β->Prop} (hr:∀ x y,R x y->R' x y):∀ {xs:List α} {ys:List β},F2 R xs ys->F2 R' xs ys
 |_,_,.nil=> .nil
 |_,_,.cons r q=> .cons (hr _ _ r) (q.imp hr)
def WV {α:Type} (xs:Array α) (p:Nat) (x:α):(insertAt xs p x).toList.Perm (xs.toList++[x]):=by
 rw[HJ];calc List.perm_middle.trans ?_;rw[Cz];calc (List.perm_append_singleton _ _).symm
def VJ (hu:A.units<cLine) (hP:∀ k b,P k b->IsTupleKey knd s.heap k b) (hk:P k b) (ho:s.heap.get? a=some o) (q:SetT knd P o es ep t ks) (hn:ks.length<60)
  (h:∀ h' o' es' ep' t' r,Heap.SameBut a s.heap h'->h'.get? a=some o'->SetT knd P o' es' ep' t' (ins ks k)->Q r { s with heap:=h' }) :
  wpAny (model prog w) A (setAddHashed a (.ref b) (tupleKeyHash knd k)) Q Er s:=by
 erw[setAddHashed,setAddHashedIn];calc Bl (AA (B4 ho q.data q.fits ?_));dsimp only;let hb:byScan (.ref b) es=false:=by simp[byScan,Value.scannable]
 rw[hb];simp only[AZ,Ah];refine AA (Vn hu hP (hP _ _ hk) ho q (λhin u _=>?_) (λhin j hj hm hon=>?_))
 .dsimp only;refine AB ?_;let e:s={ s with heap:=s.heap }:=by ext s;rfl
  rw[e];calc h s.heap o es ep t _ (Heap.SameBut.refl a s.heap) ho ?_;erw[ins];rw[AD hin];exact q
 .dsimp only;refine AA (B4 ho q.data q.fits ?_);dsimp only;let hml:=IG q.tab.msk;let hrm:=q.room;let pi:=WV es (t.put j).2 (tupleKeyHash knd k,Value.ref b);let pt:=q.tab.put (x:=.ref b) hj hm hon;generalize hes:insertAt es (t.put j).2 (tupleKeyHash knd k,Value.ref b)=es1 at *;let hsz:es1.size=es.size+1:=by
   have:=pi.length_eq;simpa using this
  let hge:7<=t.mask:=by rcases q.tab.msk with z|z|z <;> omega
  let⟨ks',p,f⟩:=q.ent;let hks:ks'.length=es.size:=by
   have:=E8 f;rw[AU]at this;omega
  let hkl:es.size<60:=by
   have:=p.length_eq;omega
  let f1:F2 (IA knd P) (es.toList++[(tupleKeyHash knd k,.ref b)]) (ks'++[k]):=JR f (.cons ⟨b,rfl,hk,rfl⟩ .nil);let⟨ks1,p1,f2⟩:=Gx pi f1;let pI:ks1.Perm (ins ks k):=by
   erw[ins];rw[AE hin];exact p1.trans (p.append_right _)
  let tail:∀ t2:SetTable,PT t2 es1.toList->t2.mask=t.mask->t2.led=t.led->wpAny (model prog w) A (do
    storeSet a es1 t2
    if (!false&&t2.tooFull)=true then do
      setRelay a (grown (es.size+1));pure true
     else pure true) Q Er s:=by
   intro t2 T2 hmk hld;let hz1:es1.size<=sizeLine:=by rw[Cd];omega
   calc AA (wpAny_storeSet_of ho q.data ?_ hz1);let g1:=Hs (es':=es1) (t':=t2) ho q.data;let sb1:=BS s.heap a (Obj.putSet es1 t2);let hp2:t2.place.size=es1.size:=by simpa using T2.siz
   let hfits:t2.fits es1.size=true:=by
    erw[SetTable.fits,SetTable.fill];rw[T2.nod,hp2,hmk];simp;omega
   let hfill:t2.fill=es1.size:=by
    erw[SetTable.fill];rw[T2.nod,hp2];rfl
   by_cases htf:t2.tooFull=true
   .simp only[htf,Bool.not_false,Bool.and_self,A4];let htf':t.mask*3<=(es.size+1)*5:=by
     erw[tooFull]at htf;rw[hfill,hmk,hsz]at htf;simpa using htf
    let⟨gm,gr⟩:=XN q.tab.msk hrm htf' hkl;let⟨t3,order,e1,e2,e3,_,e5,e6⟩:=Wk (t:=t2) (es:=es1) gm ();let hgl:=(IG gm).1;calc AA ?_;erw[setRelay];calc AA (B4 (s:={ s with heap:=_ }) g1 rfl hfits ?_);dsimp only;let hsl:¬ sizeAbove (grown (es.size+1))>sizeLine:=by rw[Cd];omega
    rw[AE hsl,e1];refine AA ?_;show wpAny _ _ (if ((order.filterMap (es1[·]?)).size != es1.size)=true then (do unsupported "internal:set-table-lost-an-element"; pure (order.filterMap (es1[·]?),t3)) else pure (order.filterMap (es1[·]?),t3)) _ _ _;generalize hes2:order.filterMap (es1[·]?)=es2 at e5 e6;let hsz2:es2.size=es1.size:=by
     have:=e5.length_eq;simpa using this
    rw[AE (by simp[hsz2])];calc AB ?_;dsimp only;calc wpAny_storeSet_of (s:={ s with heap:=_ }) g1 rfl ?_ (by rw[hsz2];calc hz1);let g2:=Hs (es':=es2) (t':=t3) g1 rfl;let sb2:=sb1.trans (BS (s.heap.update a (Obj.putSet es1 t2)) a (Obj.putSet es2 t3));let⟨ks2,p2,f3⟩:=Gx e5 f2;calc AB (h _ _ _ _ _ _ sb2 g2 ⟨q.ex,rfl,e6,e3.trans (hld.trans q.led),?_,ks2,p2.trans pI,f3⟩);rw[e2,hsz2,hsz];exact gr
   .simp only[htf,Bool.and_false,AZ,Ah];calc AB (h _ _ _ _ _ _ sb1 g1 ⟨q.ex,rfl,T2,hld.trans q.led,?_,ks1,pI,f2⟩);erw[tooFull]at htf;rw[hfill]at htf;simpa using htf
  let hmk:(t.put j).1.mask=t.mask:=rfl;split
  .refine AA (Zk (hP _ _ hk) λr=>?_);refine tail _ ?_ ?_ ?_
   .split
    .exact pt
    .exact pt.plain _
   .split <;> rfl
   .split <;> rfl
  .refine AA (AB ?_);simp only[A4];calc tail _ pt hmk rfl
def SetT.fresh:SetT knd P (zP w) #[] 0 (.fresh 0 0 (!w.params.followText "set-order")) []:=⟨⟨rfl,rfl,rfl⟩,rfl,PT.fresh,rfl,by show 0*5<7*3;decide,[],.refl _,.nil⟩
def SetT.typeIs (q:SetT knd P o es ep t ks) (ho:s.heap.get? a=some o):s.TypeIs (.ref a) "set" := ⟨o,ho,q.ex.1⟩
def T8 (hu:A.in1.units<cLine) (hP:∀ k b,P k b->IsTupleKey knd s.heap k b) (hk:P k b) (ho:s.heap.get? a=some o) (q:SetT knd P o es ep t ks) (hn:ks.length<60)
  (h:∀ h' o' es' ep' t',Heap.SameBut a s.heap h'->h'.get? a=some o'->SetT knd P o' es' ep' t' (ins ks k)->Q .none { s with heap:=h',toks:=s.toks+(k.length+1) }) :
  wpAny (model prog w) A (call (.builtin "set.add") [.ref a,.ref b]) Q Er s:=by
 calc A9 F.slot_set_add (q.typeIs ho) F.entry_set_add ?_ (F.args_set_add_2 _ _);unfold Builtin.«set.add» Builtin.Frozenset.oneOther;simp only[C6,Be];erw[Builtin.Frozenset.addrOf,setAdd];calc AA (AB ?_);try dsimp only
 calc AA (AB ?_);try dsimp only
 calc AA ?_;calc Bl ?_;calc AA (wpAny_pyHash_tuple hu (hP _ _ hk) ?_);refine VJ (s:={ s with toks:=s.toks+(k.length+1) }) hu hP hk ho q hn λh' o' es' ep' t' r hsb ho' hS'=>?_;show wpAny _ _ (ret Value.none) _ _ _;calc AB ⟨_,rfl,h h' o' es' ep' t' hsb ho' hS'⟩
def SetT.imp {P':List K->Addr->Prop} (q:SetT knd P o es ep t ks) (h:∀ k b,P k b->P' k b):SetT knd P' o es ep t ks:=by
 let⟨ks',p,f⟩:=q.ent;calc ⟨q.ex,q.data,q.tab,q.led,q.room,ks',p,f.imp λe k ⟨b,e1,e2,e3⟩=>⟨b,e1,h _ _ e2,e3⟩⟩
end
end ST
namespace SB
open ST
open PySem.Sem (wp)
structure SetB (w:Yo) (o:Obj) (es:Yw) (ep:Nat) (t:SetTable) (kn:Nat):Prop where
 ex:o.ExactSet
 data:o.data=.set es ep t
 tab:TabOk w t
 fits:t.fits es.size=true
 bound:es.size<scanBound
 size:es.size=kn
def SetB.typeIs {s:Shared} (h:SetB w o es ep t kn) (ho:s.heap.get? a=some o):s.TypeIs (.ref a) "set" := ⟨o,ho,h.ex.1⟩
section
variable {prog:Ym} {w:Yo} {A:Yn} {E:Yc} {s:Yl}
variable {o:Obj} {es:Yw} {ep:Nat} {t:SetTable} {kn:Nat} {a I:Yt}
def JG (N:Nexts prog w o a ep kn at_ ord) (hS:SetB w o es ep t kn) (hI:s.heap.get? I=some (zi (rawInt (at_ i)) i a kn ep)) (ho:s.heap.get? a=some o)
  (hx:ord[i]?=some x) (hQ:∀ h',h'.get? I=some (zi (rawInt (at_ (i+1))) (i+1) a kn ep)->Heap.SameBut I s.heap h'->Q (some x) { s with heap:=h' }):wpAny (model prog w) A (pyNext (.ref I)) Q E s:=by
 let hT:=DE hI;let hi:i<kn:=by have:=(AK.mp hx).1;rw[N.len]at this;exact this
 erw[pyNext];calc AA (Cm (B6 (name:=Str.ofString "__next__") hT zL (A9 zL hT zr ?_ (Ec _))));unfold Builtin.«set_iterator.__next__» slotArgs;simp only[C6,Bx,AZ,↓reduceIte,Bq,DK,BX,Be];calc AA (DY hI rfl ?_);dsimp only[rawInt];calc AA (DW ho hS.data hS.fits ?_);rw[AE (by rw[hS.size];simp)];calc AA (N.nx _ _ i s _ () ho ?_);rw[hx];dsimp only[Option.map];calc AA (B1 hI rfl (by simp) ?_);let e1:=B8 (Obj.mapFields λvs=>vs.set! 0 (rawInt (at_ (i+1)))) hI (DO (Bi rfl _));calc AA (B1 e1 (Bi rfl _) (by simp) ?_);let e2:=B8 (Obj.mapFields λvs=>vs.set! 1 (rawInt ((i:Int)+1))) e1 (DO (Bi (Bi rfl _) _));calc AB ⟨x,rfl,AB (hQ _ ?_ ((BS ..).trans (BS ..)))⟩;calc e2.trans ?_;simp[Obj.mapFields,zi,rawInt]
def Jp (hh:A.handled=none) (N:Nexts prog w o a ep kn at_ ord) (hS:SetB w o es ep t kn) (hI:s.heap.get? I=some (zi (rawInt (at_ kn)) kn a kn ep)) (ho:s.heap.get? a=some o)
  (hQ:∀ h',Heap.ExtBut I s.heap h'->Q none { s with heap:=h' }):wpAny (model prog w) A (pyNext (.ref I)) Q E s:=by
 let hT:=DE hI;erw[pyNext];calc AA (Cm (B6 (name:=Str.ofString "__next__") hT zL (A9 zL hT zr ?_ (Ec _))));unfold Builtin.«set_iterator.__next__» slotArgs;simp only[C6,Bx,AZ,↓reduceIte,Bq,DK,BX,Be];calc AA (DY hI rfl ?_);dsimp only[rawInt];calc AA (DW ho hS.data hS.fits ?_);rw[AE (by rw[hS.size];simp)];calc AA (N.nx _ _ kn s _ (AF _) ho ?_);rw[DA (by rw[N.len];calc AF _)];dsimp only[Option.map];calc AA (B1 hI rfl (by simp) ?_);simp only[newExc,newTuple,Be,BX];calc AA (Aw (AA (m:=firstArgMember _ _) (wpAny_of_eq (a:=Value.none) (by first|rfl|(simp only[firstArgMember];rfl)) (AA (Aw ?_ (by size_fits))))) (by size_fits));simp only[raiseNew];calc AA (wpAny_handled ?_);rw[show A.in1.handled=none from hh];calc AA (AB (wpAny_throw ?_));calc AA (wpAny_isInstance (T := "StopIteration") (b:=true) ⟨_,AN _ rfl,rfl⟩ isSubtype_stop (AB ?_));calc hQ _ (((BS ..).extBut.push _).push _)
def KD (hh:A.handled=none) (hne:a≠I) (N:Nexts prog w o a ep kn at_ ord) (hS:SetB w o es ep t kn) :
  Walks prog w A I [I,a] [I] kn (λi v=>ord[i]?=some v) (λi h=>h.get? I=some (zi (rawInt (at_ i)) i a kn ep)/\h.get? a=some o) where
 sub:=λb hb=>by simp at hb;simp[hb]
 frame:=λ_ _ _ st hk=>⟨hk I (by simp) _ st.1,hk a (by simp) _ st.2⟩;item:=λi s Q E hi st hQ=>by
  let hx:ord[i]?=some (ord[i]'(by rw[N.len];calc hi)):=AJ _;refine JG N hS st.1 st.2 hx λh' hI' hs'=>?_;exact hQ _ h' s.toks hx ⟨hI',hs'.extBut a o hne st.2⟩ λb u hb ee=>hs'.extBut b u (λh=>hb (by simp[h])) ee
 done:=λs Q E st hQ=>Jp hh N hS st.1 st.2 λh' he'=>hQ h' s.toks λb u hb ee=>he' b u (λh=>hb (by simp[h])) ee;self:=λ_ _ _ _ st hQ=>Ia st.1 hQ
def Jl {pl:Yj} (hS:SetB w o es ep t kn) (hl:pl.length=kn) (hI:s.heap.get? I=some (zi (.ref T) i a kn ep)) (ho:s.heap.get? a=some o)
  (hT:IsTup s.heap T (pl.map λ(k:Nat)=>rawInt k).toArray)
  (hx:(pl[i]?).bind (λk=>(es[k]?).map (·.2))=some x) (hQ:∀ h',h'.get? I=some (zi (.ref T) (i+1) a kn ep)->Heap.SameBut I s.heap h'->Q (some x) { s with heap:=h' }):wpAny (model prog w) A (pyNext (.ref I)) Q E s:=by
 let hTy:=DE hI;let⟨oT,hoT,hcT,nT,hdT⟩:=id hT;cases hp:pl[i]? with
 |none=>rw[hp]at hx;ext hx
 |some k=>
  rw[hp]at hx;cases he:es[k]? with
  |none=>simp only[Option.bind_some]at hx;rw[he]at hx;ext hx
  |some e=>
   simp only[Option.bind_some]at hx;rw[he]at hx;ext hx;erw[pyNext];calc AA (Cm (B6 (name:=Str.ofString "__next__") hTy zL (A9 zL hTy zr ?_ (Ec _))));unfold Builtin.«set_iterator.__next__» slotArgs;simp only[C6,Bx,AZ,↓reduceIte,Bq,DK,BX,Be];calc AA (DY hI rfl ?_);dsimp only[rawInt];calc AA (DW ho hS.data hS.fits ?_);rw[AE (by rw[hS.size];simp)];calc AA (Cg hoT hdT ?_);dsimp only;let e5:(List.map (λ(k:Nat)=>rawInt k) pl).toArray[(i:Int).toNat]?=some (rawInt k):=by simp[hp]
   rw[e5];dsimp only[rawInt];erw[setNextDrawn];simp only[Be];calc AA (B4 ho hS.data hS.fits ?_);dsimp only;rw[AE (by simp)];let e6:es[(k:Int).toNat]?=some e:=by simpa using he
   rw[e6];let⟨e1,e2⟩:=e;dsimp only;simp only[BX];calc AA (B1 hI rfl (by simp) ?_);calc AB ⟨e2,rfl,AB (hQ _ ?_ (BS ..))⟩;calc (B8 _ hI (DO (Bi rfl _))).trans ?_;simp[Obj.mapFields,zi,rawInt]
def LQ {pl:Yj} (hh:A.handled=none) (hS:SetB w o es ep t kn) (hl:pl.length=kn) (hI:s.heap.get? I=some (zi (.ref T) kn a kn ep)) (ho:s.heap.get? a=some o)
  (hT:IsTup s.heap T (pl.map λ(k:Nat)=>rawInt k).toArray) (hQ:∀ h',Heap.ExtBut I s.heap h'->Q none { s with heap:=h' }):wpAny (model prog w) A (pyNext (.ref I)) Q E s:=by
 let hTy:=DE hI;let⟨oT,hoT,hcT,nT,hdT⟩:=id hT;erw[pyNext];calc AA (Cm (B6 (name:=Str.ofString "__next__") hTy zL (A9 zL hTy zr ?_ (Ec _))));unfold Builtin.«set_iterator.__next__» slotArgs;simp only[C6,Bx,AZ,↓reduceIte,Bq,DK,BX,Be];calc AA (DY hI rfl ?_);dsimp only[rawInt];calc AA (DW ho hS.data hS.fits ?_);rw[AE (by rw[hS.size];simp)];calc AA (Cg hoT hdT ?_);dsimp only;let e5:(List.map (λ(k:Nat)=>rawInt k) pl).toArray[(kn:Int).toNat]?=none:=by simp[hl]
 rw[e5];dsimp only[rawInt];calc AA (B1 hI rfl (by simp) ?_);let e1:=B8 (Obj.mapFields λvs=>vs.set! 0 (rawInt 0)) hI (DO (Bi rfl _));calc AA (B1 e1 (Bi rfl _) (by simp) ?_);simp only[newExc,newTuple,Be,BX];calc AA (Aw (AA (m:=firstArgMember _ _) (wpAny_of_eq (a:=Value.none) (by first|rfl|(simp only[firstArgMember];rfl)) (AA (Aw ?_ (by size_fits))))) (by size_fits));simp only[raiseNew];calc AA (wpAny_handled ?_);rw[show A.in1.handled=none from hh];calc AA (AB (wpAny_throw ?_));calc AA (wpAny_isInstance (T := "StopIteration") (b:=true) ⟨_,AN _ rfl,rfl⟩ isSubtype_stop (AB ?_));calc hQ _ ((((BS ..).trans (BS ..)).extBut.push _).push _)
def KZ {pl:Yj} (hh:A.handled=none) (hne:a≠I) (hneT:T≠I) (hS:SetB w o es ep t kn) (hl:pl.length=kn) (hb:∀ k∈pl,k<es.size) :
  Walks prog w A I [I,a,T] [I] kn (λi v=>(pl[i]?).bind (λk=>(es[k]?).map (·.2))=some v) (λi h=>h.get? I=some (zi (.ref T) i a kn ep)/\h.get? a=some o/\IsTup h T (pl.map λ(k:Nat)=>rawInt k).toArray) where
 sub:=λb hb=>by simp at hb;simp[hb]
 frame:=λ_ _ _ st hk=>⟨hk I (by simp) _ st.1,hk a (by simp) _ st.2.1,let ⟨oT,ho,r⟩:=st.2.2;⟨oT,hk T (by simp) oT ho,r⟩⟩;item:=λi s Q E hi st hQ=>by
  let hi':i<pl.length:=by rw[hl];exact hi
  let hk:pl[i]<es.size:=hb _ (Au hi');let hx:(pl[i]?).bind (λk=>(es[k]?).map (·.2))=some (es[pl[i]].2):=by
   rw[AJ hi'];simp[hk]
  refine Jl hS hl st.1 st.2.1 st.2.2 hx λh' hI' hs'=>?_;exact hQ _ h' s.toks hx ⟨hI',hs'.extBut a o hne st.2.1,st.2.2.extBut hs'.extBut hneT⟩ λb u hb ee=>hs'.extBut b u (λh=>hb (by simp[h])) ee
 done:=λs Q E st hQ=>LQ hh hS hl st.1 st.2.1 st.2.2 λh' he'=>hQ h' s.toks λb u hb ee=>he' b u (λh=>hb (by simp[h])) ee;self:=λ_ _ _ _ st hQ=>Ia st.1 hQ
def Kp (hS:SetB w o es ep t kn) (hT:w.params.followText "set-order" = true):Nexts prog w o a ep kn (λ_=>0) ((pickOrder (w.params.setOrder a ep) es).toList.map (·.2)) where
 len:=by rw[AI,(Hq _ es).length_eq,AU,hS.size]
 nx:=λA E i s Q hi ho hQ=>by
  erw[setNext];refine AA (B4 ho hS.data hS.fits ?_);dsimp only;refine AA (Ei ?_);rw[hT,AD rfl,AE (by simp)];refine AA ?_;erw[setWalk];refine AA (B4 ho hS.data hS.fits ?_);dsimp only;refine AA (Ei ?_);rw[hT,AD rfl];refine AA (wpAny_askSetting (AB ?_));refine AB ?_;let e:(Option.map (λ(e:Int × Value)=>(e.2,0)) (pickOrder (w.params.setOrder a ep) es)[i]?)=Option.map (λx=>(x,0)) ((pickOrder (w.params.setOrder a ep) es).toList.map (·.2))[i]?:=by
   rw[AQ,Am];cases (pickOrder (w.params.setOrder a ep) es)[i]? <;> rfl
  show Q (Option.map (λ(e:Int × Value)=>(e.2,0)) (pickOrder (w.params.setOrder a ep) es)[i]?) s;rw[e];calc hQ
def J6 (hS:SetB w o es ep t kn):t.place.size=es.size:=by
 have:=hS.fits;simp only[SetTable.fits,A8,beq_iff_eq]at this;calc this.1
def LF (hS:SetB w o es ep t kn) (hT:w.params.followText "set-order" = false) (hd:(!t.plain&&decide (es.size>1))=false):Nexts prog w o a ep kn (Gp t) (es.toList.map (·.2)) where
 len:=by rw[AI,AU,hS.size]
 nx:=λA E i s Q hi ho hQ=>by
  let hz:=J6 hS;erw[setNext];calc AA (B4 ho hS.data hS.fits ?_);dsimp only;calc AA (Ei ?_);rw[hT,AE ()];show wpAny _ _ (if (!t.plain&&decide (es.size>1))=true then _ else _) _ _ _;rw[AE (by rw[hd];decide)];let hl:t.led=true:=by rw[hS.tab.led,hT];rfl
  calc AA ?_;show wpAny _ _ (if (!t.led && !es.isEmpty)=true then unsupported "set:maker-not-led" else pure Unit.unit) _ _ _;rw[AE (by rw[hl];simp)];calc AB ?_;rw[Nb hS.tab.up (by rw[hz,hS.size];calc hi)];calc AB ?_;rw[AQ,Am]at hQ;by_cases q:i<es.size
  .have q2:i<t.place.size:=by rw[hz];exact q
   rw[BQ q,BQ q2];rw[BQ q]at hQ;let e:Gp t (i+1)=t.place[i]+1:=by
    show t.place.getD i 0+1=_;simp[Array.getD,q2]
   simp only[Option.map]at hQ;rw[e]at hQ;exact hQ
  .have:i=es.size:=by rw[hS.size]at q ⊢;omega
   rw[FR ()]at hQ ⊢;calc hQ
def JN (ho:s.heap.get? a=some o) (hS:SetB w o es ep t kn)
  (h:∀ (h':Heap) (d:Drawn) (I:Yt) (fp:Yg) (ord:Yf) (St:Nat->Heap->Prop),(∀ b u,s.heap.get? b=some u->h'.get? b=some u)->⇑s<=I->(∀ b∈fp,b<h'.objs.size/\(b=a\/⇑s<=b)) ->
   (∀ A:Around,A.handled=none->Walks prog w A I fp [I] kn (λi v=>ord[i]?=some v) St)->St 0 h'->ord.Perm (es.toList.map (·.2))->Q (.ref I) { s with heap:=h',drawn:=d }) :
  wpAny (model prog w) A (pyIter (.ref a)) Q E s:=by
 let hT:=hS.typeIs ho;let hal:a<⇑s:=AG ho;refine wpAny_pyIter_slot hT F.slot_set_iter (A9 F.slot_set_iter hT NM ?_ (F.args_set_iter_1 _));unfold Builtin.«frozenset.__iter__» Builtin.Frozenset.slot0 slotArgs Builtin.Frozenset.addrOf Builtin.Frozenset.sizeOf;simp only[C6,Bx,AZ,↓reduceIte,Bq,DK,BX,Be];refine AA (DW ho hS.data hS.fits ?_);erw[setDrawn];simp only[Be];refine AA (B4 ho hS.data hS.fits ?_);dsimp only;refine AA (Ei ?_);simp only[BX];let hsz:=hS.size;let plain:∀ (at_:Nat->Nat) (ord:Yf),at_ 0=0->Nexts prog w o a ep kn at_ ord->ord.Perm (es.toList.map (·.2))->Q (.ref ⇑s) { s with heap:=s.heap.push (zi (rawInt 0) 0 a kn ep) }:=by
  intro at_ ord h0 N hp;let e:s.heap.push (zi (rawInt 0) 0 a kn ep)=s.heap.push (zi (rawInt 0) 0 a kn ep):=rfl
  have:=h (s.heap.push (zi (rawInt 0) 0 a kn ep)) s.drawn ⇑s [⇑s,a] ord (λi h=>h.get? ⇑s=some (zi (rawInt (at_ i)) i a kn ep)/\h.get? a=some o)
   (λb u e=>AH _ e) (AF _) (λb hb=>by
    rw[BR];rcases AL.mp hb with z|z
    .rw[z];exact ⟨CL _,.inr (AF _)⟩
    .rw[AW.mp z];calc ⟨Ce hal,.inl rfl⟩)
   (λA hh=>KD hh (AY hal) N hS) ⟨by rw[h0];calc AN _ rfl,AH _ ho⟩ hp
  exact this
 let mk:∀ (s1:Yl) (f:Yu) (hv:s1.heap.get? a=some o) {Q':Fin->Shared->Prop},Q' (.done (.ret (.ref ⇑s1))) { s1 with heap:=s1.heap.push (zi f 0 a kn ep) }->wpAny (model prog w) A.in1 (do
   let e <- setEpoch a;let r <- newFields "set_iterator" [f,rawInt 0,Value.ref a,rawInt es.size,rawInt e];ret r) Q' E s1:=by
  intro s1 f hv Q' hq;calc AA (wpAny_setEpoch_of hv hS.data hS.fits ?_);erw[newFields];calc AA (Aw (AB ?_));rw[hsz];exact hq
 let ty:∀ (s1:Shared) (f:Value),(∃ T' r,Shared.TypeIs { s1 with heap:=s1.heap.push (zi f 0 a kn ep) } (.ref ⇑s1) T'/\typeLookup (Value.type T') (Str.ofString "__next__")=pure (some r)/\True):=λs1 f=>⟨"set_iterator", _,⟨_,AN _ rfl,rfl⟩,zL.lookup,trivial⟩;show wpAny _ _ (if (!w.params.followText "set-order" && (!t.plain&&decide (es.size>1)))=true then _ else _) _ _ _;by_cases hc:(!w.params.followText "set-order" && (!t.plain&&decide (es.size>1)))=true
 .rw[AD hc];refine AA (Kt _ _ (by simp) λpl d hp=>?_);refine AA ?_;erw[newTuple];let hpl:pl.length=kn:=by rw[hp.length_eq,Di,hsz]
  refine Aw ?_ (by
   show (List.map (λ(i:Nat)=>rawInt i) pl).toArray.size<=sizeLine;rw[AS,AI,hpl,<-hsz];calc fits_of_scanBound hS.bound)
  generalize hH:s.heap.push { cls:=.type "tuple", data:=.seq (List.map (λ(i:Nat)=>rawInt i) pl).toArray }=H;let kH:∀ b u,s.heap.get? b=some u->H.get? b=some u:=λb u e=>by rw[<-hH];exact AH _ e
  let hT1:IsTup H ⇑s (pl.map λ(k:Nat)=>rawInt k).toArray:=⟨_,by rw[<-hH];calc AN _ rfl,rfl,0,rfl⟩;let szH:H.objs.size=⇑s+1:=by rw[<-hH];exact BR ..
  let szlt:⇑s<H.objs.size:=by rw[szH];exact CL _
  let alt:a<H.objs.size:=Nat.lt_trans hal szlt;calc mk { s with heap:=H,drawn:=d } (.ref ⇑s) (kH _ _ ho) ?_;let⟨T',r,e1,e2,_⟩:=ty { s with heap:=H,drawn:=d } (.ref ⇑s);calc ⟨_,rfl,T',r,e1,e2,?_⟩;let kH2:∀ b u,s.heap.get? b=some u->(H.push (zi (.ref ⇑s) 0 a kn ep)).get? b=some u:=λb u e=>AH _ (kH b u e);refine h _ d H.objs.size [H.objs.size,a,⇑s] (pl.map λk=>((es[k]?).map (·.2)).getD .none) (λi h=>h.get? H.objs.size=some (zi (.ref ⇑s) i a kn ep)/\h.get? a=some o/\IsTup h ⇑s (pl.map λ(k:Nat)=>rawInt k).toArray) kH2 (by rw[szH];calc Cq _) (λb hb=>?_) (λA hh=>?_) ⟨AN _ rfl,kH2 a o ho,?_⟩ ?_
  .rw[BR];simp only[AL,Cj,or_false]at hb;rcases hb with z|z|z
   .rw[z];exact ⟨CL _,.inr (CH szlt)⟩
   .rw[z];exact ⟨Ce alt,.inl rfl⟩
   .rw[z];exact ⟨Ce szlt,.inr (AF _)⟩
  .have hb:∀ k∈pl,k<es.size:=λk hk=>by have:=hp.mem_iff.mp hk;simpa using this
   refine Mq (KZ hh (a:=a) (I:=H.objs.size) (T:=⇑s) (AY alt) (AY szlt) hS hpl hb) λi v hv=>?_;rw[AQ];cases q:pl[i]? with
   |none=>rw[q]at hv;ext hv
   |some k=>
    rw[q]at hv;simp only[Option.bind_some]at hv;rw[Option.map_some,hv];rfl
  .exact hT1.push _
  .have e:es.toList.map (·.2)=(List.range es.size).map λk=>((es[k]?).map (·.2)).getD .none:=by
    apply Dm;intro i;rw[AQ,AQ,Am];by_cases q:i<es.size
    .rw[Eu q,BQ q];simp[q]
    .rw[FR (),DA (by simp;omega)];rfl
   rw[e];exact hp.map _
 .rw[AE hc];calc mk s (rawInt 0) ho ?_;let⟨T',r,e1,e2,_⟩:=ty s (rawInt 0);calc ⟨_,rfl,T',r,e1,e2,?_⟩;cases hX:w.params.followText "set-order" with
  |true=>calc plain _ _ rfl (Kp hS hX) ((Hq _ es).map _)
  |false=>
   rw[hX]at hc;calc plain _ _ rfl (LF hS hX (~~~hc)) (.refl _)
def collect_set (hh:A.handled=none) (ho:s.heap.get? a=some o) (hS:SetB w o es ep t kn)
  (hQ:∀ (s':Yl) (acc:Yf),(∀ b u,s.heap.get? b=some u->s'.heap.get? b=some u)->s'.os=s.os->s'.gens=s.gens->acc.Perm (es.toList.map (·.2))->Q acc s'):wpAny (model prog w) A (collect (.ref a)) Q E s:=by
 let hal:a<⇑s:=AG ho;let hn:kn<=sizeLine:=by rw[<-hS.size];exact fits_of_scanBound hS.bound
 erw[collect];calc AA (wpAny_runValue (C2 F.entry_proto_collect ?_));rw[D9 F.plain_proto_collect _];show wpAny _ A.in1 (newList [] >>= λl=>again (.builtin "list.__iadd__" ⟨[l,.ref a],[]⟩)) _ _ s;calc AA (Aw (AB ⟨plainId_quiet F.plain_list_iadd _,C2 F.entry_list_iadd ?_⟩));rw[D9 F.plain_list_iadd _];generalize hH:s.heap.push { cls:=.type "list", data:=.seq ([]:List Value).toArray }=H;let kH:∀ b u,s.heap.get? b=some u->H.get? b=some u:=λb u e=>by rw[<-hH];exact AH _ e
 let szH:H.objs.size=⇑s+1:=by rw[<-hH];exact BR ..
 let hL1:H.get? ⇑s=some { cls:=.type "list", data:=.seq ([]:List Value).toArray }:=by rw[<-hH];exact AN _ rfl
 let ho1:=kH a o ho;show wpAny _ A.in1 (Builtin.List.listExtendWith (.ref ⇑s) (.ref a) (.ref ⇑s)) _ _ { s with heap:=H };erw[Builtin.List.listExtendWith];let hT1:Shared.TypeIs { s with heap:=H } (.ref a) "set" := ⟨o,ho1,hS.ex.1⟩;calc AA (wpAny_typeOf hT1 ?_);let hneL:⇑s≠a:=DM hal;let h1:Builtin.List.listSameRef (.ref ⇑s) (.ref a)=false:=by simp[Builtin.List.listSameRef,hneL]
 let h2:(Value.type "set" == Value.type "list")=false:=()
 let h3:(Value.type "set" == Value.type "tuple")=false:=()
 simp only[h1,h2,h3,Bool.or_false,AZ,Ah];refine AA (JN (s:={ s with heap:=H }) ho1 hS λh2 d I fp ord St k2 hI2 hfp W st0 hp=>?_);let ho2:=k2 a o ho1;refine AA (Bl (PR (s:={ s with heap:=h2,drawn:=d }) ⟨o,ho2,hS.ex.1⟩ ?_));rw[AD (by decide+kernel)];refine AA (Bc (AA ?_));show wpAny _ A.in1 (updateSeq ⇑s (·.push .none) >>= λ_=>updateSeq ⇑s (·.pop)) _ _ _;let hL2:=k2 _ _ hL1;refine AA (wpAny_updateSeq (s:={ s with heap:=h2,drawn:=d }) hL2 rfl ?_);let hS2:=B8 (Obj.mapSeq (·.push Value.none)) hL2 rfl;refine wpAny_updateSeq hS2 rfl ?_;let hS3:=B8 (Obj.mapSeq (·.pop)) hS2 rfl;generalize hH3:(h2.update ⇑s (Obj.mapSeq (·.push Value.none))).update ⇑s (Obj.mapSeq (·.pop))=H3 at hS3;let oth:∀ b u,b≠⇑s->h2.get? b=some u->H3.get? b=some u:=λb u hb e=>by
  rw[<-hH3];exact (CG _ _ (Ne.symm hb)).trans ((CG _ _ (Ne.symm hb)).trans e)
 let hSf:⇑s∉fp:=λhm=>by
  rcases (hfp _ hm).2 with z|z
  .exact hneL z
  .have z':H.objs.size<=⇑s:=z;rw[szH]at z';exact absurd z' (Nat.not_succ_le_self _)
 let WS:=(W A.in1.in1 hh).toS;let st3:St 0 H3:=(W A.in1.in1 hh).frame 0 _ _ st0 λb hb u e=>oth b u (λz=>hSf (z▸hb)) e;let hI3:I≠⇑s:=λz=>by
  let z':H.objs.size<=I:=hI2;rw[szH,z]at z';exact absurd z' (Nat.not_succ_le_self _)
 refine AB ⟨plainId_quiet F.plain_extend_loop _,codeAny_extend_loopS (A:=A) (WalksS.of_in1 WS) hn _ hSf _ kn 0 { s with heap:=H3,drawn:=d } _ _ rfl (Bh _) st3 hS3 (ItemsOf.nil _) λs' acc' c' hm hS' hacc=>?_⟩;show wpAny _ A (load ⇑s >>= _) _ _ s';refine AA (wpAny_load hS' (AB (hQ s' _ (λb u e=>hm.heap b u (λq=>?_) (oth b u (λz=>A7 _ (z▸AG e)) (k2 b u (kH b u e)))) hm.os hm.gens ?_)))
 .rcases AL.mp q with z|z
  .exact A7 _ (z▸AG e)
  .have z':H.objs.size<=I:=hI2;rw[<-AW.mp z,szH]at z';exact A7 _ (Nat.lt_trans (Ao (CL _) z') (AG e))
 .have e:acc'.toList=ord:=by
   let hl:ord.length=kn:=by rw[hp.length_eq,AI,AU,hS.size]
   apply Dm;intro i;rw[Am];by_cases q:i<kn
   .have q':i<acc'.size:=by rw[hacc.1];exact q
    rw[BQ q'];exact (hacc.2 i _ (BQ q')).symm
   .rw[FR (by rw[hacc.1];omega),DA ()]
  rw[e];calc hp
end
end SB
namespace ST
open PySem PySem.SetTable
def SetT.base {prog:Ym} {w:Yo} {K:Type} [DecidableEq K] {knd:KeyKind prog w K} {o:Obj} {es:Yw} {ep:Nat} {t:SetTable} {ks:List (List K)} {P:List K->Addr->Prop} (q:SetT knd P o es ep t ks):SB.SetB w o es ep t ks.length:=by
 let⟨ks',p,f⟩:=q.ent;refine ⟨q.ex,q.data,⟨q.led,q.tab.up,q.tab.nod⟩,q.fits,?_,?_⟩
 .have h1:=q.room;let h2:=(IG q.tab.msk).1;let h3:scanBound=4096:=rfl;omega
 .rw[<-p.length_eq,<-E8 f,AU]
end ST
namespace L2
open ST
abbrev TPk (H:Hp):List Key->Addr->Prop:=λk b=>H b=some (.tup (k.map kV))
section
variable {X:Cx} {zB:Yd} {Y:St} {H:Hp} {s:Yl} {scope:Y0} {cl:Yv} {fp:Yg} {it:Yt} {tn:Nat->Heap->Prop} {J:It} {tg elt iter:Expr} {ifs:Yi} {pos:Pos}
 {own:Yj} {g:TG} {tc:TT} {te:TE} {E:Yc}
def WM (h:SetT (ze prog w) P o es ep t ks):∀ v,o.data≠.cell v:=λv z=>by rw[h.data]at z;ext z
def Ux (C:CompIn X scope own) (hcalm:X.calm=true) (hu:X.A.units+1<cLine) (I:Inv X zB Y H s) (T:Turn X.prog X.w X.K tg J fp it tn) (st:tn 0 s.heap) (hf:∀ b∈fp,Br X zB H b)
  (c1:∀ x c,cl.lookup x=some c->X.env.cells.lookup x=some c) (c2:∀ y∈scope.names,y.2=.free->(cl.lookup y.1).isSome=true)
  (hg:PG (zd X zB scope cl s H fp) tg g) (hi:Fx (zd X zB scope cl s H fp) ifs tc) (he:PE (zd X zB scope cl s H fp) elt te)
  {RR:Value->Addr->Result->Shared->Prop} {QQ:List (List Key)->Hp->Prop} {W:Nat->Nat->List (List Key)->Hp->Prop} {m0:Nat} (w0:W 0 m0 [] H)
  (turn:∀ i m ys H,W i m ys H->(J.stop i H/\QQ ys H) \/
   (J.go i H /\ ∀ x H',J.yld i H x H'->g x (clr own Y) H' λσ2 H2=>Ext (clr own Y) σ2/\tc σ2 H2 λb H3=>
    if b=true then te σ2 H3 λv H4=>∃ k p,v=.ref p/\TPk H4 k p/\ys.length<60/\(∀ k b,TPk H k b->TPk H4 k b) /\ ∃ m',m'<m/\W (i+1) m' (ins ys k) H4 else (∀ k b,TPk H k b->TPk H3 k b) /\ ∃ m',m'<m/\W (i+1) m' ys H3))
  (fin:∀ σc H' s' o es ep t ys,Inv (zd X zB scope cl s H fp) [(⇑s,o)] σc H' s'->SetT (ze X.prog X.w) (TPk H') o es ep t ys->QQ ys H'->RR (.ref ⇑s) (⇑s+1) (.ok .next) s') :
  wpAny (model X.prog X.w) X.A (newSet (.type "set")) (λacc s₃=>wpAny (model X.prog X.w) X.A (newFunctionEnv scope X.env.globals cl [] X.env.qual none .none (some X.env)) (λcenv s₄=>
   codeAny (model X.prog X.w) X.A (.compStart (.SetComp elt [⟨tg,iter,ifs,0⟩] scope pos) 0 (.ref it) acc { cenv with scope:=relabel scope X.env }) (RR acc cenv.locals) s₄) E s₃) E s:=by
 let ob:∀ b:Nat,b∈fp->b<⇑s:=λb hb=>let ⟨_,e,_⟩:=T.obj 0 _ st b hb;AG e;refine ZW (NJ ?_);let sz1:(s.heap.push (zP X.w)).objs.size=⇑s+1:=BR ..;let I4:=MK (X:=X) (zB:=zB) (Y:=Y) (σc:=clr own Y) (H:=H) (s:=s) (scope:=scope) (cl:=cl) (fp:=fp) C.sc I hf ob c1 c2 (KI own Y) (λi x v h1 h2 h3=>by
  let⟨a,b⟩:=Hv own Y i v h2;rcases C.nm i x h1 with z|z|z
  .exact absurd z b
  .exact absurd (NQ x z) h3
  .exact ⟨z,a⟩) (zP X.w) (by intro v z;ext z) rfl rfl
 let st4:tn 0 (pushCells ((s.heap.push (zP X.w)).push { cls:=.type "dict", data:=.dict #[] }) scope.names):=T.keep 0 _ _ st λb _ o e=>pushCells_keeps _ _ b o (AH _ (AH _ e));dsimp only;erw[newEnv];dsimp only;rw[sz1];let hDfp:⇑s∉fp:=λz=>A7 _ (ob _ z);let hcD:∀ x c,(zd X zB scope cl s H fp).env.cells.lookup x=some c->c≠⇑s:=λx c e z=>by
  let⟨v,o,ho,hd⟩:=I4.cell x c e;let⟨q,_⟩:=I4.pin (⇑s,zP X.w) (by simp);rw[z,q]at ho;ext ho;ext hd
 let fpk:∀ {H':Hp} {pl:Yd},(∀ b∈fp,H' b=none)->(∀ p∈pl,p.1=⇑s) -> ∀ b∈fp,Br (zd X zB scope cl s H fp) pl H' b:=λ{H' pl} hn hp b hb=>
  ⟨hn b hb,(I4.ok.exf b hb).1,I4.ok.exfs b hb,.inl hb,(I4.ok.exf b hb).2,λp hq=>by
   rcases Ab.mp hq with z|z
   .exact (hf b hb).2.2.2.2.2 p z
   .intro e;let e2:=hp p z;rw[e]at e2;calc hDfp (e2▸hb)⟩
 let loop:codeAny (model X.prog X.w) X.A (.compLoop (.SetComp elt [⟨tg,iter,ifs,0⟩] scope pos) 0 (.ref it) (.ref ⇑s) (zd X zB scope cl s H fp).env) (RR (.ref ⇑s) (⇑s+1))
   { s with heap:=pushCells ((s.heap.push (zP X.w)).push { cls:=.type "dict", data:=.dict #[] }) scope.names }:=by
  refine Uy (λn s'=>∃ i H' ys o es ep t,Inv (zd X zB scope cl s H fp) [(⇑s,o)] (clr own Y) H' s'/\SetT (ze X.prog X.w) (TPk H') o es ep t ys/\tn i s'.heap/\(∀ b∈fp,H' b=none)/\W i n ys H') ?_ m0
   ⟨0,H,[],zP X.w,_,_,_,I4,.fresh,st4,λb hb=>(hf b hb).1,w0⟩
  rintro n s5 ⟨i,H5,ys,o,es,ep,t,I5,r5,st5,f5,w5⟩;let pinD:∀ p∈[(⇑s,o)],p.1=⇑s:=λp hp=>by
   have:p=(⇑s,o):=by simpa using hp
   rw[this]
  rcases turn i n ys H5 w5 with ⟨stop,qq⟩|⟨go,step⟩
  .refine thn (T.done (zd X zB scope cl s H fp) rfl rfl rfl hcalm i _ s5 _ H5 _ I5 (fpk f5 pinD) st5 stop) λr s6 ⟨hr,I6⟩=>?_;subst hr;exact fin _ H5 s6 o es ep t ys I6 r5 qq
  .refine thn (T.item (zd X zB scope cl s H fp) rfl rfl rfl hcalm i _ s5 _ H5 _ I5 (fpk f5 pinD) st5 go) λr s6 ⟨u,hr,h6⟩=>?_;subst hr;refine thn h6 λ_ s7 ⟨x,H7,I7,r7,y7,st7,f7⟩=>?_;let I7':=I7.pinned (fpk f7 pinD) (T.obj _ _ st7);refine thn (hg _ s7 _ H7 x u _ I7' r7 (step x H7 y7)) λ_ s8 ⟨σ8,H8,I8,x8,q8⟩=>?_;refine thn (hi _ s8 σ8 H8 _ I8 q8) λok s9 ⟨H9,I9,q9⟩=>?_;let back:∀ {s':Yl} {Hx:Hp},Inv (zd X zB scope cl s H fp) ([(⇑s,o)]++GP fp s7.heap) σ8 Hx s'->tn (i+1) s'.heap /\ ∀ b∈fp,Hx b=none:=λ{s' Hx} Ix=>
    ⟨T.keep _ _ _ st7 λb hb o e=>(Ix.pin (b,o) (Bb _ (Bb _ (F8 hb e)))).1,λb hb=>by
     let⟨o,e,d⟩:=T.obj _ _ st7 b hb;calc (Ix.pin (b,o) (Bb _ (Bb _ (F8 hb e)))).2.1⟩
   cases ok with
   |false=>
    let⟨hts,m',hm,w'⟩:=q9;let⟨b1,b2⟩:=back I9;calc ⟨m',hm,i+1,H9,ys,o,es,ep,t,(I9.weak (by rw[x8.1]) x8.2).unpinned,r5.imp hts,b1,b2,w'⟩
   |true=>
    refine thn (he _ s9 σ8 H9 _ I9 q9) λv s10 ⟨y,H10,I10,r10,k,p,hk,hp10,hlt,hts,m',hm,w'⟩=>?_;subst hk;let⟨b1,b2⟩:=back I10;let J10:=(I10.weak (by rw[x8.1]) x8.2).unpinned;let⟨e10,n10,ne10,nf10,d10⟩:=J10.pin (⇑s,o) (by simp);let hv:v=.ref p:=r10;subst hv;refine T8 (knd:=ze X.prog X.w) (P:=TPk H10) (tupleKind_room_in1 (knd:=ze X.prog X.w) hu) (λk b e=>HS J10.hok e) hp10 e10 (r5.imp hts) hlt λh' o' es' ep' t' hs' e' S'=>?_;refine ⟨m',hm,i+1,H10,ins ys k,o',es',ep',t',?_,S',T.keep _ _ _ b1 λb hb o e=>hs'.extBut b o (λz=>hDfp (z▸hb)) e,b2,w'⟩;refine (Inv.repin (pl:=[]) J10 (λp hp=>?_) hs' (AF _) hcD e' (WM S')).tok _;rw[C1]at hp;let hp':p∈X.pn++zB:=hp;exact AY (AG (I.pin p hp').1)
 calc Y7 loop (T.self _ 0 _ _ _ st4 loop)
end
abbrev TZT:=St->Hp->(List (List Key)->Hp->Prop)->Prop
def PZT (X:Cx) (e:Expr) (t:TZT):Prop:=∀ (zB:Yd) (s:Yl) (Y:St) (H:Hp) (Q:List (List Key)->Hp->Prop),Inv X zB Y H s->t Y H Q ->
 wpAny (model X.prog X.w) X.A (eval e X.env) (λv s'=>∃ a o es ep tb ks H',v=.ref a/\s'.heap.get? a=some o/\SetT (ze X.prog X.w) (TPk H') o es ep tb ks/\Inv X zB Y H' s'/\Q ks H') X.xe s
def Om (own:Yj) (wi:TI) (g:TG) (tc:TT) (te:TE):TZT:=λY H Q=>wi Y H λJ H1=>∃ W:Nat->Nat->List (List Key)->Hp->Prop,(∃ m,W 0 m [] H1) /\ ∀ i m ys H,W i m ys H ->
 (J.stop i H/\Q ys H) \/
 (J.go i H /\ ∀ x H',J.yld i H x H'->g x (clr own Y) H' λσ2 H2=>Ext (clr own Y) σ2/\tc σ2 H2 λb H3=>
  if b=true then te σ2 H3 λv H4=>∃ k p,v=.ref p/\TPk H4 k p/\ys.length<60/\(∀ k b,TPk H k b->TPk H4 k b) /\ ∃ m',m'<m/\W (i+1) m' (ins ys k) H4 else (∀ k b,TPk H k b->TPk H3 k b) /\ ∃ m',m'<m/\W (i+1) m' ys H3)
section
variable {X:Cx} {scope:Y0} {tg elt iter:Expr} {ifs:Yi} {pos:Pos} {own:Yj} {wi:TI} {g:TG} {tc:TT} {te:TE}
def Qf (C:CompIn X scope own) (hcalm:X.calm=true) (hu:X.A.units+1<cLine) (hi:PI X tg iter wi) (p:CompParts X scope tg ifs elt g tc te) (hs:∀ x,foldedSetIterable iter X.env x=pure x:=by intro _;rfl) :
  PZT X (.SetComp elt [⟨tg,iter,ifs,0⟩] scope pos) (Om own wi g tc te):=by
 intro zB s Y H Q I h;let⟨cl,hcl,c1,c2⟩:=C.sc.closure I;rw[arm_eval_SetComp];refine wpAny_comprehension_free (use:=none) rfl hs hcl C.sc.kind C.sc.names (thn (hi zB s Y H _ I h) λv s1 h1=>thn h1 λitv s2 h2=>?_);let⟨it,fp,tn,J,H2,e,I2,T,st2,f2,W,⟨m0,w0⟩,turn⟩:=h2;subst e;refine Ux C hcalm hu I2 T st2 f2 c1 c2 (p.g _ _ _ _ _) (p.c _ _ _ _ _) (p.e _ _ _ _ _) (RR:=λacc C r s'=>compPost (model X.prog X.w) X.A X.xe none (λv s'=>∃ a o es ep tb ks H',v=.ref a/\s'.heap.get? a=some o/\SetT (ze X.prog X.w) (TPk H') o es ep tb ks/\Inv X zB Y H' s'/\Q ks H') acc C r s') (QQ:=Q) w0 turn ?_;intro σc H' s' o es ep t ys Ic rv qq;let⟨m,hn,_⟩:=Ic.loc;refine ⟨m,hn,λh' hs'=>?_⟩;let⟨J',eD⟩:=Vx I2 f2 Ic hs';calc ⟨_,o,es,ep,t,ys,H',rfl,eD,rv,J',qq⟩
end
end L2
namespace L3
open L2 ST
theorem Mg {prog:Ym} {w:Yo} {K:Type} [DecidableEq K] {knd:KeyKind prog w K} {P:List K->Addr->Prop}:∀ {es:List (Int × Value)} {ks:List (List K)},F2 (IA knd P) es ks->F2 (λv k=>∃ b,v=.ref b/\P k b) (es.map (·.2)) ks
 |_,_,.nil=> .nil
 |_,_,.cons ⟨b,h1,h2,_⟩ r=> .cons ⟨b,h1,h2⟩ (Mg r)
def So {α β:Type} {f:α->β}:∀ {ys:List β} {xs:List α},ys.Perm (xs.map f) -> ∃ zs:List α,zs.Perm xs/\ys=zs.map f:=by
 let key:∀ {ys ws:List β},ys.Perm ws -> ∀ {xs:List α},ws=xs.map f -> ∃ zs:List α,zs.Perm xs/\ys=zs.map f:=by
  intro ys ws h;induction h with
  |nil=>intro xs e;calc ⟨xs,.refl _,e⟩
  |cons a p ih=>
   intro xs e;cases xs with
   |nil=>ext e
   |cons x xs=>injection e with e1 e2;let⟨zs,h1,h2⟩:=ih e2;calc ⟨x::zs,h1.cons x,by rw[e1,h2];rfl⟩
  |swap a b l=>
   intro xs e;cases xs with
   |nil=>ext e
   |cons x xs=>
    cases xs with
    |nil=>ext e
    |cons y xs=>injection e with e1 e2;injection e2 with e2 e3;calc ⟨y::x::xs,.swap x y xs,by rw[e1,e2,e3];rfl⟩
  |trans _ _ ih1 ih2=>
   intro xs e;let⟨zs,h1,h2⟩:=ih2 e;let⟨us,h3,h4⟩:=ih1 h2;exact ⟨us,h3.trans h1,h4⟩
 intro ys xs h;calc key h rfl
def Q1 (h:kkI a=kkI b):a=b:=by
 erw[kkI]at h;calc (List.map_inj_right (λx y e=>by injection e)).mp h
def VQ (ks:Ya) (k:Ye):ins (ks.map kkI) (kkI k)=(ins ks k).map kkI:=by
 have:kkI k∈ks.map kkI ↔ k∈ks:=⟨λh=>by let⟨y,h1,h2⟩:=Af.mp h;rw[<-Q1 h2];exact h1,λh=>List.mem_map_of_mem h⟩;erw[ins];by_cases h:k∈ks
 .rw[AD h,AD (this.mpr h)]
 .rw[AE h,AE (λz=>h (this.mp z)),CD];rfl
section
variable {X:Cx} {scope:Y0} {tg elt iter e:Expr} {ifs:Yi} {pos pos1 p:Pos} {own:Yj}
def Su {t:TZT} (hc:X.calm=true) (hg:Gl X "sorted") (hm:X.mg "sorted" = none) (ha:PZT X e t) (hs:starEach [e] X.env=(false,eval e X.env)::starEach [] X.env:=by rfl) (hpl:(backTo pos (starEach [] X.env)).any (·.1)=false:=by rfl) :
  PE X (.Call (.Name "sorted" p) [e] [] pos) (λY H Q=>t Y H λks H1=>∃ ts,ks=ts.map kkI/\(∀ t∈ts,t≠[])/\ts.length<64 /\ ∀ ys l,ES H1 ys (Bp ts)->H1 l=none->Q (.ref l) (upd H1 l (.lst ys))):=by
 intro zB s Y H Q I h;calc wpAny_Call_Name_kw (D5 I hg hm (by rfl) ?_ () ());calc callWith_builtin1 ?_ hs hpl;rw[hs];show wpAny _ _ (spliced ((false,eval e X.env)::backTo pos (starEach [] X.env))) _ _ s;refine Calls.spliced_cons (thn (ha zB s Y H _ I h) λu s1 z=>Calls.spliced_nil ?_);let⟨a,o,es,ep,tb,ks,H1,hv,ho,hS,I1,ts,hts,hne,h64,q⟩:=z;subst hv;subst hts;refine Ru (SB.collect_set (I1.ok.hd hc) ho hS.base λs2 acc k1 k2 k3 hp=>?_);let⟨ks',p,f⟩:=hS.ent;let⟨ks2,p2,f2⟩:=Gx hp (Mg f);let⟨ts2,pt,e2⟩:=So (p2.trans p);subst e2;let I2:Inv X zB Y H1 s2:=I1.kept' k1 k2 k3;let hal:acc.length=ts2.length:=by rw[E8 f2,AI]
 let hl2:=pt.length_eq;let a2:∀ (i:Nat) u,acc[i]?=some u -> ∃ t b,ts2[i]?=some t/\u=.ref b/\H1 b=some (.tup ((kkI t).map kV))/\BD s2.heap (.ref b) t:=λi u e=>by
  let⟨k,e1,b,e3,e2⟩:=JL f2 e;rw[AQ]at e1;let⟨t,e4,rfl⟩:=Option.map_eq_some_iff.mp e1;exact ⟨t,b,e4,e3,e2,MY (I2.hok b _ e2)⟩
 refine ⟨(),λv hv'=>?_,λh' out n hk hL hp' hs'=>?_⟩
 .obtain ⟨i,hi⟩:=List.mem_iff_getElem?.mp hv';let⟨t,b,e1,rfl,_,tt⟩:=a2 i v hi;cases t with
  |nil=>calc absurd rfl (hne _ (pt.mem_iff.mp (Ax e1)))
  |cons x t=>exact ⟨x,t,tt⟩
 .obtain ⟨ys,rvy,tv⟩:=L9 hal a2 hp' hs';let es:Bp ts2=Bp ts:=NZ ((F6 ts2).trans pt) (IU ts2);rw[es]at tv;calc ⟨.ref ⇑s2,upd H1 ⇑s2 (.lst ys),I2.laid (t':=s2.toks) hk (AF _) ⟨by rw[tv.1,(F6 ts).length_eq,Cd];omega,out,n,rvy,hL⟩,rfl,q ys _ tv (I2.hok.fresh (AF _))⟩
def Gg (own:Yj) (fi:FI) (g:FG) (tc:FT) (te:FE):FE:=λY M=>match Ap own fi g tc te Y M with
 |some (.fl ys,M2)=>match DJ ys with
  |some ts=>if DU ts=true/\ts.length<60 then some (.fl ((Bp (zV ts)).map λt=>D.tup (t.map D.int)),M2) else none
  |none=>none
 |_=>none
def Q3 {K:Yb} {fi:FI} {g:TG} {fg:FG} {tc:FT} {te:FE} (hg:Fl own g fg) {τ:Sv} {H:Hp} {Q:List (List Key)->Hp->Prop} {L:Yg} {Y:Sd} {M Mf:Mem} {zs:List D} {ts:Ya} (c:Cor K L M H) (rs:AX L H Y τ) (hf:Ap own fi fg tc te Y M=some (.fl zs,Mf)) (hts:DJ zs=some ts) (hn:ts.length<60)
  (q:∀ L' H',Stp L H L' H'->Cor K L' Mf H'->Q ((zV ts).map kkI) H'):Om own (trI K fi) g (trT K tc) (trD K (toD te)) τ H Q:=by
 erw[Ap]at hf;cases e1:fi Y M with
 |none=>rw[e1]at hf;ext hf
 |some r=>
  let⟨xs,gd,M1⟩:=r;rw[e1]at hf;dsimp only at hf;by_cases hz:xs.length<=sizeLine
  .rw[AD hz]at hf;cases e2:Bn fg tc te (EO own Y) xs gd xs M1 with
   |none=>rw[e2]at hf;ext hf
   |some r=>
    let⟨zs,M2⟩:=r;rw[e2]at hf;ext hf;refine ⟨L,Y,M,_,_,_,c,rs,e1,λL1 H1 J s1 c1 it=>?_⟩
    refine ⟨λi m ys H'=>m=xs.length-i/\i<=xs.length /\ ∃ L' M' bs ka kb,Stp L1 H1 L' H'/\Cor K L' M' H'/\ys=(zV ka).map kkI/\Bn fg tc te (EO own Y) xs gd (xs.drop i) M'=some (bs,Mf)/\DJ bs=some kb/\ka++kb=ts,
     ⟨xs.length,by simp,Bh _,L1,M1,zs,[],ts,.refl _ _,c1,rfl,by simpa using e2,hts,rfl⟩,?_⟩
    rintro i m ys H' ⟨rfl,hi,L',M',bs,ka,kb,s',c',hl,e',ekb,hab⟩;by_cases hlt:i<xs.length
    .rw[JJ hlt]at e';erw[Bn]at e';cbv at e'
     .rename_i hgd;let⟨step,_⟩:=it L' H' M' s' c' hgd;let⟨go,yl⟩:=step i xs[i] (AJ hlt);cbv at e'
      .rename_i σ1 eg;refine .inr ⟨go,λv H2 hy=>?_⟩;let⟨gr,rv⟩:=yl v H2 hy;let s2:Stp L1 H1 L' H2:=s'.yld gr;refine hg (Ky own ((rs.stp s1).stp s2)) (.refl _) rv eg λτ2 r2 x2=>⟨x2,?_⟩;cbv at e'
       .rename_i M3 e3;cbv at e'
        .rename_i d M4 e4;cbv at e'
         .rename_i ds M5 e5;ext e';refine ⟨L',σ1,M',_,_,c'.grow gr,r2,e3,λL3 H3 s3 c3=>Fc ?_⟩;refine ⟨L3,σ1,M3,_,_,c3,r2.stp s3,e4,λL4 H4 w s4 c4 r4=>?_⟩;let st:Stp L' H' L4 H4:=((Stp.grow gr).trans s3).trans s4;erw[DJ]at ekb;cbv at ekb
          .rename_i x kr h1 h2;ext ekb;let⟨b,eb1,eb2⟩:=(JK (ds:=[d]) (ts:=[x]) (vs:=[w]) (by erw[DJ];rw[h1];rfl) (.cons r4 .nil)).2 0 x rfl;ext eb1;let hla:=Fp ka;have:=BC List.length hab;simp only[BK,Cu]at this;refine ⟨kkI x,b,rfl,eb2,by rw[hl,AI];omega,λk b e=>st.tup b _ e,xs.length-(i+1),(),rfl,hlt,L4,M4,ds,ka++[x],kr,s'.trans st,c4,by rw[hl,VQ,JT],e5,h2,by rw[<-hab];simp⟩
          .cases ekb
         .cases e'
        .cases e'
       .rename_i M3 e3;refine ⟨L',σ1,M',_,_,c'.grow gr,r2,e3,λL3 H3 s3 c3=>Ez ?_⟩;let st:Stp L' H' L3 H3:=(Stp.grow gr).trans s3;exact ⟨λk b e=>st.tup b _ e,xs.length-(i+1),(),rfl,hlt,L3,M3,bs,ka,kb,s'.trans st,c3,hl,e',ekb,hab⟩
       .cases e'
      .cases e'
     .cases e'
    .have hi':i=xs.length:=()
     subst hi';rw[List.drop_length]at e';erw[Bn]at e';cbv at e'
     .rename_i hgd;ext e';let⟨_,stop⟩:=it L' H' _ s' c' hgd;ext ekb;rw[C1]at hab;subst hab;calc .inl ⟨stop,?_⟩;rw[hl];exact q L' H' (s1.trans s') c'
     .cases e'
  .rw[AE hz]at hf;ext hf
def X4 {fi:FI} {g:TG} {fg:FG} {tc:FT} {te:FE} (hu:X.A.units+1<cLine) (hgl:Gl X "sorted") (hm:X.mg "sorted" = none) (hg:Fl own g fg) (C:CompIn X scope own) (hc:X.calm=true) (hi:QI X tg iter fi) (p1:QParts X scope tg ifs elt g tc te) (hss:∀ x,foldedSetIterable iter X.env x=pure x:=by intro _;rfl)
  (hs:starEach [.SetComp elt [⟨tg,iter,ifs,0⟩] scope pos1] X.env=(false,eval (.SetComp elt [⟨tg,iter,ifs,0⟩] scope pos1) X.env)::starEach [] X.env:=by rfl) (hpl:(backTo pos (starEach [] X.env)).any (·.1)=false:=by rfl) :
  QE X (.Call (.Name "sorted" p) [.SetComp elt [⟨tg,iter,ifs,0⟩] scope pos1] [] pos) (Gg own fi fg tc te):=.mk <| PE.imp (Su hc hgl hm (Qf C hc hu hi.un p1.parts hss) hs hpl) λτ H Q h=>by
 let⟨L,Y,M,d,M',c,rs,hf,q⟩:=h;erw[Gg]at hf;cbv at hf
 .rename_i ys M2 e1;cbv at hf
  .rename_i ts e2;cbv at hf
   .rename_i hb;ext hf;let hne:=MQ hb.1;refine Q3 hg c rs e1 e2 hb.2 λL1 H1 s1 c1=>⟨zV ts,rfl,λt ht=>hne t ((K5 ts t).mp ht),by have:=Fp ts;omega,λys l tv hl=>?_⟩;exact q L1 _ _ (s1.trans (.upd hl)) (c1.upd hl) (zR.newLst s1 c c1 hl (Kr tv))
   .cases hf
  .cases hf
 .cases hf
end
end L3
namespace Law
open L2 L3
def Jt:FS:=(zM (AO 1 (fOp BE (fB BU (zQ (zC 0) zn)) (fC (.int 3))))
  (zM (BO (Ai (fSl (zC 0) EM (Dy (fC (.int 63))))) (gN 2) (AO 1 (fOp CV (fOp BE (fOp BE (fOp Ff (zC 1) (fC (.int 6364136223846793))) (fOp CV (zC 2) (fOp Ge (fC (.int 10)) (fC (.int 30))))) (fC (.int 1442695040888963))) (fC (.int 2305843009213693951)))))
  (Ae (Bg (zD (toD (Ap [2] (Ai (fSl (zC 0) EM (Dy (fC (.int 63))))) (gN 2) (tst (fOp kGe (fB ER (zQ (zC 2) zn)) (fOp Ge (fC (.int 10)) (fC (.int 18))))) (fB ER (zQ (zC 2) zn)))) (zD (toD (zC 1)) zS))))))
def Gj:FF:=BA 3 Jt
def JD:FS:=(zM (Bz (Dd (tst (fOp kNe (fOp kIx (zC 0) (fC (.int 0))) (Bg zS))) (tst (fOp kEq (fOp kIx (fOp kIx (zC 0) (fC (.int 0))) (fC (.int 0))) (fC (.int 0))))) (C8 (fM Ed (fOp kIx (zC 0) (fC (.int 0))) (zD (toD (fC (.int 0))) zS))) 100)
  (zM (sIf (tst (fOp kNe (fOp kIx (zC 0) (fC (.int 0))) (Bg zS))) (zM (AO 2 (fOp CV (fOp kIx (fOp kIx (zC 0) (fC (.int 0))) (fC (.int 0))) (zC 1)))
  (zM (ET (fOp E3 (fOp kIx (fOp kIx (zC 0) (fC (.int 0))) (fC (.int 0))) (zC 1)) (fOp kIx (zC 0) (fC (.int 0))) (fC (.int 0)))
  (Ae (zC 2)))) Bw)
  (zM (ET (fOp CV (fOp BE (fOp Ff (fOp kIx (zC 0) (fC (.int 1))) (fC (.int 6364136223846793))) (fC (.int 1442695040888963))) (fC (.int 2305843009213693951))) (zC 0) (fC (.int 1)))
  (Ae (fOp CV (fOp E3 (fOp CV (fOp Ff (fOp kIx (zC 0) (fC (.int 1))) (fOp kIx (zC 0) (fC (.int 1)))) (fC (.int 2305843009213693921))) (fC (.int 65537))) (zC 1))))))
def zk:FF:=BA 3 JD
structure Gen (M:Mem) (n k:Nat):Prop where
 ex:∃ (c:Ye) (s:Int),M[n]?=some (.lst [.ref k,.int s])/\M[k]?=some (.lst (c.map D.int))/\(∀ x∈c,0<=x)/\c.length<=63/\0<=s/\s<2305843009213693951
 ne:n≠k
 wf:∀ (j:Nat) u,M[j]?=some u->MO.und M.length u=true
structure Nx (M M':Mem) (n k:Nat):Prop where
 gen:Gen M' n k
 len:M'.length=M.length
 fr:∀ j,j≠n->j≠k->M'[j]?=M[j]?
def Nx.refl (h:Gen M n k):Nx M M n k:=⟨h,rfl,λ_ _ _=>rfl⟩
def Nx.trans {M M1 M2:Mem} {n k:Nat} (a:Nx M M1 n k) (b:Nx M1 M2 n k):Nx M M2 n k:=⟨b.gen,b.len.trans a.len,λj h1 h2=>(b.fr j h1 h2).trans (a.fr j h1 h2)⟩
theorem C4 (n:Nat):∀ c:List Int,D.unds n (c.map D.int)=true
 |[]=>rfl
 |x::r=>by
  show (D.und n (D.int x)&&D.unds n (r.map D.int))=true;rw[C4 n r];rfl
def Gen.lt (h:Gen M n k):n<M.length/\k<M.length:=by
 let⟨c,s,e1,e2,_⟩:=h.ex;calc ⟨(AK.mp e1).1,(AK.mp e2).1⟩
def Gen.put {M:Mem} (h:Gen M n k) {c:Ye} (hc:∀ x∈c,0<=x) (hl:c.length<=63) (h0:0<=s) (h1:s<2305843009213693951) :
  Nx M ((M.set k (.lst (c.map D.int))).set n (.lst [.ref k,.int s])) n k:=by
 let⟨hn,hk⟩:=h.lt;refine ⟨⟨⟨c,s,?_,?_,hc,hl,h0,h1⟩,h.ne,λj u e=>?_⟩,by simp,λj h1 h2=>?_⟩
 .rw[Bv (~~~hn)]
 .rw[BJ h.ne,Bv hk]
 .rw[Ck,Ck];rw[CJ]at e;cbv at e
  .split at e
   .cases e;show D.unds _ _=true;erw[D.unds,D.unds,D.unds,D.und];simp[hk]
   .cases e
  .rw[CJ]at e;cbv at e
   .rename_i z;subst z;ext e;exact C4 _ _
   .exact h.wf j u e
 .rw[BJ (Ne.symm h1),BJ (Ne.symm h2)]
def KS {M:Mem} (h:M[k]?=some u):M.set k u=M:=by
 apply Dm;intro i;rw[CJ];split
 .rename_i e;subst e;rw[AD (AK.mp h).1];exact h.symm
 .rfl
theorem L8:∀ {a b:Ye},a.map D.int=b.map D.int->a=b
 |[],[],_=>rfl
 |[],_::_,h=>by ext h
 |_::_,[],h=>by ext h
 |x::a,y::b,h=>by
  rw[Ad,Ad]at h;let h1:=(List.cons.inj h).1;let h2:=L8 (List.cons.inj h).2;ext h1;rw[h2]
def at0 {x:D} {xs:List D}:atI (x::xs) 0=some x:=NI rfl
def at1 {x y:D} {xs:List D}:atI (x::y::xs) 1=some y:=NI rfl
def Us (h:Gen M n k) (h0:0<m) (h1:m<1073741824) :
  Ok (zk [.ref n,.int m] M) λd M'=>(∃ i,d=.int i/\0<=i/\i<m)/\Nx M M' n k:=by
 erw[zk];rw[B3];erw[JD];rw[zI];let st:∀ {M:Mem} {c:Ye} {s:Int} {Y:Sd} {P:EV->Mem->Prop},Y[0]?=some (some (.ref n))->M[n]?=some (.lst [.ref k,.int s])->P (.dat (.ref k)) M->Ok (fOp kIx (zC 0) (fC (.int 0)) Y M) P:=λhσ hM p=>
  Al.mpr (zq.mpr ⟨_,hσ,Ar.mpr (IE (zf hM) at0 p)⟩)
 let sd:∀ {M:Mem} {s:Int} {Y:Sd} {P:EV->Mem->Prop},Y[0]?=some (some (.ref n))->M[n]?=some (.lst [.ref k,.int s])->P (.dat (.int s)) M->Ok (fOp kIx (zC 0) (fC (.int 1)) Y M) P:=λhσ hM p=>
  Al.mpr (zq.mpr ⟨_,hσ,Ar.mpr (IE (zf hM) at1 p)⟩)
 let hd:∀ {M:Mem} {c:Ye} {x s:Int} {Y:Sd} {P:EV->Mem->Prop},Y[0]?=some (some (.ref n))->M[n]?=some (.lst [.ref k,.int s])->M[k]?=some (.lst ((x::c).map D.int))->P (.dat (.int x)) M->Ok (fOp kIx (fOp kIx (zC 0) (fC (.int 0))) (fC (.int 0)) Y M) P:=λ{M c x s Y P} hσ hM hK p=>
  Al.mpr (st (c:=c) hσ hM (Ar.mpr (IE (zf hK) at0 p)))
 let ne:∀ {M:Mem} {c:Ye} {s:Int} {Y:Sd} {P:Bool->Mem->Prop},Y[0]?=some (some (.ref n))->M[n]?=some (.lst [.ref k,.int s])->M[k]?=some (.lst (c.map D.int))->P (!c.isEmpty) M->Ok (tst (fOp kNe (fOp kIx (zC 0) (fC (.int 0))) (Bg zS)) Y M) P:=λ{M c s Y P} hσ hM hK p=>by
  calc Hh.mpr (Al.mpr (st (c:=c) hσ hM (En.mpr (D4.mpr ⟨Bh _,?_⟩))));rw[RQ (Eg hK) (by intro d e;ext e;rfl)];rw[IH];simpa using p
 let W:∀ (fuel m':Nat) (Y:Sd) (M':Mem),m'<fuel->((Y=[some (.ref n),some (.int m),none]/\Nx M M' n k) /\ ∃ (c:Ye) (s:Int),M'[n]?=some (.lst [.ref k,.int s])/\M'[k]?=some (.lst (c.map D.int))/\c.length=m') ->
   OkS (Bz (Dd (tst (fOp kNe (fOp kIx (zC 0) (fC (.int 0))) (Bg zS))) (tst (fOp kEq (fOp kIx (fOp kIx (zC 0) (fC (.int 0))) (fC (.int 0))) (fC (.int 0))))) (C8 (fM Ed (fOp kIx (zC 0) (fC (.int 0))) (zD (toD (fC (.int 0))) zS))) fuel Y M')
    (λo σ1 M1=>o=.nx/\σ1=[some (.ref n),some (.int m),none]/\Nx M M1 n k):=by
  intro fuel m' Y M' hlt hI;refine FU (I:=λm' Y M'=>(Y=[some (.ref n),some (.int m),none]/\Nx M M' n k) /\ ∃ (c:Ye) (s:Int),M'[n]?=some (.lst [.ref k,.int s])/\M'[k]?=some (.lst (c.map D.int))/\c.length=m') ?_ fuel m' Y M' hlt hI;rintro m' Y M' ⟨⟨rfl,nx⟩,c,s,e1,e2,hl⟩;calc Vi.mpr (ne rfl e1 e2 ?_);cases c with
  |nil=>simp;calc nx
  |cons x c=>
   simp only[List.isEmpty_cons,Bool.not_false,A4];calc Hh.mpr (Al.mpr (hd rfl e1 e2 (Ar.mpr (O9.mpr (IH.mpr ?_)))));by_cases hx:x=0
   .rw[AD (~~~hx)];refine GA.mpr (GF.mpr (st (c:=c) rfl e1 ⟨⟨_,Eg e2⟩,D2.mpr (CN.mpr (Ar.mpr (zJ.mpr (D4.mpr ?_))))⟩));rw[Ad]at e2;rw[Rf e2];refine ⟨c.length,by rw[<-hl];simp,?_⟩;let⟨c',s',z1,z2,z3,z4,z5,z6⟩:=nx.gen.ex;rw[e1]at z1;ext z1;rw[e2]at z2;let hcc:c'=x::c:=by
     have:(x::c).map D.int=c'.map D.int:=by have:=z2;simp only[Option.some.injEq,MO.lst.injEq]at this;simpa using this
     exact (L8 this).symm
    subst hcc;let P:=nx.gen.put (c:=c) (s:=s) (λy hy=>z3 y (Ay _ hy)) (by simp at z4;omega) z5 z6;let q:((M'.set k (.lst (c.map D.int))).set n (.lst [.ref k,.int s]))=M'.set k (.lst (c.map D.int)):=KS (by rw[BJ (Ne.symm nx.gen.ne)];calc e1);rw[q]at P;let hk:=nx.gen.lt.2;refine ⟨⟨rfl,nx.trans P⟩,c,s,?_,?_,rfl⟩
    .rw[BJ (Ne.symm nx.gen.ne)];exact e1
    .rw[Bv hk]
   .rw[AE (~~~hx)];first|exact ⟨rfl,rfl,nx⟩|exact ⟨trivial,trivial,nx⟩|simpa using nx
 let⟨c,s,e1,e2,e3,e4,_⟩:=h.ex;calc OkS.mono (W 100 c.length _ M () ⟨⟨rfl,.refl h⟩,c,s,e1,e2,rfl⟩) ?_;rintro o Y M1 ⟨rfl,rfl,nx⟩;rw[zN,zI,De];let⟨c,s,e1,e2,e3,e4,e5,e6⟩:=nx.gen.ex;calc ne rfl e1 e2 ?_;cases c with
 |nil=>
  simp only[C6,Bx,AZ,Ah];rw[Dp,zN,zI,Kg];refine Al.mpr (Al.mpr (Al.mpr (sd rfl e1 (Ar.mpr (Ir.mpr ⟨by simp[Fb] <;> omega,Ar.mpr (D7.mpr (Ar.mpr (Em.mpr ⟨(),?_⟩)))⟩)))));rw[zJ];calc zq.mpr ⟨_,rfl,Ar.mpr ?_⟩;rw[zJ];let hs0:0<=(s*6364136223846793+1442695040888963) % 2305843009213693951:=Int.emod_nonneg _ ();let hs1:(s*6364136223846793+1442695040888963) % 2305843009213693951<2305843009213693951:=EA _ ();generalize (s*6364136223846793+1442695040888963) % 2305843009213693951=s' at hs0 hs1;let P:=nx.gen.put (c:=[]) (λ_ h=>by ext h) (by simp) hs0 hs1;rw[KS (show M1[k]?=some (.lst (([]:List Int).map D.int))from e2)]at P;calc ⟨_,MR (k:=1) e1 (by simp),?_⟩;rw[zN,E9];let e1':(M1.set n (.lst [.ref k,.int s']))[n]?=some (.lst [.ref k,.int s']):=Bv nx.gen.lt.1;refine Al.mpr (Al.mpr (Al.mpr (Al.mpr (sd rfl e1' (sd rfl e1' (Ir.mpr ⟨by simp[Fb] <;> omega,Ar.mpr (Em.mpr ⟨(),Ar.mpr (KO.mpr ⟨(),zq.mpr ⟨_,rfl,Em.mpr ⟨h0,?_⟩⟩⟩)⟩)⟩))))));rw[zJ];calc ⟨⟨_,rfl,Int.emod_nonneg _ (),EA _ h0⟩,nx.trans P⟩
 |cons x c=>
  simp only[List.isEmpty_cons,Bool.not_false,A4];rw[zI,zY];refine Al.mpr (hd rfl e1 e2 (zq.mpr ⟨_,rfl,Em.mpr ⟨h0,?_⟩⟩));rw[zJ,zN,zI,Kg];refine Al.mpr (hd rfl e1 e2 (zq.mpr ⟨_,rfl,KO.mpr ⟨⟨h0,h1⟩,?_⟩⟩));rw[zJ];refine st (c:=c) rfl e1 (Ar.mpr ?_);rw[zJ];refine ⟨_,MR (k:=0) e2 (by simp),?_⟩;rw[zN,E9];refine zq.mpr ⟨_,rfl,?_⟩;rw[zJ,Vb];let hx:=e3 x Az;let P:=nx.gen.put (c:=(x / m)::c) (λy hy=>by
   rcases AL.mp hy with z|z
   .subst z;exact Int.ediv_nonneg hx ()
   .exact e3 y (Ay _ z)) (~~~e4) e5 e6
  rw[KS (by rw[BJ (Ne.symm nx.gen.ne)];calc e1)]at P;calc ⟨⟨_,rfl,Int.emod_nonneg _ (),EA _ h0⟩,nx.trans P⟩
def Ni (ns:Ye) (lo hi:Ys):∃ c:List Int,L3.Dc (ns.map D.int) lo hi=c.map D.int/\c.length<=ns.length:=by
 refine ⟨(ns.drop (HT.sIx ns.length 0 lo)).take (HT.sIx ns.length ns.length hi-HT.sIx ns.length 0 lo),?_,?_⟩
 .unfold L3.Dc;rw[AI,List.map_take,List.map_drop]
 .rw[BY,D0];omega
def Ov (h:x::r=c.map D.int):∃ y c',c=y::c'/\x=.int y/\r=c'.map D.int:=by
 cases c with
 |nil=>ext h
 |cons y c'=>rw[Ad]at h;calc ⟨y,c',rfl,(List.cons.inj h).1,(List.cons.inj h).2⟩
def CU:CO none xs M:=trivial
def zg (h:n<=100000):n<=sizeLine:=An h ()
def Zo {ns:Ye} (h:ns.length<=63):Ok (Gj [.ref 0] [.fro (ns.map D.int)]) λd M'=>d=.ref 2/\Gen M' 2 1/\M'[0]?=some (.fro (ns.map D.int))/\M'.length=3:=by
 erw[Gj];rw[B3];erw[Jt];let e0:([.fro (ns.map D.int)]:Mem)[0]?=some (.fro (ns.map D.int)):=rfl;let⟨cut,ec,lc⟩:=Ni ns none (some 63);let sl:∀ {Y:Sd} {P:EV->Mem->Prop},Y[0]?=some (some (.ref 0))->P (.fl (cut.map D.int)) [.fro (ns.map D.int)]->Ok (fSl (zC 0) EM (Dy (fC (.int 63))) Y [.fro (ns.map D.int)]) P:=λhσ p=>by
  calc Lk.mpr (zq.mpr ⟨_,hσ,OW.mpr (Nd.mpr (Ar.mpr (Mz.mpr ?_)))⟩);rw[OT (Jx e0) rfl,ec];exact p
 rw[zI,zY];calc Al.mpr (Ew.mpr (E2.mpr (zq.mpr ⟨_,rfl,Ep.mpr ((Ng (Ur e0)).mpr (Ar.mpr (D7.mpr ?_)))⟩)));rw[zJ,zN,zI,Co];let⟨x,M1,ex,px⟩:=sl (Y:=[some (.ref 0),some (.int (((ns.map D.int).length:Int)+3)),none]) (P:=λx M=>x=.fl (cut.map D.int)/\M=[.fro (ns.map D.int)]) rfl ⟨rfl,rfl⟩;let⟨rfl,rfl⟩:=px;calc ⟨_,_,_,FJ ex DV,?_⟩;refine Gm (I:=λr Y M=>M=[.fro (ns.map D.int)]/\(∃ c:List Int,r=c.map D.int) /\ ∃ s y,Y=[some (.ref 0),some (.int s),y]/\0<=s/\s<2305843009213693951) ?_ ?_ _ _ _ ⟨rfl,⟨cut,rfl⟩,_,none,rfl,by simp;omega,by simp;omega⟩
 .rintro x r Y M ⟨rfl,⟨c,hc⟩,s,y,rfl,h0,h1⟩;let⟨z,c',rfl,rfl,rfl⟩:=Ov hc;calc ⟨CU,_,rfl,?_⟩;rw[zY];calc Al.mpr (Al.mpr (Al.mpr (Al.mpr (zq.mpr ⟨_,rfl,Ar.mpr (Ir.mpr ⟨by simp[Fb],?_⟩)⟩))));calc Al.mpr (zq.mpr ⟨_,rfl,Al.mpr (Ar.mpr (Ar.mpr (Nl.mpr ⟨(),Em.mpr ⟨(),D7.mpr (Ar.mpr (D7.mpr (Ar.mpr (Em.mpr ⟨(),?_⟩))))⟩⟩)))⟩);rw[zJ];exact ⟨rfl,⟨c',rfl⟩,_,_,rfl,Int.emod_nonneg _ (),EA _ ()⟩
 .rintro Y M ⟨rfl,_,s,y,rfl,h0,h1⟩;refine ⟨CU,?_⟩;rw[zN,E9,En,D2,CN,EU];let⟨x,M1,ex,px⟩:=sl (Y:=[some (.ref 0),some (.int s),y]) (P:=λx M=>x=.fl (cut.map D.int)/\M=[.fro (ns.map D.int)]) rfl ⟨rfl,rfl⟩;let⟨rfl,rfl⟩:=px;refine ⟨_,_,_,FJ ex DV,by rw[AI];exact zg (),?_⟩;refine Ok.mono (GU (I:=λr acc M=>M=[.fro (ns.map D.int)]/\(∃ c:List Int,r=c.map D.int)/\r.length+acc.length<=63 /\ ∃ b:List Int,acc=b.map D.int /\ ∀ x∈b,0<=x) (Q:=λacc M=>M=[.fro (ns.map D.int)]/\acc.length<=63 /\ ∃ b:List Int,acc=b.map D.int /\ ∀ x∈b,0<=x) ?_ ?_ _ [] _ ⟨rfl,⟨cut,rfl⟩,by simp;omega,[],rfl,λ_ h=>by ext h⟩) ?_
  .rintro x r acc M ⟨rfl,⟨c,hc⟩,hl,b,rfl,hb⟩;let⟨z,c',rfl,rfl,rfl⟩:=Ov hc;refine ⟨CU,_,rfl,?_⟩;refine Hh.mpr (Al.mpr (Ew.mpr (E2.mpr (zq.mpr ⟨_,rfl,Ep.mpr (ME.mpr (Al.mpr (Ar.mpr (Ar.mpr (Nl.mpr ⟨(),Sq.mpr (IH.mpr ?_)⟩)))))⟩))));by_cases hz:(10:Int) ^ (18:Int).toNat<=(if z<0 then -z else z)
   .rw[AD (~~~hz)];refine Ew.mpr (E2.mpr (zq.mpr ⟨_,rfl,Ep.mpr (ME.mpr (zJ.mpr ⟨rfl,⟨c',rfl⟩,?_,b++[if z<0 then -z else z],by simp,?_⟩))⟩))
    .simp at hl ⊢;omega
    .intro y hy;rcases Ab.mp hy with q|q
     .exact hb y q
     .have:y=if z<0 then -z else z:=by simpa using q
      rw[this];split <;> omega
   .rw[AE (~~~hz)];exact ⟨rfl,⟨c',rfl⟩,by simp at hl ⊢;omega,b,rfl,hb⟩
  .rintro acc M ⟨rfl,_,hl,hb⟩;exact ⟨CU,rfl,by simpa using hl,hb⟩
  .rintro ys M ⟨rfl,hl,b,hb,hp⟩;rw[List.nil_append]at hb hl;subst hb;rw[O6,D2,CN,zq];calc ⟨_,rfl,?_⟩;rw[zJ,D4];calc ⟨zg (by simp),?_⟩;rw[O6];calc ⟨rfl,⟨⟨b,s,rfl,rfl,hp,by simpa using hl,h0,h1⟩,(),?_⟩,rfl,rfl⟩;intro j u e;match j,e with
   |0,e=>ext e;calc C4 _ _
   |1,e=>ext e;calc C4 _ _
   |2,e=>ext e;rfl
   |j+3,e=>simp at e
mutual
theorem LS (h:a<=b):∀ {d:D},D.und a d=true->D.und b d=true
 |.non,_=>by erw[D.und];rfl
 |.bl _,_=>by erw[D.und];rfl
 |.int _,_=>by erw[D.und];rfl
 |.str _,_=>by erw[D.und];rfl
 |.tup ds,e=>by unfold D.und at e ⊢;calc FH h e
 |.ref k,e=>by unfold D.und at e ⊢;simp at e ⊢;omega
 |.fn _ ds,e=>by unfold D.und at e ⊢;calc FH h e
theorem FH (h:a<=b):∀ {ds:List D},D.unds a ds=true->D.unds b ds=true
 |[],_=>by erw[D.unds];rfl
 |d::ds,e=>by
  unfold D.unds at e ⊢;rw[A8]at e ⊢;calc ⟨LS h e.1,FH h e.2⟩
end
def N4 (h:a<=b) (e:MO.und a u=true):MO.und b u=true:=by
 cases u with
 |lst xs=>calc FH h e
 |fro xs=>calc FH h e
 |set xs=>calc FH h e
 |dict kvs|dicT kvs|froT kvs|froK kvs=>
  unfold MO.und at e ⊢;rw[Aj]at e ⊢;intro p hp;have:=e p hp;rw[A8]at this ⊢;calc ⟨LS h this.1,LS h this.2⟩
theorem Kk:∀ {xs ys:List D},D.unds n (xs++ys)=(D.unds n xs&&D.unds n ys)
 |[],ys=>by simp[D.unds]
 |x::xs,ys=>by
  show (D.und n x&&D.unds n (xs++ys))=((D.und n x&&D.unds n xs)&&D.unds n ys);rw[Kk,Bool.and_assoc]
theorem Gq:∀ {xs:List D},(∀ x∈xs,D.und n x=true)->D.unds n xs=true
 |[],_=>rfl
 |x::xs,h=>by
  show (D.und n x&&D.unds n xs)=true;rw[h x Az,Gq λy hy=>h y (Ay _ hy)];rfl
def EY (c:Ye):D.und n (.tup (c.map D.int))=true:=by erw[D.und];calc C4 n c
def Gen.app (h:Gen A n k) (hu:∀ u∈us,MO.und (A.length+us.length) u=true):Gen (A++us) n k:=by
 let⟨c,s,e1,e2,r⟩:=h.ex;let⟨hn,hk⟩:=h.lt;refine ⟨⟨c,s,by rw[BI hn];calc e1,by rw[BI hk];calc e2,r⟩,h.ne,λj u e=>?_⟩;rw[BK];by_cases hj:j<A.length
 .rw[BI hj]at e;exact N4 () (h.wf j u e)
 .rw[Dk ()]at e;calc hu u (Ax e)
def EH (h:Gen M n k) (ha:fa Y M=some (.dat (.ref n),M)) (hb:fb Y M=some (.dat (.int m),M)) (h0:0<m) (h1:m<1073741824)
  (q:∀ i M',0<=i->i<m->Nx M M' n k->P (.dat (.int i)) M'):Ok (zm zk (zD (toD fa) (zD (toD fb) zS)) Y M) P:=by
 rw[Fn,D2,CN];calc ⟨_,_,ha,?_⟩;rw[zJ,D2,CN];calc ⟨_,_,hb,?_⟩;rw[zJ,D4];calc Ok.mono (Us h h0 h1) ?_;rintro d M' ⟨⟨i,rfl,i0,i1⟩,nx⟩;calc q i M' i0 i1 nx
def DQ (i:Nat):Nat->List D
 |0=>[]
 |n+1=> .int i::DQ (i+1) n
def XX (n:Nat):∀ i,((List.range' i n).map λ(k:Nat)=>D.int k)=DQ i n:=by
 induction n with
 |zero=>intro i;rfl
 |succ n ih=>intro i;rw[List.range'_succ,Ad,ih];rfl
def QC (n:Nat):((List.range n).map λ(k:Nat)=>D.int k)=DQ 0 n:=by rw[List.range_eq_range',XX]
theorem G7:∀ (n i:Nat),(DQ i n).length=n
 |0,_=>rfl
 |n+1,i=>by show (DQ (i+1) n).length+1=_;rw[G7 n]
def Gs (n:Nat) (I:Nat->Sd->Mem->Prop)
  (hs:∀ i Y M,i<n->I i Y M -> ∃ σ1,g (.int i) Y=some σ1/\OkS (b σ1 M) λo σ2 M2=>match o with|.nx=>I (i+1) σ2 M2|.cnt=>I (i+1) σ2 M2|.brk=>P .nx σ2 M2|.ret d=>P (.ret d) σ2 M2)
  (he:∀ Y M,I n Y M->P .nx Y M) (Y:Sd) (M:Mem) (h0:I 0 Y M):OkS (Cy g b all none (DQ 0 n) Y M) P:=by
 refine Gm (I:=λr Y M=>∃ i,i<=n/\r=DQ i (n-i)/\I i Y M) ?_ ?_ _ _ _ ⟨0,Bh _,by simp,h0⟩
 .rintro x r Y M ⟨i,hi,e,hI⟩;let hlt:i<n:=by
   rcases DH i n with z|z
   .exact z
   .rw[show n-i=0 by omega]at e;ext e
  rw[show n-i=(n-(i+1))+1 by omega]at e;let⟨rfl,rfl⟩:=List.cons.inj e;let⟨σ1,e1,q⟩:=hs i Y M hlt hI;calc ⟨CU,σ1,e1,OkS.mono q ?_⟩;intro o σ2 M2 z;cases o with
  |nx=>calc ⟨i+1,hlt,rfl,z⟩
  |cnt=>calc ⟨i+1,hlt,rfl,z⟩
  |brk=>calc z
  |ret d=>exact z
 .rintro Y M ⟨i,hi,e,hI⟩;have:i=n:=by
   rcases DH i n with z|z
   .rw[show n-i=(n-(i+1))+1 by omega]at e;ext e
   .omega
  subst this;calc ⟨CU,he Y M hI⟩
def Hu (n:Nat) (I:Nat->List D->Mem->Prop)
  (hs:∀ i acc M,i<n->I i acc M -> ∃ σ1,g (.int i) Y=some σ1/\Ok (te σ1 M) (Dh λd M2=>I (i+1) (acc++[d]) M2)) (h0:I 0 [] M) :
  Ok (Bn g B2 te Y all none (DQ 0 n) M) λys M1=>I n ys M1:=by
 refine Ok.mono (GU (I:=λr acc M=>∃ i,i<=n/\r=DQ i (n-i)/\I i acc M) (Q:=λacc M=>I n acc M) ?_ ?_ _ [] _ ⟨0,Bh _,by simp,h0⟩) λys M1 q=>by simpa using q
 .rintro x r acc M ⟨i,hi,e,hI⟩;let hlt:i<n:=by
   rcases DH i n with z|z
   .exact z
   .rw[show n-i=0 by omega]at e;ext e
  rw[show n-i=(n-(i+1))+1 by omega]at e;let⟨rfl,rfl⟩:=List.cons.inj e;let⟨σ1,e1,q⟩:=hs i acc M hlt hI;calc ⟨CU,σ1,e1,KP.mpr ?_⟩;rw[AD rfl];calc Ok.mono q ?_;intro x M2 z;cases x with
  |dat d=>calc ⟨i+1,hlt,rfl,z⟩
  |fl xs=>exact ⟨i+1,hlt,rfl,z⟩
 .rintro acc M ⟨i,hi,e,hI⟩;have:i=n:=by
   rcases DH i n with z|z
   .rw[show n-i=(n-(i+1))+1 by omega]at e;ext e
   .omega
  subst this;calc ⟨CU,hI⟩
def D6 (e:f Y M=some (.dat (.int j),M)) (h1:0<=j) (h2:j<2 ^ 62):Bd (zD (toD f) zS) Y M=some (DQ 0 j.toNat,none,M):=by
 let e':(zD (toD f) zS) Y M=some ([.int j],M):=by erw[zD,toD,zS];rw[e]
 rw[Tr e' h1 h2,QC]
def mD (zA:Ya):D:=.tup (zA.map λr=> .tup (r.map D.int))
structure IsM (zA:Ya) (l:Nat):Prop where
 r0:0<zA.length
 l0:0<l
 row:∀ r∈zA,r.length=l /\ ∀ g∈r,0<=g/\g<zA.length
def F3 (zA:Ya):D.und n (mD zA)=true:=by
 erw[mD,D.und];refine Gq λx hx=>?_;let⟨r,_,rfl⟩:=Af.mp hx;calc EY r
def zW {α:Type} {x:Option (α × Mem)} {a:α} {M:Mem} (h:Ok x λb M'=>b=a/\M'=M):x=some (a,M):=by
 let⟨b,M',e,rfl,rfl⟩:=h;calc e
def zF {α:Type} {x:Option (α × Mem)} {a:α} {M:Mem} {P:α->Mem->Prop} (h:x=some (a,M)) (p:P a M):Ok x P:=⟨a,M,h,p⟩
def C5 {c:FT} {a g:FS} {Y:Sd} {M:Mem} {P:Out->Sd->Mem->Prop} (hc:c Y M=some (false,M)) (h:OkS (g Y M) P):OkS (zM (sIf c a Bw) g Y M) P:=by
 rw[zI,De];calc zF hc ?_;rw[AE (),Dp];calc h
def Uu {f:FE} {Y:Sd} {M M':Mem} {k:Bool} (h:f Y M=some (.dat (.bl k),M')):EG (tst f) Y M=some (!k,M'):=by
 erw[EG,tst];rw[h]
def KA {f:FE} {Y:Sd} {M:Mem} {d:D} (h:f Y M=some (.dat d,M)):Cf (zD (toD f) zS) Y M=some (.dat (.tup [d]),M):=by
 erw[Cf,zD,toD,zS];rw[h];dsimp only;rw[AD (zg (by simp))]
def Ac {f:FE} {Y:Sd} {M:Mem} {d:D} (h:f Y M=some (.dat d,M)):zD (toD f) zS Y M=some ([d],M):=by
 erw[zD,toD,zS];rw[h]
def BL {f:FE} {g:FA} {Y:Sd} {M:Mem} {d:D} {ds:List D} (h:f Y M=some (.dat d,M)) (hg:g Y M=some (ds,M)):zD (toD f) g Y M=some (d::ds,M):=by
 erw[zD,toD];rw[h];dsimp only;rw[hg]
def DX {m:FF} {a:FA} {Y:Sd} {M M':Mem} {ds:List D} {d:D} (h:a Y M=some (ds,M)) (hm:m ds M=some (d,M')):zm m a Y M=some (.dat d,M'):=by
 erw[zm];rw[h];dsimp only;rw[hm]
def zH {k:K2} {f g:FE} {Y:Sd} {M:Mem} {x y:EV} {r:Option (EV × Mem)} (hf:f Y M=some (x,M)) (hg:g Y M=some (y,M)) (hk:k x y M=r):fOp k f g Y M=r:=by
 erw[fOp];rw[hf];dsimp only;rw[hg];calc hk
def Du {x:EV} {xs:List D} {i:Int} {d:D} {M:Mem} (h:zu M x=some xs) (hd:atI xs i=some d):kIx x (.dat (.int i)) M=some (.dat d,M):=zW (IE h hd ⟨rfl,rfl⟩)
def GK {f:FE} {x:EV} {xs:List D} {Y:Sd} {M:Mem} (hf:f Y M=some (x,M)) (h:zu M x=some xs):fB BU (zQ f zn) Y M=some (.dat (.int xs.length),M):=by
 erw[fB,zQ,zn];rw[hf];calc zW ((Ng h).mpr ⟨rfl,rfl⟩)
def ZJ {zA:Ya} {h:Int} (h0:0<=h) (h1:h<zA.length):atI (zA.map λr=>D.tup (r.map D.int)) h=some (.tup ((zA.getD h.toNat []).map D.int)):=by
 calc NF h0 ?_;rw[AQ,BB,AJ ()];rfl
def OJ {r:Ye} {g:Int} (h0:0<=g) (h1:g<r.length):atI (r.map D.int) g=some (.int (r.getD g.toNat 0)):=by
 calc NF h0 ?_;rw[AQ,BB,AJ ()];rfl
def IsM.get {zA:Ya} {l:Nat} (m:IsM zA l) {h:Int} (h0:0<=h) (h1:h<zA.length):(zA.getD h.toNat []).length=l /\ ∀ g∈zA.getD h.toNat [],0<=g/\g<zA.length:=by
 calc m.row _ ?_;rw[BB,AJ ()];calc Au _
def ZF {Y:Sd} {M:Mem} {ns:Ye} {j:Nat} {i:Int} (hσ:Y[i.toNat]?=Y[i.toNat]?) (hi:zC j Y M=some (.dat (.ref 0),M)) (h0:M[0]?=some (.fro (ns.map D.int))):∃ c:List Int,fSl (zC j) EM (Dy (fC (.int i))) Y M=some (.fl (c.map D.int),M)/\c.length<=ns.length:=by
 let⟨c,ec,lc⟩:=Ni ns none (some i);calc ⟨c,zW (Lk.mpr (zF hi (OW.mpr (Nd.mpr (Ar.mpr (Mz.mpr ?_)))))),lc⟩;rw[OT (Jx h0) rfl,ec];calc ⟨rfl,rfl⟩
def Iq (g_rec:FF):FS:=(zM (sIf (tst (CF "tuple" (zC 1))) (zM (sIf (Gv (EG (tst (CF "tuple" (zC 0)))) (tst (fOp kNe (fB BU (zQ (zC 0) zn)) (fB BU (zQ (zC 1) zn))))) (Ae (fC (.bl false))) Bw)
  (Ae (fB GW (zQ (Ap [2,3] (LN (zD (toD (zC 0)) (zD (toD (zC 1)) zS))) (Ks 2 3) B2 (zm g_rec (zD (toD (zC 2)) (zD (toD (zC 3)) zS)))) zn)))) Bw)
  (zM (sIf (tst (fOp (kIs false) (zC 1) (fC .non))) (Ae (fOp (kIs false) (zC 0) (fC .non))) Bw)
  (zM (sIf (tst (CF "bool" (zC 1))) (Ae (ED (CF "bool" (zC 0)) (fOp kEq (zC 0) (zC 1)))) Bw)
  (zM (sIf (tst (CF "str" (zC 1))) (Ae (ED (CF "str" (zC 0)) (fOp kEq (zC 0) (zC 1)))) Bw)
  (Ae (ED (CF "int" (zC 0)) (ED (HG (CF "bool" (zC 0))) (fOp kEq (zC 0) (zC 1)))))))))
def Ef:Nat->FF
 |0=>λ_ _=>none
 |n+1=>BA 4 (Iq (Ef n))
def HM:FF:=Ef 5
def Kl (hf:f Y M=some (x,M)) (ht:FC M x=some t):CF T f Y M=some (.dat (.bl (isT t T)),M):=by
 erw[CF];rw[hf];dsimp only;rw[ht]
def BN (h:f Y M=some (.dat (.bl k),M')):tst f Y M=some (k,M'):=by erw[tst];rw[h]
def isV (hf:f Y M=some (x,M)) (ht:FC M x=some t) (h:isT t T=k):CF T f Y M=some (.dat (.bl k),M):=by
 rw[Kl hf ht,h]
def isF (hf:f Y M=some (x,M)) (ht:FC M x=some t) (h:isT t T=false):tst (CF T f) Y M=some (false,M):=by
 rw[BN (Kl hf ht),h]
def Ih (hf:f Y M=some (x,M)) (ht:FC M x=some t) (h:isT t T=true):tst (CF T f) Y M=some (true,M):=by
 rw[BN (Kl hf ht),h]
def Ga (hc:c Y M=some (true,M)) (h:OkS (a Y M) (nxP (λσ1 M1=>OkS (g σ1 M1) P) P)):OkS (zM (sIf c a b) g Y M) P:=by
 rw[zI,De];calc zF hc ?_;rw[AD rfl];calc h
def CK (hf:f Y M=some (.dat d,M)) (h:P (.ret d) Y M):OkS (Ae f Y M) P:=by
 rw[E9];calc zF hf h
def Pl:Nat->D->Prop
 |0,d=>(Dj d).isSome=true
 |n+1,d=>(Dj d).isSome=true \/ ∃ ds,d=.tup ds/\ds.length<=sizeLine /\ ∀ x∈ds,Pl n x
def Pl.int (n:Nat) (i:Int):Pl n (.int i):=by ext n;calc rfl;calc .inl rfl
def Pl.tup (hz:ds.length<=100000) (h:∀ x∈ds,Pl n x):Pl (n+1) (.tup ds):=.inr ⟨ds,rfl,zg hz,h⟩
def Pl.ints {c:Ye} (hz:c.length<=100000):Pl 1 (.tup (c.map D.int)):=Pl.tup (~~~hz) λx hx=>by let⟨i,_,rfl⟩:=Af.mp hx;calc Pl.int 0 i
def KQ (h:(Dj d).isSome=true):kEq (.dat d) (.dat d) M=some (.dat (.bl true),M):=by
 cases d with
 |tup _=>ext h
 |ref _=>ext h
 |fn _ _=>ext h
 |non=>rfl
 |bl k=>cases k <;> rfl
 |int i=>show some (EV.dat (.bl (decide (V.int i=V.int i))),M)=_;simp
 |str x=>show some (EV.dat (.bl (decide (V.str x=V.str x))),M)=_;simp
def He (hf:f Y M=some (.dat (.bl true),M)) (hg:g Y M=some (.dat (.bl true),M)):ED f g Y M=some (.dat (.bl true),M):=by
 erw[ED];rw[hf];calc hg
def Rm (hf:f Y M=some (.dat (.bl false),M)):HG f Y M=some (.dat (.bl true),M):=by
 erw[HG];rw[hf];rfl
def Sa:∀ (n:Nat) (d:D) (M:Mem),Pl n d->Ef (n+1) [d,d] M=some (.bl true,M):=by
 intro n;let sc:∀ (n:Nat) (d:D) (M:Mem),(Dj d).isSome=true->Ef (n+1) [d,d] M=some (.bl true,M):=by
  intro n d M hs;calc zW ?_;erw[Ef];rw[B3];erw[Iq];cases d with
  |tup _=>ext hs
  |ref _=>ext hs
  |fn _ _=>ext hs
  |non=>
   calc C5 (isF rfl rfl ()) ?_;calc Ga (BN (zH rfl rfl rfl)) (CK (zH rfl rfl rfl) ⟨rfl,rfl⟩)
  |bl k=>
   calc C5 (isF rfl rfl ()) (C5 (BN (zH rfl rfl rfl)) ?_);calc Ga (Ih rfl rfl ()) (CK (He (isV rfl rfl ()) (zH rfl rfl (KQ rfl))) ⟨rfl,rfl⟩)
  |str x=>
   calc C5 (isF rfl rfl ()) (C5 (BN (zH rfl rfl rfl)) (C5 (isF rfl rfl ()) ?_));calc Ga (Ih rfl rfl ()) (CK (He (isV rfl rfl ()) (zH rfl rfl (KQ rfl))) ⟨rfl,rfl⟩)
  |int i=>
   calc C5 (isF rfl rfl ()) (C5 (BN (zH rfl rfl rfl)) (C5 (isF rfl rfl ()) (C5 (isF rfl rfl ()) ?_)));exact CK (He (isV rfl rfl ()) (He (Rm (isV rfl rfl ())) (zH rfl rfl (KQ rfl)))) ⟨rfl,rfl⟩
 induction n with
 |zero=>exact λd M h=>sc 0 d M h
 |succ n ih=>
  intro d M h;rcases h with h|⟨ds,rfl,hz,h⟩
  .exact sc (n+1) d M h
  calc zW ?_;erw[Ef];rw[B3];erw[Iq];refine Ga (Ih rfl rfl ()) (C5 ?_ ?_)
  .refine zW (Qy.mpr (Ql.mpr (zF (Ih rfl rfl ()) ?_)));rw[AE ()];calc Hh.mpr (zF (zH (GK rfl Dq) (GK rfl Dq) (zW (Hf.mpr ⟨rfl,rfl⟩))) ?_);rw[IH];simp
  .rw[E9];refine Ew.mpr (E2.mpr (EU.mpr ⟨(ds.zip ds).map λq=>D.tup [q.1,q.2],none,M,rfl,?_,?_⟩))
   .rw[AI,List.length_zip];omega
   .refine Ok.mono (GU (I:=λr acc M'=>M'=M/\(∃ rest:List D,r=(rest.zip rest).map (λq=>D.tup [q.1,q.2]) /\ ∀ x∈rest,Pl n x) /\ ∃ k:Nat,acc=(List.replicate k true).map D.bl) (Q:=λacc M'=>M'=M /\ ∃ k:Nat,acc=(List.replicate k true).map D.bl) ?_ ?_ _ [] _ ⟨rfl,⟨ds,rfl,h⟩,0,rfl⟩) ?_
    .rintro x r acc M' ⟨rfl,⟨rest,hr,hp⟩,k,rfl⟩;cases rest with
     |nil=>ext hr
     |cons y rest=>
      rw[List.zip_cons_cons,Ad]at hr;let⟨rfl,rfl⟩:=List.cons.inj hr;calc ⟨CU,_,rfl,KP.mpr ?_⟩;rw[AD rfl];calc zF (DX (BL rfl (Ac rfl)) (ih y M' (hp y Az))) ?_;rw[zJ];exact ⟨rfl,⟨rest,rfl,λz hz=>hp z (Ay _ hz)⟩,k+1,by rw[List.replicate_succ',CD];rfl⟩
    .rintro acc M' ⟨rfl,_,hk⟩;exact ⟨CU,rfl,hk⟩
    .rintro ys M' ⟨rfl,k,hk⟩;rw[List.nil_append]at hk;subst hk;calc Ep.mpr ((MD NC (JP _)).mpr ?_);rw[zJ];calc ⟨?_,rfl⟩;simp
def HU {α:Type} (as:List α) (enc out:α->D) (hi:fi Y M=some (as.map enc,gd,M)) (hgd:CO gd (as.map enc) M) (hz:as.length<=100000)
  (he:∀ a∈as,∃ σ1,g (enc a) (EO own Y)=some σ1/\te σ1 M=some (.dat (out a),M)):Ap own fi g B2 te Y M=some (.fl (as.map out),M):=by
 calc zW (EU.mpr ⟨_,_,_,hi,by rw[AI];calc zg hz,?_⟩);refine Ok.mono (GU (I:=λr acc M'=>M'=M /\ ∃ ra rb:List α,as=rb++ra/\r=ra.map enc/\acc=rb.map out) (Q:=λacc M'=>M'=M/\acc=as.map out) ?_ ?_ _ [] _ ⟨rfl,as,[],rfl,rfl,rfl⟩) ?_
 .rintro x r acc M' ⟨rfl,ra,rb,hab,hr,rfl⟩;cases ra with
  |nil=>ext hr
  |cons a ra=>
   rw[Ad]at hr;let⟨rfl,rfl⟩:=List.cons.inj hr;let⟨σ1,e1,e2⟩:=he a (by rw[hab];simp);calc ⟨hgd,σ1,e1,KP.mpr ?_⟩;rw[AD rfl];calc zF e2 ?_;rw[zJ];exact ⟨rfl,ra,rb++[a],by rw[hab];simp,rfl,by simp⟩
 .rintro acc M' ⟨rfl,ra,rb,hab,hr,rfl⟩;cases ra with
  |nil=>rw[C1]at hab;subst hab;calc ⟨hgd,rfl,rfl⟩
  |cons a ra=>ext hr
 .rintro ys M' ⟨rfl,h⟩;rw[List.nil_append]at h;subst h;calc ⟨rfl,rfl⟩
def EZ (hf:f Y M=some (x,M)) (h:zu M x=some xs):fB Bu (zQ f zn) Y M=some (.dat (.tup xs),M):=by
 erw[fB,zQ,zn];rw[hf];calc zW ((Rn h).mpr ⟨rfl,rfl⟩)
def Dw (hf:f Y M=some (.dat (.tup xs),M)):Ai f Y M=some (xs,none,M):=FJ hf Dq
def FP (hf:f Y M=some (.dat d,M)) (h:OkS (g (Y.set i (some d)) M) P):OkS (zM (AO i f) g Y M) P:=by
 rw[zI,zY];exact zF hf h
open ST
def ris (xs:Ye):List Int:=zX (zV xs)
def Vd (xs:Ye) (x:Int):x∈ris xs ↔ x∈xs:=by
 erw[ris];rw[(zo _).mem_iff,K5]
def Se (xs:Ye):(ris xs).Pairwise (· < ·):=by
 let h1:=E4 (zV xs);let h2:(ris xs).Nodup:=(zo _).nodup_iff.mpr (Oo xs);unfold ris at h2 ⊢;exact (h1.and h2).imp λ{a b} h=>by have:=h.1;have:=h.2;omega
def NX (xs:Ye):(ris xs).length<=xs.length:=by
 erw[ris];rw[(zo _).length_eq];calc Fp xs
def YK (h:f Y M=some (x,M)) (hx:zu M x=some (ks.map D.int)) (hz:(zV ks).length<=4000):FK f Y M=some (zV ks,M):=by
 erw[FK];rw[h];dsimp only;rw[hx];dsimp only;rw[E6];dsimp only;rw[AD (by erw[scanBound];omega)]
def Qh (h:f Y M=some (x,M)) (hx:zu M x=some (ks.map D.int)) (hz:ks.length<=4000):FK f Y M=some (zV ks,M):=YK h hx (An (Fp ks) hz)
def TH (h:fz Y M=some (zV ks,M)) (hz:(zV ks).length<64):Fz fz Y M=some (.fl ((ris ks).map D.int),M):=by
 erw[Fz];rw[h];dsimp only;rw[AD hz];rfl
theorem KN:∀ {S:Ye} {a:Int} {n:Nat},S.Pairwise (· < ·)->(∀ x∈S,a<=x/\x<a+(n:Int))->S.length<=n
 |[],_,_,_,_=>Bh _
 |x::S,a,n,h,hm=>by
  let hx:=Eb.mp h;let⟨m0,m1⟩:=hm x Az;let hn:0<n:=()
  have:=KN (a:=x+1) (n:=(a+n-(x+1)).toNat) hx.2 λy hy=>by
   have:=hx.1 y hy;have:=(hm y (Ay _ hy)).2;omega
  simp only[Cu];omega
def tI (xs:Ye):D:=.tup (xs.map D.int)
def Y3 (h:(kvs.any λp=>decide (Ak p.1=some (.inl x)))=false):Ej Ak kvs (.inl x) (.int x) v=kvs++[(.int x,v)]:=by
 erw[Ej];rw[h];rfl
def Pk (n:Nat) (hn:n<5) (hp:Pl n d) (e1:f1 Y M=some (.dat d,M)) (e2:f2 Y M=some (.dat d,M)):zm HM (zD (toD f1) (zD (toD f2) zS)) Y M=some (.dat (.bl true),M):=by
  refine DX (BL e1 (Ac e2)) ?_;erw[HM];let up:∀ (m n:Nat) (d:D),n<=m->Pl n d->Pl m d:=by
    intro m;induction m with
    | zero => intro n d h p; have : n = 0 := by omega
              subst this;calc p
    |succ m ih=>
      intro n d h p;cases n with
      |zero=>calc .inl p
      |succ n=>
        rcases p with p|⟨ds,e,hz,p⟩
        .exact .inl p
        .exact .inr ⟨ds,e,hz,λx hx=>ih n x () (p x hx)⟩
  calc Sa 4 d M (up 4 n d () hp)
def HL (e:f Y M=some (.dat (mD zA),M)):fB BU (zQ f zn) Y M=some (.dat (.int zA.length),M):=by
 have:=GK e Dq;rw[AI]at this;calc this
def Rk (e:f Y M=some (.dat (tI xs),M)):fB BU (zQ f zn) Y M=some (.dat (.int xs.length),M):=by
 have:=GK e Dq;rw[AI]at this;calc this
def Ly {bs:List Bool} (h:f Y M=some (.fl (bs.map D.bl),M)):fB GW (zQ f zn) Y M=some (.dat (.bl (bs.all id)),M):=by
 erw[fB,zQ,zn];rw[h];calc zW ((MD NC (JP bs)).mpr ⟨rfl,rfl⟩)
def MZ {α:Type} (xs:List α) (p:α->Bool):(xs.map p).all id=xs.all p:=by rw[List.all_map];rfl
abbrev gL (k:Nat) (s:Int):MO:=.lst [.ref k,.int s]
def Qn (hk:k<N):MO.und N (gL k s)=true:=by
 show D.unds _ _=true;erw[D.unds,D.unds,D.unds,D.und];simp[hk]
structure Nw (M M':Mem) (n k:Nat):Prop where
 gen:Gen M' n k
 len:M.length<=M'.length
 fr:∀ j,j<M.length->j≠n->j≠k->M'[j]?=M[j]?
def Nw.trans {M M1 M2:Mem} {n k:Nat} (a:Nw M M1 n k) (b:Nw M1 M2 n k):Nw M M2 n k :=
 ⟨b.gen,An a.len b.len,λj h h1 h2=>(b.fr j (Ao h a.len) h1 h2).trans (a.fr j h h1 h2)⟩
def Nx.nw (x:Nx M M' n k):Nw M M' n k:=⟨x.gen,by rw[x.len];exact AF _,λj _ h1 h2=>x.fr j h1 h2⟩
def Gen.lst (h:Gen A n k) (xs:List D) (hx:D.unds A.length xs=true):Nw A (A++[.lst xs]) n k:=⟨h.app λu hu=>by
 have:u=.lst xs:=by simpa using hu
 subst this;exact FH (by simp) hx,by simp,λj hj _ _=>BI hj⟩
def Nw.setB (h:Nw M A n k) (g:Gen M n k) (hj:M.length<=j) (hu:MO.und A.length u=true):Nw M (A.set j u) n k:=by
 let⟨hn,hk⟩:=g.lt;let⟨c,s,e1,e2,r⟩:=h.gen.ex;refine ⟨⟨⟨c,s,by rw[BJ ()];calc e1,by rw[BJ ()];calc e2,r⟩,g.ne,λi v e=>?_⟩,by rw[Ck];exact h.len,λi hi h1 h2=>by rw[BJ ()];calc h.fr i hi h1 h2⟩;rw[Ck];rw[CJ]at e;cbv at e
 .split at e
  .cases e;exact hu
  .cases e
 .exact h.gen.wf i v e
def Nw.wf0 (h:Nw M M' n k) (g:Gen M n k):∀ (j:Nat) u,j<M.length->M'[j]?=some u->MO.und M.length u=true:=λj u hj e=>by
 let⟨hn,hk⟩:=g.lt;let⟨c,s,e1,e2,r⟩:=h.gen.ex;by_cases q1:j=n
 .subst q1;rw[e1]at e;ext e;exact Qn hk
 .by_cases q2:j=k
  .subst q2;rw[e2]at e;ext e;exact C4 _ _
  .rw[h.fr j hj q1 q2]at e;calc g.wf j u e
def Nw.trim (h:Nw M M' n k) (g:Gen M n k):Nw M (M'.take M.length) n k:=by
 let⟨hn,hk⟩:=g.lt;let tk:∀ j,j<M.length->(M'.take M.length)[j]?=M'[j]?:=λj hj=>List.getElem?_take_of_lt hj;let tl:(M'.take M.length).length=M.length:=by have:=h.len;rw[BY];omega
 let⟨c,s,e1,e2,r⟩:=h.gen.ex;refine ⟨⟨⟨c,s,(tk n hn).trans e1,(tk k hk).trans e2,r⟩,g.ne,λj u e=>?_⟩,(),λj hj h1 h2=>(tk j hj).trans (h.fr j hj h1 h2)⟩;let hj:j<M.length:=by have:=(AK.mp e).1;omega
 rw[tk j hj]at e;rw[tl];calc h.wf0 g j u hj e
def Nw.get (h:Nw M M' n k) (e:M[j]?=some u) (h1:j≠n) (h2:j≠k):M'[j]?=some u :=
 (h.fr j (AK.mp e).1 h1 h2).trans e
end Law
namespace Lac
open L2 L3 ST Law
def CM (h:P (.ref M.length) (M++[.lst xs])):Dh P (.fl xs) M:=h
def zj (A:Mem) (u:MO):(A++[u])[A.length]?=some u:=by simp
def Hm (h:0<b):CV (.dat (.int a)) (.dat (.int b)) M=some (.dat (.int (a % b)),M):=zW (Em.mpr ⟨h,rfl,rfl⟩)
def VN (h:f Y M=some (.dat (.ref j),M)) (hj:M[j]?=some (.lst xs)):HK f Y M=some (!xs.isEmpty,M):=by
 erw[HK];rw[h];dsimp only;rw[zf hj]
def ZZ (h:f Y M=some (.dat d,M)):toD f Y M=some (d,M):=by erw[toD];rw[h]
def J7 {g:FA} {Y:Sd} {M M1:Mem} {ds:List D} (h:g Y M=some (ds,M1)) (hz:ds.length<=100000):Bg g Y M=some (.fl ds,M1):=by
 erw[Bg];rw[h];dsimp only;rw[AD (zg hz)]
def G9 {g:FA} {Y:Sd} {M M1:Mem} {ds:List D} (h:g Y M=some (ds,M1)) (hz:ds.length<=100000):Cf g Y M=some (.dat (.tup ds),M1):=by
 erw[Cf];rw[h];dsimp only;rw[AD (zg hz)]
def Q8 {f:FE} {Y:Sd} {M M1:Mem} {xs:List D} (h:f Y M=some (.fl xs,M1)):Ai f Y M=some (xs,none,M1):=by
 erw[Ai];rw[h];rfl
def Qz (e1:f Y M=some (.dat (.int i),M)) (e2:g Y M=some (.dat (.int j),M)) (h1:0<=i) (h2:i<=90000) (h3:0<=j) (h4:j<=90000):Bd (zD (toD f) (zD (toD g) zS)) Y M=some ((List.range (j-i).toNat).map (λ(k:Nat)=>D.int (i+k)),none,M):=by
 erw[Bd];rw[BL e1 (Ac e2)];dsimp only;rw[AD ⟨(),(),(),()⟩]
def ZT (hf:f Y M=some (.dat (.int i),M)) (hg:g Y M=some (.dat (.int j),M)):fB HE (zQ f (zQ g zn)) Y M=some (.dat (.int (if j>i then j else i)),M):=by
 erw[fB,zQ,zn];rw[hf];dsimp only;rw[hg];rfl
theorem OF {α:Type} (hgd:CO gd all M) (enc out:α->D) (keep:α->Bool):∀ (as:List α),(∀ a∈as,∃ σ1,g (enc a) Y=some σ1/\tc σ1 M=some (keep a,M)/\(keep a=true->te σ1 M=some (.dat (out a),M)))->Bn g tc te Y all gd (as.map enc) M=some ((as.filter keep).map out,M)
 |[],_=>by
  rw[List.map_nil];erw[Bn];rw[AD hgd];rfl
 |a::r,h=>by
  let⟨σ1,e1,e2,e3⟩:=h a Az;let ih:=OF hgd enc out keep r λb hb=>h b (Ay _ hb);rw[Ad];erw[Bn];rw[AD hgd,e1];dsimp only;rw[e2];cases hk:keep a with
  |false=>
   dsimp only;rw[ih,List.filter_cons_of_neg (by simp[hk])]
  |true=>
   dsimp only;rw[show toD te σ1 M=some (out a,M) by erw[toD];rw[e3 hk]];dsimp only;rw[ih,List.filter_cons_of_pos hk];rfl
def JS {α:Type} {own:Yj} {fi:FI} {g:FG} {tc:FT} {te:FE} {Y:Sd} {M M1:Mem} {gd:Option (Mem->Prop)} (as:List α) (enc out:α->D) (keep:α->Bool) (hi:fi Y M=some (as.map enc,gd,M1)) (hgd:CO gd (as.map enc) M1) (hz:as.length<=100000)
  (he:∀ a∈as,∃ σ1,g (enc a) (EO own Y)=some σ1/\tc σ1 M1=some (keep a,M1)/\(keep a=true->te σ1 M1=some (.dat (out a),M1))):Ap own fi g tc te Y M=some (.fl ((as.filter keep).map out),M1) :=
 zW (EU.mpr ⟨_,_,_,hi,by rw[AI];calc zg hz,zF (OF hgd enc out keep as he) ⟨rfl,rfl⟩⟩)
def eqE:kEq (.dat (.int a)) (.dat (.int b)) M=some (.dat (.bl (decide (a=b))),M):=zW (O9.mpr ⟨rfl,rfl⟩)
def Gw:Fm (.dat (.int a)) (.dat (.int b)) M=some (.dat (.int (a-b)),M):=rfl
def OO (h1:fv Y M=some (.dat v,M)) (h2:fo Y M=some (.dat (.ref n),M)) (h3:fi Y M=some (.dat k,M)) (h4:GS M n k v=some M4) (q:P .nx Y M4):OkS (GI fv fo fi Y M) P:=by
 calc ⟨.nx,Y,M4,?_,q⟩;erw[GI,toD];rw[h1];dsimp only;rw[h2];dsimp only;rw[h3];dsimp only;rw[h4]
end Lac
namespace Lac
def gl (zA:Ya) (x:Int):List Int:=zA.getD x.toNat []
def wst (L:Ya) (m:Nat) (l:Ye):List Int:=if (m:Int)∈l then l++(L.getD m []).filter (λg=>decide (g∉l)) else l
structure Wsh (zA:Ya) (m:Nat) (L:Ya):Prop where
 len:L.length=zA.length
 nd:∀ l∈L,l.Nodup
 rg:∀ l∈L,∀ x∈l,0<=x/\x<(zA.length:Int)
 self:∀ r,r<zA.length->(r:Int)∈L.getD r []
 edge:∀ r,r<zA.length -> ∀ g∈zA.getD r [],g∈L.getD r []
 tr:∀ u v,u<zA.length->v<m->(v:Int)∈L.getD u [] -> ∀ w∈L.getD v [],w∈L.getD u []
 snd:∀ S:Int->Prop,(∀ x,0<=x->x<(zA.length:Int)->S x -> ∀ g∈gl zA x,S g) -> ∀ u,u<zA.length->S (u:Int) -> ∀ w∈L.getD u [],S w
def CT {α:Type} {L:List (List α)} (h:r<L.length):L.getD r []∈L:=by
 rw[BB,AJ h];calc Au _
def Ln {L:Ya} (h:r<L.length):(L.map f).getD r []=f (L.getD r []):=by
 rw[BB,BB,AQ,AJ h];rfl
def OZ:x∈wst L m l ↔ x∈l\/((m:Int)∈l/\x∈L.getD m []):=by
 erw[wst];by_cases h:(m:Int)∈l
 .rw[AD h,Ab,List.mem_filter];simp only[CQ];constructor
  .rintro (z|z)
   .exact .inl z
   .exact .inr ⟨h,z.1⟩
  .rintro (z|z)
   .exact .inl z
   .by_cases q:x∈l
    .exact .inl q
    .exact .inr ⟨z.2,q⟩
 .rw[AE h];calc ⟨.inl,λz=>z.elim id λy=>absurd y.1 h⟩
def T3:wst L m (L.getD m [])=L.getD m []:=by
 erw[wst];split
 .rw[List.filter_eq_nil_iff.mpr (λg hg=>by rw[CQ];calc λz=>z hg),C1]
 .rfl
def Wsh.step {zA L:Ya} (h:Wsh zA m L) (hm:m<zA.length):Wsh zA (m+1) (L.map (wst L m)):=by
 let hl:=h.len;let gm:∀ {u:Nat},u<zA.length->(L.map (wst L m)).getD u []=wst L m (L.getD u []):=λhu=>Ln ();let ins:∀ {u:Nat} {w:Int},u<zA.length->(w∈(L.map (wst L m)).getD u [] ↔ w∈L.getD u []\/((m:Int)∈L.getD u []/\w∈L.getD m [])):=λhu=>by rw[gm hu];exact OZ
 refine ⟨by rw[AI];exact hl,λl hx=>?_,λl hx x hz=>?_,λr hr=>(ins hr).mpr (.inl (h.self r hr)),λr hr g hg=>(ins hr).mpr (.inl (h.edge r hr g hg)),λu v hu hv hvu w hw=>?_,λS hS u hu su w hw=>?_⟩
 .obtain ⟨l,hl2,rfl⟩:=Af.mp hx;erw[wst];split
  .refine EX.mpr ⟨h.nd l hl2,(h.nd _ (CT ())).filter _,λa ha b hb e=>?_⟩;subst e;have:=(List.mem_filter.mp hb).2;simp only[CQ]at this;exact this ha
  .exact h.nd l hl2
 .obtain ⟨l,hl2,rfl⟩:=Af.mp hx;rcases OZ.mp hz with q|q
  .exact h.rg l hl2 x q
  .exact h.rg _ (CT ()) x q.2
 .have hvn:v<zA.length:=()
  rw[ins hu]at hvu ⊢;rw[ins hvn]at hw;by_cases vm:v=m
  .subst vm;let e1:(v:Int)∈L.getD u []:=hvu.elim id (·.1);exact .inr ⟨e1,hw.elim id (·.2)⟩
  .have hv':v<m:=()
   rcases hvu with a|⟨a,b⟩
   .rcases hw with c|⟨c,d⟩
    .exact .inl (h.tr u v hu hv' a w c)
    .exact .inr ⟨h.tr u v hu hv' a _ c,d⟩
   .rcases hw with c|⟨c,d⟩
    .exact .inr ⟨a,h.tr m v hm hv' b w c⟩
    .exact .inr ⟨a,d⟩
 .rcases (ins hu).mp hw with q|⟨q1,q2⟩
  .exact h.snd S hS u hu su w q
  .exact h.snd S hS m hm (h.snd S hS u hu su _ q1) w q2
structure Part (zA:Ya) (p:Ye):Prop where
 pw:p.Pairwise (· < ·)
 n0:0<p.length
 mem:∀ x∈p,0<=x/\x<(zA.length:Int)
 cl:∀ x∈p,∀ g∈gl zA x,g∈p
 con:∀ S:Int->Prop,(∀ x∈p,S x -> ∀ g∈gl zA x,S g) -> ∀ x∈p,S x -> ∀ y∈p,S y
section
variable {zA L:Ya}
def Wsh.gl_mem (h:Wsh zA zA.length L) (h0:0<=x) (h1:x<(zA.length:Int)) (hg:g∈gl zA x):g∈L.getD x.toNat []:=h.edge x.toNat () g hg
def Wsh.rgx (h:Wsh zA zA.length L) {x y:Int} (h0:0<=x) (h1:x<(zA.length:Int)) (hy:y∈L.getD x.toNat []):0<=y/\y<(zA.length:Int):=h.rg _ (CT (by have:=h.len;omega)) y hy
def Wsh.trx (h:Wsh zA zA.length L) (h0:0<=x) (h1:x<(zA.length:Int)) (hy:y∈L.getD x.toNat []) (hz:z∈L.getD y.toNat []):z∈L.getD x.toNat []:=by
 let⟨y0,y1⟩:=h.rgx h0 h1 hy;calc h.tr x.toNat y.toNat () () (by rw[show ((y.toNat:Nat):Int)=y by omega];calc hy) z hz
def Wsh.part (h:Wsh zA zA.length L) (hr:r<zA.length) {p:Ye} (pw:p.Pairwise (· < ·)) (hp:∀ x,x∈p ↔ x∈L.getD r []) (hb:∀ x∈p,(r:Int)∈L.getD x.toNat []):Part zA p:=by
 let hrp:(r:Int)∈p:=(hp _).mpr (h.self r hr);let er:((r:Int)).toNat=r:=()
 let mem:∀ x∈p,0<=x/\x<(zA.length:Int):=λx hx=>h.rg _ (CT (by have:=h.len;omega)) x ((hp x).mp hx);let inn:∀ x∈p,∀ y,y∈L.getD x.toNat [] ↔ y∈p:=λx hx y=>by
  let⟨x0,x1⟩:=mem x hx;constructor
  .intro hy;calc (hp y).mpr ?_;have:=h.trx (x:=(r:Int)) () () (by rw[er];calc (hp x).mp hx) hy;rw[er]at this;exact this
  .intro hy;exact h.trx x0 x1 (hb x hx) (by rw[er];calc (hp y).mp hy)
 refine ⟨pw,List.length_pos_of_mem hrp,mem,λx hx g hg=>?_,λS hS x hx sx y hy=>?_⟩
 .obtain ⟨x0,x1⟩:=mem x hx;exact (inn x hx g).mp (h.gl_mem x0 x1 hg)
 .obtain ⟨x0,x1⟩:=mem x hx;let ex:((x.toNat:Nat):Int)=x:=()
  have:=h.snd (λz=>S z/\z∈p) (λz z0 z1 ⟨sz,zp⟩ g hg=>⟨hS z zp sz g hg,(inn z zp g).mp (h.gl_mem z0 z1 hg)⟩) x.toNat () (by rw[ex];calc ⟨sx,hx⟩) y ((inn x hx y).mpr hy);calc this.1
def YC (L:Ya) (h:0<L.length):∃ r,r<L.length /\ ∀ s,s<L.length->(L.getD r []).length<=(L.getD s []).length:=by
 let key:∀ k r,r<L.length->(L.getD r []).length<=k -> ∃ r,r<L.length /\ ∀ s,s<L.length->(L.getD r []).length<=(L.getD s []).length:=by
  intro k;induction k with
  |zero=>intro r hr hk;exact ⟨r,hr,λs _=>()⟩
  |succ k ih=>
   intro r hr hk;by_cases q:∃ s,s<L.length/\(L.getD s []).length<(L.getD r []).length
   .obtain ⟨s,hs,q⟩:=q;exact ih s hs ()
   .exact ⟨r,hr,λs hs=>by
     apply Nat.le_of_not_lt;intro z;calc q ⟨s,hs,z⟩⟩
 calc key _ 0 h (AF _)
def Wsh.some (h:Wsh zA zA.length L) (h0:0<zA.length):∃ r,r<zA.length /\ ∀ x∈L.getD r [],(r:Int)∈L.getD x.toNat []:=by
 let hl:=h.len;let⟨r,hr,hm⟩:=YC L ();rw[hl]at hr;let er:((r:Int)).toNat=r:=()
 refine ⟨r,hr,λx hx=>?_⟩;let⟨x0,x1⟩:=h.rgx (x:=(r:Int)) () () (by rw[er];exact hx);let sub:∀ y∈L.getD x.toNat [],y∈L.getD r []:=λy hy=>by
  have:=h.trx (x:=(r:Int)) () () (by rw[er];calc hx) hy;rw[er]at this;exact this
 let ndx:=h.nd _ (CT (r:=x.toNat) ());let le:=hm x.toNat ();refine qz λhn=>?_;let hsub:∀ y∈L.getD x.toNat [],y∈(L.getD r []).erase (r:Int):=λy hy=>(List.mem_erase_of_ne (show y≠(r:Int)from λe=>hn (e▸hy))).mpr (sub y hy);let l1:=ndx.length_le_of_subset hsub;let l2:=List.length_pos_of_mem (h.self r hr);rw[List.length_erase_of_mem (h.self r hr)]at l1;omega
def J3 {p q:Ye} (hp:p.Pairwise (· < ·)) (hq:q.Pairwise (· < ·)) (h:∀ x,x∈p ↔ x∈q):p=q:=by
 let np:p.Nodup:=hp.imp λz=>Int.ne_of_lt z;let nq:q.Nodup:=hq.imp λz=>Int.ne_of_lt z;calc ((List.perm_ext_iff_of_nodup np nq).mpr h).eq_of_pairwise (λa b _ _ h1 h2=>absurd (Int.lt_trans h1 h2) (Int.lt_irrefl _)) hp hq
def Part.apart (hp:Part zA p) (hq:Part zA q) (h1:x∈p) (h2:x∈q):p=q:=by
 refine J3 hp.pw hq.pw λy=>⟨λhy=>?_,λhy=>?_⟩
 .exact hp.con (· ∈ q) (λz _ sz g hg=>hq.cl z sz g hg) x h1 h2 y hy
 .exact hq.con (· ∈ p) (λz _ sz g hg=>hp.cl z sz g hg) x h2 h1 y hy
structure Phs (zA:Ya) (p:Ye) (b:Int) (φ:Int->Int):Prop where
 b1:1<=b
 rg:∀ x∈p,0<=φ x/\φ x<b
 st:∀ x∈p,∀ g∈gl zA x,φ g=(φ x+1) % b
def Phs.all (hP:Part zA p) (h:Phs zA p b φ) (hg:∀ x∈p,gl zA x≠[]) (z0:0<=z) (z1:z<b):∃ x∈p,φ x=z:=by
 let b1:=h.b1;let nx:∀ z,(∃ x∈p,φ x=z) -> ∃ x∈p,φ x=(z+1) % b:=by
  rintro z ⟨x,hx,rfl⟩;let⟨g,hgm⟩:=List.exists_mem_of_ne_nil _ (hg x hx);exact ⟨g,hP.cl x hx g hgm,h.st x hx g hgm⟩
 let⟨x,hx⟩:=List.exists_mem_of_ne_nil p (by have:=hP.n0;intro e;rw[e]at this;simp at this);let⟨r0,r1⟩:=h.rg x hx;let many:∀ k:Nat,∃ y∈p,φ y=(φ x+(k:Int)) % b:=by
  intro k;induction k with
  |zero=>calc ⟨x,hx,by rw[Int.emod_eq_of_lt () ()];simp⟩
  |succ k ih=>
   let⟨y,hy,e⟩:=nx _ ih;calc ⟨y,hy,e.trans ?_⟩;rw[Int.emod_add_emod];congr 1;omega
 let⟨y,hy,e⟩:=many (z+b-φ x).toNat;calc ⟨y,hy,e.trans ?_⟩;rw[show φ x+(((z+b-φ x).toNat:Nat):Int)=z+b by omega,Int.add_emod_right,Int.emod_eq_of_lt z0 z1]
end
open L2 L3 ST Law
def JZ:FS:=(zM (AO 5 (fOp CV (fOp BE (fOp Fm (zC 4) (zC 1)) (fC (.int 1))) (zC 3)))
  (Ae (fOp BE (fOp BE (zC 1) (zC 5)) (fOp Ff (zC 3) (zm zk (zD (toD (zC 0)) (zD (toD (fOp BE (fOp E3 (fOp Fm (fOp Fm (zC 2) (fC (.int 1))) (zC 5)) (zC 3)) (fC (.int 1)))) zS)))))))
def HY:FF:=BA 6 JZ
def Kn:FS:=(zM (AO 3 (fOp BE (fC (.int 1)) (zm zk (zD (toD (zC 0)) (zD (toD (zC 1)) zS)))))
  (zM (AO 4 (fOp BE (fC (.int 1)) (zm zk (zD (toD (zC 0)) (zD (toD (zC 2)) zS)))))
  (zM (AO 5 (fB DD (zQ (Bg (zD (toD (fC (.int 0))) (zD (toD (zm zk (zD (toD (zC 0)) (zD (toD (fOp BE (zC 3) (fC (.int 1)))) zS)))) (zD (toD (zm zk (zD (toD (zC 0)) (zD (toD (fOp BE (zC 3) (fC (.int 1)))) zS)))) (zD (toD (zC 3)) zS))))) zn)))
  (zM (AO 6 (zm zk (zD (toD (zC 0)) (zD (toD (fC (.int 2))) zS))))
  (zM (AO 7 (Bg zS))
  (zM (BO (Bd (zD (toD (fC (.int 3))) zS)) (gN 8) (zM (AO 9 (fOp Fm (fOp kIx (zC 5) (fOp BE (zC 8) (fC (.int 1)))) (fOp kIx (zC 5) (zC 8))))
  (zM (AO 10 (fOp BE (fC (.int 1)) (zm zk (zD (toD (zC 0)) (zD (toD (fB HE (zQ (fC (.int 1)) (zQ (zC 9) zn)))) zS)))))
  (BO (Bd (zD (toD (fOp kIx (zC 5) (zC 8))) (zD (toD (fOp kIx (zC 5) (fOp BE (zC 8) (fC (.int 1))))) zS))) (gN 11) (zM (AO 12 (Ap [13] (Bd (zD (toD (zC 4)) zS)) (gN 13) B2 (zm HY (zD (toD (zC 0)) (zD (toD (fOp kIx (zC 5) (zC 8))) (zD (toD (zC 9)) (zD (toD (zC 10)) (zD (toD (zC 11)) zS))))))))
  (zM (sIf (Dd (tst (fOp kEq (zC 8) (fC (.int 2)))) (tst (fOp kEq (zC 6) (fC (.int 1))))) (AO 12 (Ap [13] (Bd (zD (toD (zC 4)) zS)) (gN 13) B2 (zm zk (zD (toD (zC 0)) (zD (toD (zC 3)) zS))))) Bw)
  (C8 (fM C0 (zC 7) (zD (toD (fB Bu (zQ (fB DD (zQ (zC 12) zn)) zn))) zS)))))))))
  (Ae (fB Bu (zQ (zC 7) zn)))))))))
def G8:FF:=HF (BA 14 Kn)
def Ek (I:Nat->Sd->Mem->Prop) (hg:∀ t Y M,I t Y M->CO gd all M)
  (hs:∀ t x Y M,xs[t]?=some x->I t Y M -> ∃ σ1,g x Y=some σ1/\OkS (b σ1 M) λo σ2 M2=>match o with|.nx=>I (t+1) σ2 M2|.cnt=>I (t+1) σ2 M2|.brk=>P .nx σ2 M2|.ret d=>P (.ret d) σ2 M2)
  (he:∀ Y M,I xs.length Y M->P .nx Y M) (Y:Sd) (M:Mem) (h0:I 0 Y M):OkS (Cy g b all gd xs Y M) P:=by
 refine Gm (I:=λr Y M=>∃ t,r=xs.drop t/\t<=xs.length/\I t Y M) ?_ ?_ _ _ _ ⟨0,rfl,Bh _,h0⟩
 .rintro x r Y M ⟨t,e,ht,hI⟩;let hx:xs[t]?=some x:=by
   have:=BC (·[0]?) e;simpa using this.symm
  let hr:r=xs.drop (t+1):=by
   have:=BC (List.drop 1) e;simpa using this
  let hlt:=(AK.mp hx).1;let⟨σ1,e1,q⟩:=hs t x Y M hx hI;calc ⟨hg t Y M hI,σ1,e1,OkS.mono q ?_⟩;intro o σ2 M2 z;cases o with
  |nx=>calc ⟨t+1,hr,hlt,z⟩
  |cnt=>calc ⟨t+1,hr,hlt,z⟩
  |brk=>calc z
  |ret d=>exact z
 .rintro Y M ⟨t,e,ht,hI⟩;have:t=xs.length:=by
   have:=BC List.length e;rw[D0]at this;simp at this;omega
  subst this;calc ⟨hg _ Y M hI,he Y M hI⟩
def Kh (hf:f Y M=some (x,M)) (hx:zu M x=some (ks.map D.int)) (hz:ks.length<64):fB DD (zQ f zn) Y M=some (.fl ((zX ks).map D.int),M):=by
 erw[fB,zQ,zn];rw[hf];show DD [x] M=_;erw[DD];dsimp only;rw[hx];dsimp only;rw[E6];dsimp only;rw[AD hz]
def D1:BE (.dat (.int i)) (.dat (.int j)) M=some (.dat (.int (i+j)),M):=zW (D7.mpr ⟨rfl,rfl⟩)
def SH (h:0<j/\j<1073741824):E3 (.dat (.int i)) (.dat (.int j)) M=some (.dat (.int (i / j)),M):=zW (KO.mpr ⟨h,rfl,rfl⟩)
def WD (h:Gen M n k) (b1:1<=beat) (bm:beat<=many) (hm:many<=1000):Ok (HY [.ref n,.int low,.int many,.int beat,.int room] M) λd M'=>(∃ v,d=.int v/\low<=v/\v<low+many)/\Nx M M' n k:=by
 erw[HY];rw[B3];erw[JZ];calc FP (zH (zH (zH rfl rfl Gw) rfl D1) rfl (Hm ())) ?_;let f0:0<=(room-low+1) % beat:=Int.emod_nonneg _ ();let f1:=EA (room-low+1) (show 0<beat by omega);generalize (room-low+1) % beat=first at f0 f1
 rw[E9];let d0:0<=(many-1-first) / beat:=Int.ediv_nonneg () ();let d1:(many-1-first) / beat<=many-1-first:=Int.ediv_le_self _ ()
 refine Al.mpr (zF (zH rfl rfl D1) (Al.mpr (zq.mpr ⟨_,rfl,EH h rfl (zH (zH (zH (zH rfl rfl Gw) rfl Gw) rfl (SH ())) rfl D1) () () λv M' v0 v1 nx=>Ir.mpr ⟨?_,D7.mpr ?_⟩⟩)))
 .unfold Fb;simp;omega
 .have e:beat*v<=many-1-first:=by
   let h1:v<=(many-1-first) / beat:=()
   let h2:=Int.mul_le_mul_of_nonneg_left h1 (show 0<=beat by omega);let h3:=Int.mul_ediv_self_le (x:=many-1-first) (k:=beat) ();omega
  let e0:0<=beat*v:=Int.mul_nonneg () v0;rw[zJ];calc ⟨⟨_,rfl,(),()⟩,nx⟩
def Sr (a0:0<=a) (a1:a<=R) (b0:0<=b) (b1:b<=R):∃ c1 c2,zX [0,a,b,R]=[0,c1,c2,R]/\0<=c1/\c1<=c2/\c2<=R:=by
 let key:∀ c1 c2:Int,[0,a,b,R].Perm [0,c1,c2,R]->0<=c1->c1<=c2->c2<=R->zX [0,a,b,R]=[0,c1,c2,R]:=λc1 c2 hp h0 h1 h2=>by
  refine ((zo _).trans hp).eq_of_pairwise (λx y _ _ hx hy=>Int.le_antisymm hx hy) (E4 _) ?_;simp;omega
 rcases Int.le_total a b with h|h
 .exact ⟨a,b,key a b (.refl _) a0 h b1,a0,h,b1⟩
 .exact ⟨b,a,key b a (.cons _ (.swap _ _ _)) b0 h a1,b0,h,a1⟩
def GZ (zA:Ya):D.unds n (zA.map tI)=true:=Gq λx hx=>by
 let⟨r,_,rfl⟩:=Af.mp hx;calc EY r
def Ol (ha:a Y M=some (k1,M)) (hb:b Y M=some (k2,M)):Dd a b Y M=some (k1&&k2,M):=by
 erw[Dd];rw[ha];ext k1
 .rfl
 .exact hb
def Sj (h:Gen M n k):Ok (G8 [.ref n,.int 26,.int 6] M) λd M'=>∃ zA l,d=mD zA/\IsM zA l/\zA.length<=26/\l<=6/\Nw M M' n k/\M'.length=M.length:=by
 let⟨hn,hk⟩:=h.lt;erw[G8];refine Zw ?_;rw[B3];erw[Kn];show OkS (zM _ _ [some (.ref n),some (.int 26),some (.int 6),none,none,none,none,none,none,none,none,none,none,none] M) _;rw[zI,zY];refine Al.mpr (Ar.mpr (EH h rfl rfl () () λR0 M1 r0 r1 nx1=>D7.mpr ?_));rw[zJ,zN,zI,zY];refine Al.mpr (Ar.mpr (EH nx1.gen rfl rfl () () λW0 M2 w0 w1 nx2=>D7.mpr ?_));rw[zJ,zN,zI,zY];generalize eR:1+R0=R;generalize eW:1+W0=W;show Ok (fB _ _ [some (.ref n),some (.int 26),some (.int 6),some (.int R),some (.int W),none,none,none,none,none,none,none,none,none] M2) _;let hR:∀ A:Mem,fOp BE (zC 3) (fC (.int 1)) [some (.ref n),some (.int 26),some (.int 6),some (.int R),some (.int W),none,none,none,none,none,none,none,none,none] A=some (.dat (.int (R+1)),A):=λA=>zH (x:=.dat (.int R)) rfl rfl D1;refine Ew.mpr (E2.mpr (En.mpr (D2.mpr (CN.mpr (Ar.mpr (zJ.mpr (D2.mpr (CN.mpr (EH nx2.gen rfl (hR _) () () λa M3 a0 a1 nx3=>zJ.mpr (D2.mpr (CN.mpr (EH nx3.gen rfl (hR _) () () λb M4 b0 b1 nx4=>zJ.mpr (D2.mpr (CN.mpr (zq.mpr ⟨_,rfl,zJ.mpr (D4.mpr ⟨zg (by simp),Ep.mpr ?_⟩)⟩)))))))))))))));let⟨c1,c2,ec,c10,c12,c2R⟩:=Sr (R:=R) a0 () b0 ();let es:DD [.fl [.int 0,.int a,.int b,.int R]] M4=some (.fl ([0,c1,c2,R].map D.int),M4):=by
  have:=Kh (f:=λ_ _=>some (.fl ([0,a,b,R].map D.int),M4)) (Y:=[]) (M:=M4) (x:=.fl ([0,a,b,R].map D.int)) (ks:=[0,a,b,R]) rfl DV (by simp);rw[ec]at this;exact this
 calc zF es (CM ?_);let nw4:=(((nx1.trans nx2).trans nx3).trans nx4).nw;let lp:M.length<=M4.length:=nw4.len;let nw5:=nw4.trans (nw4.gen.lst ([0,c1,c2,R].map D.int) (C4 _ _));let e5:(M4++[MO.lst ([0,c1,c2,R].map D.int)])[M4.length]?=some (.lst ([0,c1,c2,R].map D.int)):=zj _ _;generalize M4++[MO.lst ([0,c1,c2,R].map D.int)]=M5 at nw5 e5;generalize M4.length=p at lp e5;rw[zN,zI,zY];refine EH nw5.gen rfl rfl () () λF M6 F0 F1 nx6=>?_;let nw6:=nw5.trans nx6.nw;let e6:=nx6.nw.get e5 () ();rw[zJ,zN,zI,zY];calc En.mpr (D4.mpr ⟨zg (by simp),CM ?_⟩);let nw7:=nw6.trans (nw6.gen.lst [] rfl);let lp2:p<M6.length:=(AK.mp e6).1;let lq:M.length<=M6.length:=nw6.len;let e7:=(nw6.gen.lst [] rfl).get e6 () ();let e7':(M6++[MO.lst ([]:List D)])[M6.length]?=some (.lst (([]:List (List Int)).map tI)):=zj _ _;generalize M6++[MO.lst ([]:List D)]=M7 at nw7 e7 e7';generalize M6.length=q at lp2 lq e7';rw[zN];show OkS (zM _ _ [some (.ref n),some (.int 26),some (.int 6),some (.int R),some (.int W),some (.ref p),some (.int F),some (.ref q),none,none,none,none,none,none] M7) _;rw[zI,Co];calc ⟨_,_,_,D6 (j:=3) rfl () (),?_⟩;refine Gs (n:=3) (I:=λt Y A=>(∃ y8 y9 y10 y11 y12 y13,Y=[some (.ref n),some (.int 26),some (.int 6),some (.int R),some (.int W),some (.ref p),some (.int F),some (.ref q),y8,y9,y10,y11,y12,y13])/\Nw M A n k/\A[p]?=some (.lst ([0,c1,c2,R].map D.int)) /\ ∃ zA:List (List Int),A[q]?=some (.lst (zA.map tI))/\(zA.length:Int)=[0,c1,c2,R].getD t 0 /\ ∀ r∈zA,r.length=W.toNat /\ ∀ g∈r,0<=g/\g<R) ?_ ?_ _ _ ⟨⟨_,_,_,_,_,_,rfl⟩,nw7,e7,[],e7',rfl,λ_ h=>by ext h⟩
 .rintro t Y A ht ⟨⟨y8,y9,y10,y11,y12,y13,rfl⟩,nw,ep,zA,eq,hrl,hrow⟩;refine ⟨_,rfl,?_⟩;let cu:∃ u v:Int,[0,c1,c2,R].getD t 0=u/\[0,c1,c2,R].getD (t+1) 0=v/\0<=u/\u<=v/\v<=R:=by
   calc ⟨_,_,rfl,rfl,?_⟩;rcases (show t=0\/t=1\/t=2 by omega)with rfl|rfl|rfl
   .exact ⟨Int.le_refl 0,c10,Int.le_trans c12 c2R⟩
   .exact ⟨c10,c12,c2R⟩
   .exact ⟨Int.le_trans c10 c12,c2R,Int.le_refl _⟩
  let⟨u,v,eu,ev,u0,uv,vR⟩:=cu;let iu:∀ (Y:Sd) (A:Mem),A[p]?=some (.lst ([0,c1,c2,R].map D.int))->Y[5]?=some (some (.ref p))->Y[8]?=some (some (.int (t:Nat)))->fOp kIx (zC 5) (zC 8) Y A=some (.dat (.int u),A):=λY A ep s5 s8=>by
   calc zH (by erw[zC];rw[s5]) (by erw[zC];rw[s8]) (Du (zf ep) ?_);rw[OJ () (by simp;omega),Bj,eu]
  let iv:∀ (Y:Sd) (A:Mem),A[p]?=some (.lst ([0,c1,c2,R].map D.int))->Y[5]?=some (some (.ref p))->Y[8]?=some (some (.int (t:Nat)))->fOp kIx (zC 5) (fOp BE (zC 8) (fC (.int 1))) Y A=some (.dat (.int v),A):=λY A ep s5 s8=>by
   calc zH (by erw[zC];rw[s5]) (zH (by erw[zC];rw[s8]) rfl D1) (Du (zf ep) ?_);rw[OJ () (by simp;omega),show ((t:Nat)+1:Int).toNat=t+1 by omega,ev]
  show OkS (zM _ _ [some (.ref n),some (.int 26),some (.int 6),some (.int R),some (.int W),some (.ref p),some (.int F),some (.ref q),some (.int (t:Nat)),y9,y10,y11,y12,y13] A) _;calc FP (zH (iv _ _ ep rfl rfl) (iu _ _ ep rfl rfl) Gw) ?_;rw[zI,zY];let hmx:(if v-u>1 then v-u else 1)<=26/\1<=(if v-u>1 then v-u else 1)/\(u<v->(if v-u>1 then v-u else 1)=v-u):=by split <;> omega
  refine Al.mpr (Ar.mpr (EH nw.gen rfl (ZT (j:=v-u) rfl rfl) () () λB0 A1 B00 B01 nx8=>D7.mpr ?_));rw[zJ,zN];generalize eB:1+B0=B;let nw8:=nw.trans nx8.nw;let ep1:=nx8.nw.get ep () ();let eq1:=nx8.nw.get eq () ();show OkS (BO _ _ _ [some (.ref n),some (.int 26),some (.int 6),some (.int R),some (.int W),some (.ref p),some (.int F),some (.ref q),some (.int (t:Nat)),some (.int (v-u)),some (.int B),y11,y12,y13] A1) _;rw[Co];calc ⟨_,_,_,Qz (iu _ _ ep1 rfl rfl) (iv _ _ ep1 rfl rfl) () () () (),?_⟩;rw[eu]at hrl;refine Ek (gd:=none) (I:=λs Y A=>(∃ y11 y12 y13,Y=[some (.ref n),some (.int 26),some (.int 6),some (.int R),some (.int W),some (.ref p),some (.int F),some (.ref q),some (.int (t:Nat)),some (.int (v-u)),some (.int B),y11,y12,y13])/\Nw M A n k/\A[p]?=some (.lst ([0,c1,c2,R].map D.int)) /\ ∃ zA:List (List Int),A[q]?=some (.lst (zA.map tI))/\(zA.length:Int)=u+(s:Int) /\ ∀ r∈zA,r.length=W.toNat /\ ∀ g∈r,0<=g/\g<R) (λ_ _ _ _=>trivial) ?_ ?_ _ _ ⟨⟨_,_,_,rfl⟩,nw8,ep1,zA,eq1,(),hrow⟩
  .rintro s x Y A ex ⟨⟨y11,y12,y13,rfl⟩,nw,ep,zA,eq,hrl,hrow⟩;let hs:s<(v-u).toNat:=by
    have:=(AK.mp ex).1;rw[AI,Di]at this;exact this
   rw[AQ,Eu hs]at ex;ext ex;calc ⟨_,rfl,?_⟩;let hBm:B<=v-u:=by have:=hmx.2.2 ();omega
   let fin:∀ (A':Mem) (z:Nat) (c:Ye) (y13:Option D),Nw A A' n k->A'[z]?=some (.lst (c.map D.int))->c.length=W.toNat->(∀ g∈c,0<=g/\g<R)->OkS (C8 (fM C0 (zC 7) (zD (toD (fB Bu (zQ (fB DD (zQ (zC 12) zn)) zn))) zS)) [some (.ref n),some (.int 26),some (.int 6),some (.int R),some (.int W),some (.ref p),some (.int F),some (.ref q),some (.int (t:Nat)),some (.int (v-u)),some (.int B),some (.int (u+(s:Int))),some (.ref z),y13] A') λo σ2 M2=>match o with
     |.nx=>(∃ y11 y12 y13,σ2=[some (.ref n),some (.int 26),some (.int 6),some (.int R),some (.int W),some (.ref p),some (.int F),some (.ref q),some (.int (t:Nat)),some (.int (v-u)),some (.int B),y11,y12,y13])/\Nw M M2 n k/\M2[p]?=some (.lst ([0,c1,c2,R].map D.int)) /\ ∃ zA:List (List Int),M2[q]?=some (.lst (zA.map tI))/\(zA.length:Int)=u+((s+1:Nat):Int) /\ ∀ r∈zA,r.length=W.toNat /\ ∀ g∈r,0<=g/\g<R
     |_=>False:=by
    intro A' z c y13 nw' ez hc hcr;let ep':=nw'.get ep () ();let eq':=nw'.get eq () ();rw[GA];calc GF.mpr (zq.mpr ⟨_,rfl,⟨_,Eg eq'⟩,?_⟩);calc zF (Ac (d:=tI (zX c)) (EZ (Kh (x:=.dat (.ref z)) rfl (zf ez) ()) DV)) ?_;refine (HA eq' (Ao (by rw[AI];omega) (zg (n:=100) ()))).mpr ⟨⟨_,_,_,rfl⟩,(nw.trans nw').setB h lq ?_,?_,zA++[zX c],?_,by rw[BK];simp;omega,λr hr=>?_⟩
    .show D.unds _ _=true;rw[Kk,GZ];show (true&&D.unds _ [tI (zX c)])=true;erw[D.unds,D.unds];rw[show D.und A'.length (tI (zX c))=true from EY _];rfl
    .rw[BJ ()];exact ep'
    .rw[Bv (AK.mp eq').1,CD];rfl
    .rcases Ab.mp hr with z|z
     .exact hrow r z
     .rw[AW.mp z];exact ⟨by rw[(zo c).length_eq];exact hc,λg hg=>hcr g ((zo c).mem_iff.mp hg)⟩
   show OkS (zM _ _ [some (.ref n),some (.int 26),some (.int 6),some (.int R),some (.int W),some (.ref p),some (.int F),some (.ref q),some (.int (t:Nat)),some (.int (v-u)),some (.int B),some (.int (u+(s:Int))),y12,y13] A) _;rw[zI,zY];calc EU.mpr ⟨_,_,_,D6 (j:=W) rfl () (),by rw[G7];calc zg (),?_⟩;refine Ok.mono (Hu (n:=W.toNat) (I:=λj acc A'=>Nx A A' n k /\ ∃ c:List Int,acc=c.map D.int/\c.length=j /\ ∀ g∈c,0<=g/\g<R) ?_ ⟨.refl nw.gen,[],rfl,rfl,λ_ h=>by ext h⟩) ?_
   .rintro j acc A' hj ⟨nx,c,rfl,hc,hcr⟩;refine ⟨_,rfl,?_⟩;refine Fn.mpr (zF (BL (d:=.ref n) rfl (BL (iu _ _ (nx.nw.get ep () ()) rfl rfl) (BL (d:=.int (v-u)) rfl (BL (d:=.int B) rfl (Ac (d:=.int (u+(s:Int))) rfl))))) (Ok.mono (WD nx.gen () hBm ()) ?_));rintro d A2 ⟨⟨w,rfl,w0,w1⟩,nx2⟩;rw[zJ];refine ⟨nx.trans nx2,c++[w],by simp,by simp[hc],λg hg=>?_⟩;rcases Ab.mp hg with z|z
    .exact hcr g z
    .rw[AW.mp z];omega
   .rintro ys A' ⟨nx,c,rfl,hc,hcr⟩;calc CM ?_;rw[zN];let nw1:=nx.nw.trans (nx.gen.lst (c.map D.int) (C4 _ _));let e1:(A'++[MO.lst (c.map D.int)])[A'.length]?=some (.lst (c.map D.int)):=zj _ _;generalize A'++[MO.lst (c.map D.int)]=A2 at nw1 e1;generalize A'.length=z at e1;show OkS (zM _ _ [some (.ref n),some (.int 26),some (.int 6),some (.int R),some (.int W),some (.ref p),some (.int F),some (.ref q),some (.int (t:Nat)),some (.int (v-u)),some (.int B),some (.int (u+(s:Int))),some (.ref z),y13] A2) _;let hcond:=Ol (a:=tst (fOp kEq (zC 8) (fC (.int 2)))) (b:=tst (fOp kEq (zC 6) (fC (.int 1)))) (Y:=[some (.ref n),some (.int 26),some (.int 6),some (.int R),some (.int W),some (.ref p),some (.int F),some (.ref q),some (.int (t:Nat)),some (.int (v-u)),some (.int B),some (.int (u+(s:Int))),some (.ref z),y13]) (M:=A2) (BN (zH (x:=.dat (.int (t:Nat))) (y:=.dat (.int 2)) rfl rfl eqE)) (BN (zH (x:=.dat (.int F)) (y:=.dat (.int 1)) rfl rfl eqE));cases hk2:(decide (((t:Nat):Int)=2)&&decide (F=1)) with
    |false=>
     rw[hk2]at hcond;calc C5 hcond (OkS.mono (fin A2 z c y13 nw1 e1 hc hcr) ?_);intro o σ2 M2 x;cases o with
     |nx=>calc x
     |_=>ext x
    |true=>
     rw[hk2]at hcond;calc Ga hcond ?_;rw[zY];calc EU.mpr ⟨_,_,_,D6 (j:=W) rfl () (),by rw[G7];calc zg (),?_⟩;refine Ok.mono (Hu (n:=W.toNat) (I:=λj acc A'=>Nx A2 A' n k /\ ∃ c:List Int,acc=c.map D.int/\c.length=j /\ ∀ g∈c,0<=g/\g<R) ?_ ⟨.refl nw1.gen,[],rfl,rfl,λ_ h=>by ext h⟩) ?_
     .rintro j acc A' hj ⟨nx,c,rfl,hc,hcr⟩;refine ⟨_,rfl,EH (m:=R) nx.gen rfl rfl () () λw A3 w0 w1 nx2=>?_⟩;rw[zJ];refine ⟨nx.trans nx2,c++[w],by simp,by simp[hc],λg hg=>?_⟩;rcases Ab.mp hg with z|z
      .exact hcr g z
      .rw[AW.mp z];omega
     .rintro ys A' ⟨nx,c,rfl,hc,hcr⟩;calc CM ?_;rw[zN];let nw2:=nw1.trans (nx.nw.trans (nx.gen.lst (c.map D.int) (C4 _ _)));let e2:(A'++[MO.lst (c.map D.int)])[A'.length]?=some (.lst (c.map D.int)):=zj _ _;calc OkS.mono (fin _ _ c _ nw2 e2 hc hcr) ?_;intro o σ2 M2 x;cases o with
      |nx=>calc x
      |_=>ext x
  .rintro Y A ⟨⟨y11,y12,y13,rfl⟩,nw,ep,zA,eq,hrl,hrow⟩;rw[AI,Di]at hrl;exact ⟨⟨_,_,_,_,_,_,rfl⟩,nw,ep,zA,eq,by rw[ev];omega,hrow⟩
 .rintro Y A ⟨⟨y8,y9,y10,y11,y12,y13,rfl⟩,nw,ep,zA,eq,hrl,hrow⟩;let hrl:(zA.length:Int)=R:=hrl;rw[zN];calc CK (d:=mD zA) (EZ (x:=.dat (.ref q)) rfl (zf eq)) ?_;refine ⟨⟨F3 zA,nw.len,λj u hj e=>nw.wf0 h j u hj e⟩,zA,W.toNat,rfl,⟨(),(),λr hr=>?_⟩,(),(),nw.trim h,by have:=nw.len;rw[BY];omega⟩;let⟨q1,q2⟩:=hrow r hr;calc ⟨q1,λg hg=>by rw[hrl];calc q2 g hg⟩
def Jg:FS:=(zM (AO 1 (Ap [2] (Bd (zD (toD (fB BU (zQ (zC 0) zn))) zS)) (gN 2) B2 (fOp FY (Bg (zD (toD (zC 2)) zS)) (Ap [3] (Ai (Fz (FK (fOp kIx (zC 0) (zC 2))))) (gN 3) (tst (fOp kNe (zC 3) (zC 2))) (zC 3)))))
  (zM (BO (Bd (zD (toD (fB BU (zQ (zC 0) zn))) zS)) (gN 4) (BO (Bd (zD (toD (fB BU (zQ (zC 0) zn))) zS)) (gN 2) (sIf (tst (fOp (kIn false) (zC 4) (fOp kIx (zC 1) (zC 2)))) (zM (AO 5 (Ap [3] (Ai (fOp kIx (zC 1) (zC 4))) (gN 3) (tst (fOp (kIn true) (zC 3) (fOp kIx (zC 1) (zC 2)))) (zC 3)))
  (ET (fOp FY (fOp kIx (zC 1) (zC 2)) (zC 5)) (zC 1) (zC 2))) Bw)))
  (Ae (zC 1))))
def Gz:FF:=BA 6 Jg
def JY:FS:=(zM (AO 1 (zm Gz (zD (toD (zC 0)) zS)))
  (zM (AO 2 (Bg zS))
  (zM (BO (Bd (zD (toD (fB BU (zQ (zC 0) zn))) zS)) (gN 3) (zM (AO 4 (fB Bu (zQ (fB DD (zQ (fOp kIx (zC 1) (zC 3)) zn)) zn)))
  (sIf (Dd (tst (fOp (GB true) (zC 4) (zC 2))) (tst (fB GW (zQ (Ap [5] (Ai (zC 4)) (gN 5) B2 (fOp (kIn false) (zC 3) (fOp kIx (zC 1) (zC 5)))) zn)))) (C8 (fM C0 (zC 2) (zD (toD (zC 4)) zS))) Bw)))
  (Ae (fB FQ (zQ (zC 2) zn))))))
def G3:FF:=BA 6 JY
def Ex (M A:Mem):Prop:=∃ us,A=M++us
def Ex.refl (M:Mem):Ex M M:=⟨[],by simp⟩
def Ex.app (h:Ex M A) (vs:Mem):Ex M (A++vs):=by let⟨us,rfl⟩:=h;calc ⟨us++vs,by simp⟩
def Ex.len (h:Ex M A):M.length<=A.length:=by let⟨us,rfl⟩:=h;simp
def Ex.set (h:Ex M A) (hp:M.length<=p) (u:MO):Ex M (A.set p u):=by
 let⟨us,rfl⟩:=h;calc ⟨us.set (p-M.length) u,by rw[List.set_append_right _ _ hp]⟩
def Ex.get {M A:Mem} (h:Ex M A) {j:Nat} {u:MO} (e:M[j]?=some u):A[j]?=some u:=by
 let⟨us,rfl⟩:=h;rw[BI (AK.mp e).1];calc e
def Dv {A:Mem} {j:Nat} {u:MO} (e:A[j]?=some u) (vs:Mem):(A++vs)[j]?=some u:=by rw[BI (AK.mp e).1];calc e
def Wf (M:Mem):Prop:=∀ (j:Nat) u,M[j]?=some u->MO.und M.length u=true
structure Ey (M A:Mem):Prop where
 ex:Ex M A
 wf:Wf M->Wf A
def Ey.refl (M:Mem):Ey M M:=⟨.refl M,id⟩
def Ey.len (h:Ey M A):M.length<=A.length:=h.ex.len
def Ey.app (h:Ey M A) (hu:MO.und (A.length+1) u=true):Ey M (A++[u]):=⟨h.ex.app _,λw j v e=>by
 rw[BK,List.length_singleton];by_cases hj:j<A.length
 .rw[BI hj]at e;exact N4 (Cq _) (h.wf w j v e)
 .rw[Dk ()]at e;have:=Ax e;rw[AW.mp this];calc hu⟩
def Ey.set (h:Ey M A) (hp:M.length<=p) (hu:MO.und A.length u=true):Ey M (A.set p u):=⟨h.ex.set hp u,λw j v e=>by
 rw[Ck];rw[CJ]at e;cbv at e
 .split at e
  .cases e;exact hu
  .cases e
 .exact h.wf w j v e⟩
def Nf {js:Yj} (h:∀ j∈js,j<n):D.unds n (js.map D.ref)=true:=Gq λx hx=>by
 let⟨j,hj,rfl⟩:=Af.mp hx;calc BF (h j hj)
def K8 {c:Ye} (h:zu M y=some (c.map D.int)):kIn neg (.dat (.int x)) y M=some (.dat (.bl (if neg then !decide (x∈c) else decide (x∈c))),M):=by
 erw[kIn];dsimp only;rw[h];dsimp only;rw[E6];have:(c.any λy=>decide (y=x))=decide (x∈c):=by
  rw[DC,List.any_eq_true,decide_eq_true_iff];exact ⟨λ⟨y,hy,e⟩=>by rw[<-By e];exact hy,λhx=>⟨x,hx,by simp⟩⟩
 dsimp only;rw[this]
def mlR (h:M[n]?=some (.lst xs)):EL M (.dat (.ref n))=some xs:=by
 erw[EL];dsimp only;rw[h]
def OI (hx:EL M x=some xs) (hy:EL M y=some ys) (hz:xs.length+ys.length<=90000):FY x y M=some (.fl (xs++ys),M):=by
 erw[FY];rw[hx,hy];dsimp only;rw[AD (zg ())]
def Lds (A:Mem) (p:Nat) (L:Ya):Prop:=∃ js:List Nat,A[p]?=some (.lst (js.map D.ref))/\js.length=L.length /\ ∀ r,r<L.length -> ∃ j,js[r]?=some j/\j≠p/\A[j]?=some (.lst ((L.getD r []).map D.int))
def Lds.app {A:Mem} {p:Nat} {L:Ya} (h:Lds A p L) (vs:Mem):Lds (A++vs) p L:=by
 let⟨js,e,hl,hj⟩:=h;calc ⟨js,Dv e vs,hl,λr hr=>let ⟨j,a,b,c⟩:=hj r hr;⟨j,a,b,Dv c vs⟩⟩
theorem Lds.at (h:Lds A p L) (x0:0<=x) (x1:x<(L.length:Int)):∃ j,kIx (.dat (.ref p)) (.dat (.int x)) A=some (.dat (.ref j),A)/\A[j]?=some (.lst ((L.getD x.toNat []).map D.int)):=by
 let⟨js,e,hl,hj⟩:=h;let⟨j,a,b,c⟩:=hj x.toNat ();calc ⟨j,Du (zf e) ?_,c⟩;have:=GN (xs:=js.map D.ref) (j:=x.toNat) (v:=.ref j) (by rw[AQ,a];rfl);rw[show ((x.toNat:Nat):Int)=x by omega]at this;calc this
def Lds.und {A:Mem} (h:Lds A p L) (e:A[p]?=some u):MO.und A.length u=true:=by
 let⟨js,e',hl,hj⟩:=h;rw[e]at e';ext e';refine Nf λj hm=>?_;let⟨r,hr,rfl⟩:=Bo hm;let⟨j',a,_,c⟩:=hj r ();rw[AJ hr]at a;ext a;calc (AK.mp c).1
def Lh {L:Ya} (ht:t<L.length):(L.set t l).getD r []=if r=t then l else L.getD r []:=by
 rw[BB,CJ];by_cases h:t=r
 .subst h;rw[AD rfl,AD ht,AD rfl];rfl
 .rw[AE h,AE λe=>h e.symm,BB]
def Lds.put {A:Mem} {L:Ya} (h:Lds A p L) {l:Ye} (ht:t<L.length) (hz:z≠p) (ez:A[z]?=some (.lst (l.map D.int))):∃ u,Fg (.dat (.ref p)) (.int (t:Nat)) (.ref z) A=some (A.set p u)/\Lds (A.set p u) p (L.set t l):=by
 let⟨js,e,hl,hj⟩:=h;let hp:=(AK.mp e).1;refine ⟨.lst ((js.set t z).map D.ref),?_,js.set t z,Bv hp,by rw[Ck,Ck];exact hl,λr hr=>?_⟩
 .unfold Fg;dsimp only;rw[e];dsimp only;rw[show ixN (js.map D.ref).length (t:Nat)=some t by erw[ixN];rw[AD (),AD (by rw[AI];omega),Bj]];dsimp only;rw[List.map_set]
 .rw[Ck]at hr;rw[Lh ht,CJ];by_cases q:t=r
  .subst q;rw[AD rfl,AD (),AD rfl];exact ⟨z,rfl,hz,by rw[BJ (λe=>hz e.symm)];calc ez⟩
  .rw[AE q,AE λe=>q e.symm];let⟨j,a,b,c⟩:=hj r hr;calc ⟨j,a,b,by rw[BJ (λe=>b e.symm)];calc c⟩
def Q5 {X YY:Ya} (h:X.length=YY.length) (e:∀ r,r<X.length->X.getD r []=YY.getD r []):X=YY:=by
 refine List.ext_getElem h λr h1 h2=>?_;have:=e r h1;rwa [BB,BB,AJ h1,AJ h2]at this
def ld0 (zA:Ya) (r:Nat):List Int:=(r:Int)::(ris (zA.getD r [])).filter λg=>decide (g≠(r:Int))
def Iv:x∈ld0 zA r ↔ x=(r:Int)\/x∈zA.getD r []:=by
 erw[ld0];rw[AL,List.mem_filter,Vd,CQ];by_cases h:x=(r:Int)
 .simp[h]
 .simp[h]
section
variable {zA:Ya} {l:Nat}
def Wsh.start (m:IsM zA l):Wsh zA 0 ((List.range zA.length).map (ld0 zA)):=by
 let gt:∀ r,r<zA.length->((List.range zA.length).map (ld0 zA)).getD r []=ld0 zA r:=λr hr=>by
  rw[BB,AQ,Eu hr];rfl
 let rg:∀ r,r<zA.length -> ∀ x∈ld0 zA r,0<=x/\x<(zA.length:Int):=λr hr x hx=>by
  rcases Iv.mp hx with z|z
  .omega
  .exact (m.row _ (CT hr)).2 x z
 refine ⟨by simp,λl hl=>?_,λl hl=>?_,λr hr=>?_,λr hr g hg=>?_,λu v _ hv=>absurd hv (Nat.not_lt_zero _),λS hS u hu su w hw=>?_⟩
 .obtain ⟨r,hr,rfl⟩:=Af.mp hl;erw[ld0];refine List.nodup_cons.mpr ⟨λh=>?_,((Se _).imp λz=>Int.ne_of_lt z).filter _⟩;have:=(List.mem_filter.mp h).2;simp at this
 .obtain ⟨r,hr,rfl⟩:=Af.mp hl;exact rg r (C3.mp hr)
 .rw[gt r hr];exact Iv.mpr (.inl rfl)
 .rw[gt r hr];exact Iv.mpr (.inr hg)
 .rw[gt u hu]at hw;rcases Iv.mp hw with z|z
  .rw[z];exact su
  .exact hS u () () su w (by erw[gl];rw[Bj];calc z)
def Hk (m:IsM zA l) (x0:0<=x) (x1:x<(zA.length:Int)) (hf:f Y A=some (.dat (mD zA),A)) (hg:g Y A=some (.dat (.int x),A)):fOp kIx f g Y A=some (.dat (tI (gl zA x)),A):=zH hf hg (Du Dq (ZJ x0 x1))
def Il (m:IsM zA l) (x0:0<=x) (x1:x<(zA.length:Int)):(gl zA x).length=l /\ ∀ g∈gl zA x,0<=g/\g<(zA.length:Int):=m.get x0 x1
def Xv (m:IsM zA l) (h26:zA.length<=26) (hl:l<=6) (M:Mem):Ok (Gz [mD zA] M) λd A=>∃ p L,d=.ref p/\Ey M A/\Lds A p L/\Wsh zA zA.length L:=by
 erw[Gz];rw[B3];erw[Jg];show OkS (zM _ _ [some (mD zA),none,none,none,none,none] M) _;rw[zI,zY];calc EU.mpr ⟨_,_,_,D6 (HL rfl) () (),by rw[G7];calc zg (),?_⟩;rw[Bj];refine Ok.mono (Hu (n:=zA.length) (I:=λi acc A=>Ey M A /\ ∃ js:List Nat,acc=js.map D.ref/\js.length=i /\ ∀ r,r<i -> ∃ j,js[r]?=some j/\j<A.length/\A[j]?=some (.lst ((ld0 zA r).map D.int))) ?_ ⟨.refl M,[],rfl,rfl,λr hr=>absurd hr (Nat.not_lt_zero _)⟩) ?_
 .rintro i acc A hi ⟨hx,js,rfl,hjl,hj⟩;refine ⟨_,rfl,?_⟩;let gln:=Il m (x:=(i:Nat)) () ();let hrow:fOp kIx (zC 0) (zC 2) [some (mD zA),none,some (.int (i:Nat)),none,none,none] A=some (.dat (tI (gl zA (i:Nat))),A):=Hk m () () rfl rfl;let hset:=Qh (ks:=gl zA (i:Nat)) hrow Dq ();let hsz:(zV (gl zA (i:Nat))).length<64:=Nat.lt_of_le_of_lt (Fp _) ();let hfil:=JS (own:=[3]) (fi:=Ai (Fz (FK (fOp kIx (zC 0) (zC 2))))) (g:=gN 3) (tc:=tst (fOp kNe (zC 3) (zC 2))) (te:=zC 3) (Y:=[some (mD zA),none,some (.int (i:Nat)),none,none,none]) (M:=A) (ris (gl zA (i:Nat))) D.int D.int (λg=>decide (g≠((i:Nat):Int))) (Q8 (TH hset hsz)) trivial (by have:=NX (gl zA (i:Nat));omega) λa ha=>⟨_,rfl,BN (zH (x:=.dat (.int a)) (y:=.dat (.int (i:Nat))) rfl rfl (zW (Hf.mpr ⟨rfl,rfl⟩))),λ_=>rfl⟩;let hfl:(((ris (gl zA (i:Nat))).filter λg=>decide (g≠((i:Nat):Int))).map D.int).length<=100:=by
   rw[AI];have:=List.length_filter_le (λg=>decide (g≠((i:Nat):Int))) (ris (gl zA (i:Nat)));have:=NX (gl zA (i:Nat));omega
  calc zF (zH (J7 (Ac (d:=.int (i:Nat)) rfl) (by simp)) hfil (OI (xs:=[.int (i:Nat)]) rfl rfl (by rw[List.length_singleton];omega))) (CM ?_);refine ⟨hx.app (C4 _ (((i:Nat):Int)::(ris (gl zA (i:Nat))).filter λg=>decide (g≠((i:Nat):Int)))),js++[A.length],by simp,by simp[hjl],λr hr=>?_⟩;by_cases q:r=i
  .subst q;calc ⟨A.length,by rw[Dk (),hjl,Nat.sub_self];rfl,by simp,?_⟩;rw[zj];erw[ld0,gl];rw[Bj];rfl
  .obtain ⟨j,a,b,c⟩:=hj r ();exact ⟨j,by rw[BI ()];calc a,by simp;omega,Dv c _⟩
 .rintro ys A ⟨hx,js,rfl,hjl,hj⟩;refine CM ?_;rw[zN];let hLd:Lds (A++[MO.lst (js.map D.ref)]) A.length ((List.range zA.length).map (ld0 zA)):=by
   refine ⟨js,zj _ _,by simp[hjl],λr hr=>?_⟩;let hr:r<zA.length:=by simpa using hr
   let⟨j,a,b,c⟩:=hj r hr;calc ⟨j,a,(),?_⟩;rw[Dv c _,BB,AQ,Eu hr];rfl
  let hx2:Ey M (A++[MO.lst (js.map D.ref)]):=hx.app (Nf λj hm=>by
   let⟨r,hr,rfl⟩:=Bo hm;let⟨j',a,b,_⟩:=hj r ();rw[AJ hr]at a;ext a;omega)
  let hp:=hx.len;generalize A++[MO.lst (js.map D.ref)]=A2 at hLd hx2;generalize A.length=p at hLd hp;show OkS (zM _ _ [some (mD zA),some (.ref p),none,none,none,none] A2) _;rw[zI,Co];calc ⟨_,_,_,D6 (HL rfl) () (),?_⟩;rw[Bj];refine Gs (n:=zA.length) (I:=λt Y A=>(∃ y2 y3 y4 y5,Y=[some (mD zA),some (.ref p),y2,y3,y4,y5])/\Ey M A /\ ∃ L,Lds A p L/\Wsh zA t L) ?_ ?_ _ _ ⟨⟨_,_,_,_,rfl⟩,hx2,_,hLd,.start m⟩
  .rintro t Y A ht ⟨⟨y2,y3,y4,y5,rfl⟩,hx,L,hLd,hW⟩;let hWl:=hW.len;let ll:∀ r,r<zA.length->(L.getD r []).length<=26:=λr hr=>by
    let h1:=(hW.nd _ (CT (L:=L) (r:=r) ())).length_le_of_subset (l₂:=(List.range zA.length).map λ(k:Nat)=>(k:Int)) λx hx=>by
     let⟨x0,x1⟩:=hW.rg _ (CT (L:=L) (r:=r) ()) x hx;exact Af.mpr ⟨x.toNat,C3.mpr (),()⟩
    rw[AI,Di]at h1;omega
   calc ⟨_,rfl,?_⟩;show OkS (BO _ _ _ [some (mD zA),some (.ref p),y2,y3,some (.int (t:Nat)),y5] A) _;rw[Co];calc ⟨_,_,_,D6 (HL rfl) () (),?_⟩;rw[Bj];refine Gs (n:=zA.length) (I:=λs Y A=>(∃ y2 y3 y5,Y=[some (mD zA),some (.ref p),y2,y3,some (.int (t:Nat)),y5])/\Ey M A /\ ∃ Lc:List (List Int),Lds A p Lc/\Lc.length=zA.length /\ ∀ r,r<zA.length->Lc.getD r []=if r<s then wst L t (L.getD r []) else L.getD r []) ?_ ?_ _ _ ⟨⟨_,_,_,rfl⟩,hx,L,hLd,hW.len,λr _=>(AE (Nat.not_lt_zero _)).symm⟩
   .rintro s Y A hs ⟨⟨y2,y3,y5,rfl⟩,hx,Lc,hLc,hcl,hc⟩;refine ⟨_,rfl,?_⟩;let cs:Lc.getD s []=L.getD s []:=by rw[hc s hs,AE (A7 _)]
    let ct:Lc.getD t []=L.getD t []:=by
     rw[hc t ht];split
     .exact T3
     .rfl
    let⟨j,k1,e1⟩:=hLc.at (x:=(s:Nat)) () ();let⟨j2,k2,e2⟩:=hLc.at (x:=(t:Nat)) () ();rw[Bj,cs]at e1;rw[Bj,ct]at e2;let ls:=ll s hs;let lt:=ll t ht;show OkS (sIf _ _ _ [some (mD zA),some (.ref p),some (.int (s:Nat)),y3,some (.int (t:Nat)),y5] A) _;let hix:∀ (Y:Sd),Y[1]?=some (some (.ref p))->Y[2]?=some (some (.int (s:Nat)))->fOp kIx (zC 1) (zC 2) Y A=some (.dat (.ref j),A):=λY s1 s2=>zH (x:=.dat (.ref p)) (y:=.dat (.int (s:Nat))) (by erw[zC];rw[s1]) (by erw[zC];rw[s2]) k1;rw[De];calc zF (BN (zH (x:=.dat (.int (t:Nat))) rfl (hix _ rfl rfl) (K8 (neg:=false) (zf e1)))) ?_;by_cases hm:(t:Int)∈L.getD s []
    .rw[AD (by simp;simpa using hm)];let hcomp:=JS (own:=[3]) (fi:=Ai (fOp kIx (zC 1) (zC 4))) (g:=gN 3) (tc:=tst (fOp (kIn true) (zC 3) (fOp kIx (zC 1) (zC 2)))) (te:=zC 3) (Y:=[some (mD zA),some (.ref p),some (.int (s:Nat)),y3,some (.int (t:Nat)),y5]) (M:=A) (L.getD t []) D.int D.int (λg=>decide (g∉L.getD s [])) (FJ (zH (x:=.dat (.ref p)) (y:=.dat (.int (t:Nat))) rfl rfl k2) (zf e2)) (.inl e2) () λa ha=>⟨_,rfl,(BN (zH (x:=.dat (.int a)) rfl (hix _ rfl rfl) (K8 (neg:=true) (zf e1)))).trans (by simp),λ_=>rfl⟩;rw[zI,zY];refine zF hcomp (CM ?_);rw[zN];let hml:((L.getD t []).filter λg=>decide (g∉L.getD s [])).length<=26:=An (List.length_filter_le _ _) lt;let hwe:wst L t (L.getD s [])=L.getD s []++(L.getD t []).filter λg=>decide (g∉L.getD s []):=by erw[wst];rw[AD hm]
     generalize (L.getD t []).filter (λg=>decide (g∉L.getD s []))=more at hml hwe;let e1':=Dv e1 [MO.lst (more.map D.int)];let e3:(A++[MO.lst (more.map D.int)])[A.length]?=some (.lst (more.map D.int)):=zj _ _;let hLc':=hLc.app [MO.lst (more.map D.int)];let hx':Ey M (A++[MO.lst (more.map D.int)]):=hx.app (C4 _ more);let⟨j',k1',e1''⟩:=hLc'.at (x:=(s:Nat)) () ();rw[Bj,cs]at e1'';generalize A++[MO.lst (more.map D.int)]=A1 at e1' e3 hLc' hx' k1' e1'';generalize A.length=z at e3;show OkS (ET _ _ _ [some (mD zA),some (.ref p),some (.int (s:Nat)),y3,some (.int (t:Nat)),some (.ref z)] A1) _;rw[Kg];refine zF (zH (x:=.dat (.ref j')) (y:=.dat (.ref z)) (zH (x:=.dat (.ref p)) (y:=.dat (.int (s:Nat))) rfl rfl k1') rfl (OI (mlR e1'') (mlR e3) (by rw[AI,AI];omega))) (CM ?_);rw[<-CD,<-hwe];refine zq.mpr ⟨_,rfl,zq.mpr ⟨_,rfl,zJ.mpr ?_⟩⟩;let hpz:A1.length≠p:=by
      let⟨js,e,_⟩:=hLc';have:=(AK.mp e).1;omega
     let⟨u,k3,hLn⟩:=(hLc'.app [MO.lst ((wst L t (L.getD s [])).map D.int)]).put (t:=s) (l:=wst L t (L.getD s [])) () hpz (zj _ _);let hun:=hLn.und (u:=u) (Bv (by rw[BK];let⟨js,e,_⟩:=hLc';have:=(AK.mp e).1;omega));rw[Ck]at hun;refine ⟨_,k3,⟨_,_,_,rfl⟩,(hx'.app (u:=MO.lst ((wst L t (L.getD s [])).map D.int)) (C4 _ _)).set hp hun,_,hLn,by rw[Ck];exact hcl,λr hr=>?_⟩;rw[Lh ()];by_cases q:r=s
     .subst q;rw[AD rfl,AD (CL _)]
     .rw[AE q,hc r hr];by_cases q2:r<s
      .rw[AD q2,AD ()]
      .rw[AE q2,AE ()]
    .rw[AE (by simp;simpa using hm),Dp];refine ⟨⟨_,_,_,rfl⟩,hx,Lc,hLc,hcl,λr hr=>?_⟩;rw[hc r hr];by_cases q:r=s
     .subst q;rw[AE (A7 _),AD (CL _)];erw[wst];rw[AE hm]
     .by_cases q2:r<s
      .rw[AD q2,AD ()]
      .rw[AE q2,AE ()]
   .rintro Y A ⟨⟨y2,y3,y5,rfl⟩,hx,Lc,hLc,hcl,hc⟩;have:Lc=L.map (wst L t):=Q5 (by rw[AI];omega) λr hr=>by
     rw[hcl]at hr;rw[hc r hr,AD hr,Ln ()]
    subst this;exact ⟨⟨_,_,_,_,rfl⟩,hx,_,hLc,hW.step ht⟩
  .rintro Y A ⟨⟨y2,y3,y4,y5,rfl⟩,hx,L,hLd,hW⟩;rw[zN];calc CK (d:=.ref p) rfl ⟨p,L,rfl,hx,hLd,hW⟩
end
def DZ (p:Ye):zZ 1 (tI p)=true:=by
 show (p.map D.int).all (zZ 0)=true;rw[Aj];intro x hx;let⟨i,_,rfl⟩:=Af.mp hx;rfl
def Mx (h:tI p=tI q):p=q:=(List.map_inj_right (f:=D.int) (λ_ _ h=>D.int.inj h)).mp (D.tup.inj h)
def WG {ps:Ya} (h:zu M y=some (ps.map tI)):GB neg (.dat (tI p)) y M=some (.dat (.bl (nb neg (decide (p∈ps)))),M):=by
 let ht:(ps.map tI).all (zZ 1)=true:=by
  rw[Aj];intro x hx;let⟨q,_,rfl⟩:=Af.mp hx;exact DZ q
 let he:((ps.map tI).any λe=>AV 1 e (tI p))=decide (p∈ps):=by
  rw[DC,List.any_eq_true,decide_eq_true_iff];constructor
  .rintro ⟨x,hx,e⟩;let⟨q,hq,rfl⟩:=Af.mp hx;have:=Mb 1 _ _ (DZ q) (DZ p) e;rw[<-Mx this];exact hq
  .intro hp;exact ⟨tI p,Af.mpr ⟨p,hp,rfl⟩,Iw 1 _ (DZ p)⟩
 erw[GB];dsimp only;rw[h];dsimp only;rw[DZ,ht,he];rfl
theorem Js:∀ ts:List (List Int),DJ (ts.map tI)=some ts
 |[]=>rfl
 |t::ts=>by
  rw[Ad];erw[DJ];rw[Js ts,show NP (tI t)=some t from E6 t]
def Sm (hf:f Y M=some (x,M)) (hx:zu M x=some (ts.map tI)) (hn:DU ts=true) (hz:ts.length<=90000):fB FQ (zQ f zn) Y M=some (.fl ((Bp ts).map tI),M):=by
 erw[fB,zQ,zn];rw[hf];show FQ [x] M=_;erw[FQ];dsimp only;rw[hx];dsimp only;rw[Js];dsimp only;rw[AD ⟨hn,hz⟩];rfl
section
variable {zA:Ya} {l:Nat}
def P8 (m:IsM zA l) (h26:zA.length<=26) (hl:l<=6) (M:Mem):Ok (G3 [mD zA] M) λd A=>∃ p PP,d=.ref p/\Ey M A/\M.length<=p/\A[p]?=some (.lst (PP.map tI))/\(∀ q∈PP,Part zA q)/\PP.Nodup/\PP≠[]/\PP.length<=26/\PP.Pairwise (λa b=>AM b a=false) /\ ∀ q,Part zA q->q∈PP:=by
 erw[G3];rw[B3];erw[JY];show OkS (zM _ _ [some (mD zA),none,none,none,none,none] M) _;rw[zI,zY];refine Fn.mpr (zF (Ac (d:=mD zA) rfl) (Ok.mono (Xv m h26 hl M) ?_));rintro d A ⟨p,L,rfl,hx,hLd,hW⟩;rw[zJ,zN];let hWl:=hW.len;let ll:∀ r,r<zA.length->(L.getD r []).length<=26:=λr hr=>by
  let h1:=(hW.nd _ (CT (L:=L) (r:=r) ())).length_le_of_subset (l₂:=(List.range zA.length).map λ(k:Nat)=>(k:Int)) λx hx=>by
   let⟨x0,x1⟩:=hW.rg _ (CT (L:=L) (r:=r) ()) x hx;exact Af.mpr ⟨x.toNat,C3.mpr (),()⟩
  rw[AI,Di]at h1;omega
 rw[zI,zY];calc En.mpr (D4.mpr ⟨zg (by simp),CM ?_⟩);rw[zN];let hp:p<A.length:=by let⟨js,e,_⟩:=hLd;exact (AK.mp e).1
 let hLd2:=hLd.app [MO.lst ([]:List D)];let hx2:Ey M (A++[MO.lst ([]:List D)]):=hx.app rfl;let hq:=hx.len;let e2:(A++[MO.lst ([]:List D)])[A.length]?=some (.lst (([]:List (List Int)).map tI)):=zj _ _;let hj2:∀ r,r<L.length -> ∃ j,j≠A.length/\(A++[MO.lst ([]:List D)])[j]?=some (.lst ((L.getD r []).map D.int))/\kIx (.dat (.ref p)) (.dat (.int (r:Nat))) (A++[MO.lst ([]:List D)])=some (.dat (.ref j),A++[MO.lst ([]:List D)]):=λr hr=>by
  let⟨j,k1,e1⟩:=hLd2.at (x:=(r:Nat)) () ();rw[Bj]at e1;refine ⟨j,λe=>?_,e1,k1⟩;subst e;rw[e2]at e1;have:([]:List D)=(L.getD r []).map D.int:=MO.lst.inj (BG e1);let h1:=hW.self r ();let h2:L.getD r []=[]:=List.map_eq_nil_iff.mp this.symm;rw[h2]at h1;ext h1
 let⟨js,ejs,hjl,hj⟩:=hLd2;generalize A++[MO.lst ([]:List D)]=A2 at hx2 e2 ejs hj hj2;generalize A.length=q at hq hp e2 hj2;show OkS (zM _ _ [some (mD zA),some (.ref p),some (.ref q),none,none,none] A2) _;rw[zI,Co];refine ⟨_,_,_,D6 (HL rfl) () (),?_⟩;rw[Bj];let hjq:∀ r j,js[r]?=some j->j≠q:=λr j e1 e=>by
  let hr:r<L.length:=by rw[<-hjl];exact (AK.mp e1).1
  let⟨j',a,b,c⟩:=hj2 r hr;have:=Du (M:=A2) (zf ejs) (GN (j:=r) (v:=.ref j) (by rw[AQ,e1];rfl));rw[this]at c;ext c;exact a e
 refine Gs (n:=zA.length) (I:=λt Y A=>(∃ y3 y4 y5,Y=[some (mD zA),some (.ref p),some (.ref q),y3,y4,y5])/\Ey M A/\Lds A p L /\ ∃ F:List (List Int),A[q]?=some (.lst (F.map tI))/\(∀ f∈F,Part zA f)/\F.Nodup/\F.length<=t /\ ∀ r,r<t->(∀ x∈L.getD r [],(r:Int)∈L.getD x.toNat [])->zX (L.getD r [])∈F) ?_ ?_ _ _ ⟨⟨_,_,_,rfl⟩,hx2,⟨js,ejs,hjl,hj⟩,[],e2,λ_ h=>(by ext h),List.nodup_nil,AF _,λr hr=>absurd hr (Nat.not_lt_zero _)⟩
 .rintro t Y A ht ⟨⟨y3,y4,y5,rfl⟩,hx,hLd,F,eF,hF,hnd,hFl,hall⟩;refine ⟨_,rfl,?_⟩;let lt:=ll t ht;let⟨j,k1,e1⟩:=hLd.at (x:=(t:Nat)) () ();rw[Bj]at e1;show OkS (zM _ _ [some (mD zA),some (.ref p),some (.ref q),some (.int (t:Nat)),y4,y5] A) _;let hperm:=zo (L.getD t []);let ndt:=hW.nd _ (CT (L:=L) (r:=t) ());let hpw:(zX (L.getD t [])).Pairwise (· < ·):=((E4 (L.getD t [])).and (hperm.nodup_iff.mpr ndt)).imp λ{a b} h=>by have:=h.1;have:=h.2;omega
  let hsl:(zX (L.getD t [])).length<=26:=by rw[hperm.length_eq];exact lt
  refine FP (d:=tI (zX (L.getD t []))) (EZ (Kh (zH (x:=.dat (.ref p)) (y:=.dat (.int (t:Nat))) rfl rfl k1) (zf e1) ()) DV) ?_;show OkS (sIf _ _ _ [some (mD zA),some (.ref p),some (.ref q),some (.int (t:Nat)),some (tI (zX (L.getD t []))),y5] A) _;let hall2:=Ly (bs:=(zX (L.getD t [])).map λx=>decide ((t:Int)∈L.getD x.toNat [])) ((HU (own:=[5]) (fi:=Ai (zC 4)) (g:=gN 5) (te:=fOp (kIn false) (zC 3) (fOp kIx (zC 1) (zC 5))) (Y:=[some (mD zA),some (.ref p),some (.ref q),some (.int (t:Nat)),some (tI (zX (L.getD t []))),y5]) (M:=A) (zX (L.getD t [])) D.int (λx=> .bl (decide ((t:Int)∈L.getD x.toNat []))) (gd:=none) (Dw rfl) trivial () λx hxm=>⟨_,rfl,by
   let⟨x0,x1⟩:=hW.rg _ (CT (L:=L) (r:=t) ()) x (hperm.mem_iff.mp hxm);let⟨j',k1',e1'⟩:=hLd.at x0 ();calc zH (x:=.dat (.int (t:Nat))) rfl (zH (x:=.dat (.ref p)) (y:=.dat (.int x)) rfl rfl k1') (K8 (neg:=false) (zf e1'))⟩).trans (by rw[List.map_map];rfl))
  rw[MZ]at hall2;rw[De];refine zF (Ol (BN (zH (x:=.dat (tI (zX (L.getD t [])))) (y:=.dat (.ref q)) rfl rfl (WG (neg:=true) (zf eF)))) (BN hall2)) ?_;let hback:((zX (L.getD t [])).all λx=>decide ((t:Int)∈L.getD x.toNat []))=true ↔ ∀ x∈L.getD t [],(t:Int)∈L.getD x.toNat []:=by
   rw[Aj];exact ⟨λh x hx=>By (h x (hperm.mem_iff.mpr hx)),λh x hx=>BF (h x (hperm.mem_iff.mp hx))⟩
  let hnb:nb true (decide (zX (L.getD t [])∈F)) = !decide (zX (L.getD t [])∈F):=rfl;rw[hnb];by_cases hc:(!decide (zX (L.getD t [])∈F)&&(zX (L.getD t [])).all λx=>decide ((t:Int)∈L.getD x.toNat []))=true
  .rw[AD hc,GA];rw[A8,Bool.not_eq_true',decide_eq_false_iff_not]at hc;refine GF.mpr (zq.mpr ⟨_,rfl,⟨_,Eg eF⟩,zF (Ac (d:=tI (zX (L.getD t []))) rfl) ?_⟩);let hLd':Lds (A.set q (.lst (F.map tI++[tI (zX (L.getD t []))]))) p L:=by
    let⟨js',e',hl',hj'⟩:=hLd;refine ⟨js',by rw[BJ ()];exact e',hl',λr hr=>?_⟩;let⟨j,a,b,c⟩:=hj' r hr;calc ⟨j,a,b,?_⟩;by_cases hjq':q=j
    .subst hjq';rw[eF]at c;let h0:=MO.lst.inj (BG c);let h1:=hW.self r ();cases F with
     |nil=>
      let h2:L.getD r []=[]:=List.map_eq_nil_iff.mp h0.symm;rw[h2]at h1;ext h1
     |cons f F=>
      cases hL:L.getD r [] with
      |nil=>rw[hL]at h1;ext h1
      |cons a b=>rw[hL]at h0;ext h0
    .rw[BJ hjq'];exact c
   refine (HA eF (Ao (by rw[AI];omega) (zg (n:=100) ()))).mpr ⟨⟨_,_,_,rfl⟩,hx.set hq (show D.unds _ (F.map tI++[tI (zX (L.getD t []))])=true by rw[Kk,GZ,show D.unds A.length [tI (zX (L.getD t []))]=true from GZ [zX (L.getD t [])]];rfl),hLd',F++[zX (L.getD t [])],?_,λf hf=>?_,?_,by simp;omega,λr hr hb=>?_⟩
   .rw[Bv (AK.mp eF).1,CD];rfl
   .rcases Ab.mp hf with z|z
    .exact hF f z
    .rw[AW.mp z];exact hW.part ht hpw (λx=>hperm.mem_iff) λx hx=>(hback.mp hc.2) x (hperm.mem_iff.mp hx)
   .refine EX.mpr ⟨hnd,by simp,λa ha b hb e=>?_⟩;rw[AW.mp hb]at e;subst e;exact hc.1 ha
   .by_cases q:r=t
    .subst q;simp
    .exact BW _ (hall r () hb)
  .rw[AE hc,Dp];refine ⟨⟨_,_,_,rfl⟩,hx,hLd,F,eF,hF,hnd,(),λr hr hb=>?_⟩;by_cases q:r=t
   .subst q;rw[hback.mpr hb,Bool.and_true]at hc;simpa using hc
   .exact hall r () hb
 .rintro Y A ⟨⟨y3,y4,y5,rfl⟩,hx,hLd,F,eF,hF,hnd,hFl,hall⟩;rw[zN,E9];let hne:DU F=true:=by
   erw[DU];rw[Aj];intro f hf;have:=(hF f hf).n0;cases f with
   |nil=>simp at this
   |cons a b=>rfl
  calc zF (Sm (x:=.dat (.ref q)) rfl (zf eF) hne ()) (CM ?_);let hpm:=F6 F;refine ⟨A.length,Bp F,rfl,hx.app (GZ (Bp F)),hx.len,zj _ _,λf hf=>hF f (hpm.mem_iff.mp hf),hpm.nodup_iff.mpr hnd,λe=>?_,by rw[hpm.length_eq];omega,IU F,λq hq=>hpm.mem_iff.mpr ?_⟩;rotate_left
  .obtain ⟨x,hx⟩:=List.exists_mem_of_ne_nil q (by have:=hq.n0;intro e;rw[e]at this;simp at this);let inn:∀ x∈q,∀ y,y∈L.getD x.toNat [] ↔ y∈q:=λx hx y=>by
    let⟨x0,x1⟩:=hq.mem x hx;let ex:((x.toNat:Nat):Int)=x:=()
    let sx:=hW.self x.toNat ();rw[ex]at sx;refine ⟨λhy=>hW.snd (· ∈ q) (λz _ _ hz g hg=>hq.cl z hz g hg) x.toNat () (by rw[ex];exact hx) y hy,λhy=>?_⟩;exact hq.con (· ∈ L.getD x.toNat []) (λz hz sz g hg=>by
     let⟨z0,z1⟩:=hq.mem z hz;calc hW.trx x0 x1 sz (hW.gl_mem z0 z1 hg)) x hx sx y hy
   let⟨x0,x1⟩:=hq.mem x hx;let hnd':=hW.nd _ (CT (L:=L) (r:=x.toNat) ());let hp':=zo (L.getD x.toNat []);let e:q=zX (L.getD x.toNat []):=J3 hq.pw (((E4 _).and (hp'.nodup_iff.mpr hnd')).imp λ{a b} h=>by have:=h.1;have:=h.2;omega) λy=>by rw[hp'.mem_iff,inn x hx y]
   rw[e];refine hall x.toNat () λy hy=>?_;let hyq:=(inn x hx y).mp hy;rw[show ((x.toNat:Nat):Int)=x by omega];exact (inn y hyq x).mpr hx
  let⟨r,hr,hb⟩:=hW.some m.r0;have:=hpm.mem_iff.mpr (hall r hr hb);rw[e]at this;ext this
end
def Io:FS:=(zM (AO 3 (EC (fOp kIx (zC 1) (fC (.int 0))) (fC (.int 0))))
  (zM (AO 4 (Bg (zD (toD (fOp kIx (zC 1) (fC (.int 0)))) zS)))
  (zM (AO 5 (fC (.int 0)))
  (zM (Bz (tst (fOp kLt (zC 5) (fB BU (zQ (zC 4) zn)))) (zM (AO 6 (fOp CV (fOp BE (fOp Cw (zC 3) (fOp kIx (zC 4) (zC 5))) (fC (.int 1))) (zC 2)))
  (zM (BO (Ai (fOp kIx (zC 0) (fOp kIx (zC 4) (zC 5)))) (gN 7) (zM (sIf (tst (fOp (E7 true) (zC 7) (zC 3))) (zM (GI (zC 6) (zC 3) (zC 7))
  (C8 (fM C0 (zC 4) (zD (toD (zC 7)) zS)))) Bw)
  (sIf (tst (fOp kNe (fOp Cw (zC 3) (zC 7)) (zC 6))) (Ae (fC .non)) Bw)))
  (GV 5 (λi j=>i+j) (fC (.int 1))))) 100)
  (Ae (fB Bu (zQ (Ap [8] (Ai (zC 1)) (gN 8) B2 (fOp Cw (zC 3) (zC 8))) zn)))))))
def Fj:FF:=DR (BA 9 Io)
def Iy:FS:=(zM (AO 1 (Bg zS))
  (zM (BO (Ai (zm G3 (zD (toD (zC 0)) zS))) (gN 2) (zM (AO 3 (fB BU (zQ (zC 2) zn)))
  (zM (Bz (tst (fOp (kIs false) (zm Fj (zD (toD (zC 0)) (zD (toD (zC 2)) (zD (toD (zC 3)) zS)))) (fC .non))) (GV 3 (λi j=>i-j) (fC (.int 1))) 100)
  (C8 (fM C0 (zC 1) (zD (toD (Cf (zD (toD (zC 2)) (zD (toD (zC 3)) (zD (toD (zm Fj (zD (toD (zC 0)) (zD (toD (zC 2)) (zD (toD (zC 3)) zS))))) zS))))) zS))))))
  (Ae (fB Bu (zQ (zC 1) zn)))))
def HQ:FF:=DR (BA 4 Iy)
def phK (ks:Ye) (φ:Int->Int):List (D × D):=ks.map λx=>(.int x,.int (φ x))
def We:((phK ks φ).any λp=>decide (Ak p.1=some (.inl x)))=decide (x∈ks):=by
 erw[phK];rw[DC,List.any_eq_true,decide_eq_true_iff];constructor
 .rintro ⟨p,hp,e⟩;let⟨y,hy,rfl⟩:=Af.mp hp;let e:=By e;have:y=x:=by injection e with e;injection e
  rw[<-this];exact hy
 .intro hx;calc ⟨_,Af.mpr ⟨x,hx,rfl⟩,BF rfl⟩
theorem Jy:∀ {ks:Ye},Cc Ak (phK ks φ) (.inl x)=if x∈ks then some (.int (φ x)) else none
 |[]=>rfl
 |k::ks=>by
  let ih:=Jy (φ:=φ) (x:=x) (ks:=ks);unfold Cc phK at ih ⊢;rw[Ad,Dr];by_cases h:k=x
  .subst h;rw[show decide (Ak (D.int k)=some (.inl k))=true from BF rfl,AD Az];rfl
  .rw[show decide (Ak (D.int k)=some (.inl x))=false from A6 λe=>h (by injection e with e;injection e)];dsimp only;rw[ih];by_cases hx:x∈ks
   .rw[AD hx,AD (Ay _ hx)]
   .rw[AE hx,AE λe=>(AL.mp e).elim (λz=>h z.symm) hx]
def UO (h:∀ x∈ks,φ x=ψ x):phK ks φ=phK ks ψ:=List.map_congr_left λx hx=>by rw[h x hx]
def MF (e:A[n]?=some (.dict (phK ks φ))) (hx:x∉ks) (hz:ks.length<=1000):GS A n (.int x) (.int v)=some (A.set n (.dict (phK (ks++[x]) λy=>if y=x then v else φ y))):=by
 erw[GS];rw[e];dsimp only;rw[show Ak (D.int x)=some (.inl x)from rfl];dsimp only;rw[AD (Ao (show (phK ks φ).length<100000 by erw[phK];rw[AI];omega) (zg (AF _))),Y3 (by rw[We,A6 hx])];rw[UO (ψ:=λy=>if y=x then v else φ y) λy hy=>(AE (show ¬ y=x from λe=>hx (e▸hy))).symm];erw[phK];rw[CD];simp
def Mw (e:A[n]?=some (.dict (phK ks φ))\/A[n]?=some (.froK (phK ks φ))):E7 neg (.dat (.int x)) (.dat (.ref n)) A=some (.dat (.bl (if neg then !decide (x∈ks) else decide (x∈ks))),A):=by
 have:EB A (.dat (.ref n)) (.int x)=some (Cc Ak (phK ks φ) (.inl x)):=by
  erw[EB];rcases e with e|e <;> (dsimp only;rw[e];rfl)
 erw[E7];dsimp only;rw[this];dsimp only;rw[Jy];by_cases h:x∈ks
 .rw[AD h,BF h];rfl
 .rw[AE h,A6 h];rfl
def EI (e:A[n]?=some (.dict (phK ks φ))\/A[n]?=some (.froK (phK ks φ))) (hx:x∈ks):Cw (.dat (.ref n)) (.dat (.int x)) A=some (.dat (.int (φ x)),A):=by
 have:EB A (.dat (.ref n)) (.int x)=some (Cc Ak (phK ks φ) (.inl x)):=by
  erw[EB];rcases e with e|e <;> (dsimp only;rw[e];rfl)
 erw[Cw];dsimp only;rw[this,Jy,AD hx]
section
variable {zA:Ya} {l:Nat}
def Part.len (h:Part zA p):p.length<=zA.length:=by
 have:=KN (a:=0) (n:=zA.length) h.pw λx hx=>by have:=h.mem x hx;omega
 calc this
def Jo {p:Ye} (h:p[i]?=some x):atI (p.map D.int) (i:Nat)=some (.int x):=GN (by rw[AQ,h];rfl)
def X5 (m:IsM zA l) (h26:zA.length<=26) {p:Ye} (hP:Part zA p) (b1:1<=b):Ok (BA 9 Io [mD zA,tI p,.int b] M) λd A=>D.und 0 d=true/\Ex M A/\((d=.non/\b≠1 /\ ∀ ψ,Phs zA p b ψ->ψ (p.headD 0)≠0) \/ ∃ φ,d=tI (p.map φ)/\Phs zA p b φ/\φ (p.headD 0)=0):=by
 let hpl:=hP.len;obtain ⟨p0,hp0⟩:∃ x,p[0]?=some x:=⟨_,AJ hP.n0⟩;let hd0:p.headD 0=p0:=by
  cases p with
  |nil=>ext hp0
  |cons a r=>exact BG hp0
 let hp0m:p0∈p:=Ax hp0;rw[B3];erw[Io];show OkS (zM _ _ [some (mD zA),some (tI p),some (.int b),none,none,none,none,none,none] M) _;let i0:∀ (Y:Sd) (A:Mem),Y[1]?=some (some (tI p))->fOp kIx (zC 1) (fC (.int 0)) Y A=some (.dat (.int p0),A):=λY A s1=>zH (x:=.dat (tI p)) (y:=.dat (.int 0)) (by erw[zC];rw[s1]) rfl (Du Dq (Jo hp0));let hd1:EC (fOp kIx (zC 1) (fC (.int 0))) (fC (.int 0)) [some (mD zA),some (tI p),some (.int b),none,none,none,none,none,none] M=some (.dat (.ref M.length),M++[.dict (phK [p0] λ_=>0)]):=by
  erw[EC];rw[show toD (fOp kIx (zC 1) (fC (.int 0))) [some (mD zA),some (tI p),some (.int b),none,none,none,none,none,none] (M++[.dict []])=some (.int p0,M++[.dict []])from ZZ (i0 _ _ rfl)];dsimp only;rw[show toD (fC (.int 0)) [some (mD zA),some (tI p),some (.int b),none,none,none,none,none,none] (M++[MO.dict []])=some (.int 0,M++[MO.dict []])from rfl];dsimp only;rw[zj];show some (EV.dat (D.ref M.length),(M++[MO.dict []]).set M.length (.dict [(.int p0,.int 0)]))=_;rw[List.set_append_right _ _ (AF _),Nat.sub_self];rfl
 rw[zI,zY];calc zF hd1 ?_;rw[zJ,zN,zI,zY];calc zF (J7 (Ac (i0 _ _ rfl)) (by simp)) (CM ?_);rw[zN];let e3:((M++[MO.dict (phK [p0] λ_=>0)])++[MO.lst [D.int p0]])[M.length]?=some (.dict (phK [p0] λ_=>0)):=Dv (zj _ _) _;let e4:((M++[MO.dict (phK [p0] λ_=>0)])++[MO.lst [D.int p0]])[(M++[MO.dict (phK [p0] λ_=>0)]).length]?=some (.lst ([p0].map D.int)):=zj _ _;rw[show (M++[MO.dict (phK [p0] λ_=>0)]).length=M.length+1 by simp]at e4 ⊢;let hx0:Ex M ((M++[MO.dict (phK [p0] λ_=>0)])++[MO.lst [D.int p0]]):=((Ex.refl M).app _).app _;generalize (M++[MO.dict (phK [p0] λ_=>0)])++[MO.lst [D.int p0]]=A0 at e3 e4 hx0;calc FP (d:=.int 0) rfl ?_;show OkS (zM _ _ [some (mD zA),some (tI p),some (.int b),some (.ref M.length),some (.ref (M.length+1)),some (.int 0),none,none,none] A0) _;rw[zI];refine FU (I:=λw Y A=>∃ (a:Nat) (ks:Ye) (φ:Int->Int) (y6 y7 y8:Option D),Y=[some (mD zA),some (tI p),some (.int b),some (.ref M.length),some (.ref (M.length+1)),some (.int (a:Nat)),y6,y7,y8]/\Ex M A/\A[M.length]?=some (.dict (phK ks φ))/\A[M.length+1]?=some (.lst (ks.map D.int))/\ks.Nodup/\(∀ x∈ks,x∈p)/\p0∈ks/\φ p0=0/\(∀ x∈ks,0<=φ x/\φ x<b)/\a<=ks.length/\(∀ i,i<a -> ∀ x,ks[i]?=some x -> ∀ g∈gl zA x,g∈ks/\φ g=(φ x+1) % b)/\(∀ χ,Phs zA p b χ->χ p0=0 -> ∀ x∈ks,χ x=φ x)/\w+a=p.length) ?_ 100 p.length _ _ () ⟨0,[p0],λ_=>0,_,_,_,rfl,hx0,e3,e4,by simp,λx hx=>by rw[AW.mp hx];exact hp0m,List.mem_singleton_self _,rfl,λ_ _=>⟨Int.le_refl _,show (0:Int)<b by omega⟩,Bh _,λi hi=>absurd hi (Nat.not_lt_zero _),λχ _ h x hx=>by rw[AW.mp hx];calc h,rfl⟩;rintro w Y A ⟨a,ks,φ,y6,y7,y8,rfl,hx,ed,el,hnd,hkp,hk0,hφ0,hφ,hal,hdone,hun,hw⟩;let hkl:ks.length<=p.length:=hnd.length_le_of_subset hkp;let elen:=GK (f:=zC 4) (Y:=[some (mD zA),some (tI p),some (.int b),some (.ref M.length),some (.ref (M.length+1)),some (.int (a:Nat)),y6,y7,y8]) (M:=A) (x:=.dat (.ref (M.length+1))) rfl (zf el);rw[AI]at elen;calc zF (BN (zH (x:=.dat (.int (a:Nat))) rfl elen (zW (SJ.mpr ⟨rfl,rfl⟩)))) ?_;by_cases hlt:a<ks.length
 .rw[AD (by rw[CQ];omega)];obtain ⟨x,hxa⟩:∃ x,ks[a]?=some x:=⟨_,AJ hlt⟩;let hxk:x∈ks:=Ax hxa;let hxp:=hkp x hxk;let⟨x0,x1⟩:=hP.mem x hxp;let ix4:∀ (Y:Sd),Y[4]?=some (some (.ref (M.length+1)))->Y[5]?=some (some (.int (a:Nat)))->fOp kIx (zC 4) (zC 5) Y A=some (.dat (.int x),A):=λY s4 s5=>zH (x:=.dat (.ref (M.length+1))) (y:=.dat (.int (a:Nat))) (by erw[zC];rw[s4]) (by erw[zC];rw[s5]) (Du (zf el) (Jo hxa));refine FP (d:=.int ((φ x+1) % b)) (zH (zH (zH (x:=.dat (.ref M.length)) rfl (ix4 _ rfl rfl) (EI (.inl ed) hxk)) rfl D1) (y:=.dat (.int b)) rfl (Hm ())) ?_;let due0:0<=(φ x+1) % b:=Int.emod_nonneg _ ();let due1:=EA (φ x+1) (show 0<b by omega);show OkS (zM _ _ [some (mD zA),some (tI p),some (.int b),some (.ref M.length),some (.ref (M.length+1)),some (.int (a:Nat)),some (.int ((φ x+1) % b)),y7,y8] A) _;generalize edue:(φ x+1) % b=due at due0 due1;rw[zI,Co];refine ⟨_,_,_,Dw (Hk m x0 x1 rfl (ix4 _ rfl rfl)),?_⟩;refine Ek (gd:=none) (I:=λs Y A=>∃ (ks:Ye) (ψ:Int->Int) (y7:Option D),Y=[some (mD zA),some (tI p),some (.int b),some (.ref M.length),some (.ref (M.length+1)),some (.int (a:Nat)),some (.int due),y7,y8]/\Ex M A/\A[M.length]?=some (.dict (phK ks ψ))/\A[M.length+1]?=some (.lst (ks.map D.int))/\ks.Nodup/\(∀ x∈ks,x∈p)/\p0∈ks/\ψ p0=0/\(∀ x∈ks,0<=ψ x/\ψ x<b)/\ks[a]?=some x/\(ψ x+1) % b=due/\(∀ i,i<a -> ∀ x,ks[i]?=some x -> ∀ g∈gl zA x,g∈ks/\ψ g=(ψ x+1) % b)/\(∀ χ,Phs zA p b χ->χ p0=0 -> ∀ x∈ks,χ x=ψ x) /\ ∀ i,i<s -> ∀ g,(gl zA x)[i]?=some g->g∈ks/\ψ g=due) (λ_ _ _ _=>CU) ?_ ?_ _ _ ⟨ks,φ,_,rfl,hx,ed,el,hnd,hkp,hk0,hφ0,hφ,hxa,edue,hdone,hun,λi hi=>absurd hi (Nat.not_lt_zero _)⟩
  .rintro s d Y A ed0 ⟨ks,ψ,y7,rfl,hx,ed,el,hnd,hkp,hk0,hφ0,hφ,hxa,edue,hdone,hun,hs⟩;let hxk:x∈ks:=Ax hxa;let hkl:ks.length<=p.length:=hnd.length_le_of_subset hkp;rw[AQ]at ed0;let⟨g,eg,rfl⟩:=Option.map_eq_some_iff.mp ed0;let hgm:g∈gl zA x:=Ax eg;let hgp:=hP.cl x hxp g hgm;refine ⟨_,rfl,?_⟩;show OkS (zM _ _ [some (mD zA),some (tI p),some (.int b),some (.ref M.length),some (.ref (M.length+1)),some (.int (a:Nat)),some (.int due),some (.int g),y8] A) _;rw[zI,De];refine zF (BN (zH (x:=.dat (.int g)) (y:=.dat (.ref M.length)) rfl rfl (Mw (neg:=true) (.inl ed)))) ?_;by_cases hg:g∈ks
   .rw[AE (by simp[hg]),Dp,zN,De];refine zF (BN (zH (x:=.dat (.int (ψ g))) (y:=.dat (.int due)) (zH (x:=.dat (.ref M.length)) (y:=.dat (.int g)) rfl rfl (EI (.inl ed) hg)) rfl (zW (Hf.mpr ⟨rfl,rfl⟩)))) ?_;by_cases hv:ψ g=due
    .rw[AE (by simp[hv]),Dp];refine ⟨ks,ψ,_,rfl,hx,ed,el,hnd,hkp,hk0,hφ0,hφ,hxa,edue,hdone,hun,λi hi g' eg'=>?_⟩;by_cases q:i=s
     .subst q;rw[eg]at eg';ext eg';exact ⟨hg,hv⟩
     .exact hs i () g' eg'
    .rw[AD (by simp[hv])];refine CK (d:=.non) rfl ⟨rfl,hx,.inl ⟨rfl,λe=>hv ?_,λχ hχ h0=>hv ?_⟩⟩
     .have:=hφ g hg;omega
     .rw[hd0]at h0;rw[<-hun χ hχ h0 g hg,hχ.st x hxp g hgm,hun χ hχ h0 x hxk];exact edue
   .rw[AD (by simp[hg]),zI];refine OO (v:=.int due) (k:=.int g) (n:=M.length) rfl rfl rfl (MF ed hg ()) ?_;let el1:(A.set M.length (.dict (phK (ks++[g]) λy=>if y=g then due else ψ y)))[M.length+1]?=some (.lst (ks.map D.int)):=by rw[BJ ()];exact el
    let ed1:(A.set M.length (.dict (phK (ks++[g]) λy=>if y=g then due else ψ y)))[M.length]?=some (.dict (phK (ks++[g]) λy=>if y=g then due else ψ y)):=Bv (AK.mp ed).1;let hx1:=hx.set (AF _) (.dict (phK (ks++[g]) λy=>if y=g then due else ψ y));generalize A.set M.length (.dict (phK (ks++[g]) λy=>if y=g then due else ψ y))=A1 at el1 ed1 hx1;rw[zN,GA];calc GF.mpr (zq.mpr ⟨_,rfl,⟨_,Eg el1⟩,zF (Ac (d:=.int g) rfl) ?_⟩);calc (HA el1 (Ao (by rw[AI];omega) (zg (n:=100) ()))).mpr ?_;let el2:(A1.set (M.length+1) (.lst (ks.map D.int++[D.int g])))[M.length+1]?=some (.lst ((ks++[g]).map D.int)):=by rw[Bv (AK.mp el1).1,CD];rfl
    let ed2:(A1.set (M.length+1) (.lst (ks.map D.int++[D.int g])))[M.length]?=some (.dict (phK (ks++[g]) λy=>if y=g then due else ψ y)):=by rw[BJ ()];exact ed1
    let hx2:=hx1.set (Cq _) (.lst (ks.map D.int++[D.int g]));generalize A1.set (M.length+1) (.lst (ks.map D.int++[D.int g]))=A2 at el2 ed2 hx2;let old:∀ y∈ks,(if y=g then due else ψ y)=ψ y:=λy hy=>AE (show ¬ y=g from λe=>hg (e▸hy));let hgk:g∈ks++[g]:=by simp
    rw[zN,De];calc zF (BN (zH (y:=.dat (.int due)) (zH (x:=.dat (.ref M.length)) (y:=.dat (.int g)) rfl rfl (EI (.inl ed2) hgk)) rfl (zW (Hf.mpr ⟨rfl,rfl⟩)))) ?_;rw[AE (by simp),Dp];refine ⟨ks++[g],λy=>if y=g then due else ψ y,_,rfl,hx2,ed2,el2,EX.mpr ⟨hnd,by simp,λy hy z hz e=>hg (by rw[AW.mp hz]at e;rw[<-e];calc hy)⟩,λy hy=>?_,BW _ hk0,(old p0 hk0).trans hφ0,λy hy=>?_,by rw[BI (AK.mp hxa).1];exact hxa,?_,λi hi y ey g' hg'=>?_,λχ hχ h0 y hy=>?_,λi hi g' eg'=>?_⟩
    .rcases Ab.mp hy with z|z
     .exact hkp y z
     .rw[AW.mp z];exact hgp
    .dsimp only;by_cases q:y=g
     .rw[AD q];exact ⟨due0,due1⟩
     .rw[AE q];rcases Ab.mp hy with z|z
      .exact hφ y z
      .exact absurd (AW.mp z) q
    .dsimp only;rw[old x hxk];exact edue
    .have hal:a<ks.length:=(AK.mp hxa).1;rw[BI ()]at ey;let⟨q1,q2⟩:=hdone i hi y ey g' hg';calc ⟨BW _ q1,?_⟩;dsimp only;rw[old g' q1,old y (Ax ey)];exact q2
    .dsimp only;rcases Ab.mp hy with z|z
     .rw[old y z];exact hun χ hχ h0 y z
     .rw[AW.mp z,AD rfl,hχ.st x hxp g hgm,hun χ hχ h0 x hxk];exact edue
    .by_cases q:i=s
     .subst q;rw[eg]at eg';ext eg';exact ⟨hgk,by dsimp only;rw[AD rfl]⟩
     .obtain ⟨q1,q2⟩:=hs i () g' eg';exact ⟨BW _ q1,by dsimp only;rw[old g' q1];calc q2⟩
  .rintro Y A ⟨ks,ψ,y7,rfl,hx,ed,el,hnd,hkp,hk0,hφ0,hφ,hxa,edue,hdone,hun,hs⟩;rw[zN];let hal:a<ks.length:=(AK.mp hxa).1;refine ⟨_,_,_,rfl,w-1,?_,a+1,ks,ψ,_,_,_,rfl,hx,ed,el,hnd,hkp,hk0,hφ0,hφ,hal,λi hi y ey g hg=>?_,hun,?_⟩
   .omega
   .by_cases q:i=a
    .subst q;rw[hxa]at ey;ext ey;let⟨j,hj,ej⟩:=List.mem_iff_getElem.mp hg;have:=hs j (by rw[AI];calc hj) g (by rw[AJ hj,ej]);rw[edue];exact this
    .exact hdone i () y ey g hg
   .have:=hnd.length_le_of_subset hkp;omega
 .rw[AE (by rw[CQ];omega)];let hcl:∀ x∈ks,∀ g∈gl zA x,g∈ks/\φ g=(φ x+1) % b:=λx hx g hg=>by
   let⟨i,hi,ei⟩:=List.mem_iff_getElem.mp hx;exact hdone i () x (by rw[AJ hi,ei]) g hg
  let hall:∀ y∈p,y∈ks:=hP.con (· ∈ ks) (λx _ hx g hg=>(hcl x hx g hg).1) p0 hp0m hk0;rw[zN];refine CK (d:=tI (p.map φ)) ?_ ⟨EY _,hx,.inr ⟨φ,rfl,⟨b1,λx hx=>hφ x (hall x hx),λx hx g hg=>(hcl x (hall x hx) g hg).2⟩,by rw[hd0];calc hφ0⟩⟩;refine (EZ (HU (gd:=none) p D.int (λx=> .int (φ x)) (Dw rfl) trivial () λx hx=>⟨_,rfl,zH (x:=.dat (.ref M.length)) (y:=.dat (.int x)) rfl rfl (EI (.inl ed) (hall x hx))⟩) DV).trans ?_;erw[tI];rw[List.map_map];rfl
def Rz (m:IsM zA l) (h26:zA.length<=26) (hP:Part zA p) (b1:1<=b):∃ d,(∀ M,Fj [mD zA,tI p,.int b] M=some (d,M))/\((d=.non/\b≠1 /\ ∀ ψ,Phs zA p b ψ->ψ (p.headD 0)≠0) \/ ∃ φ,d=tI (p.map φ)/\Phs zA p b φ/\φ (p.headD 0)=0):=by
 let⟨d,A,e,hd,_,q⟩:=X5 m h26 hP b1 (M:=[]);refine ⟨d,λM=>zW ?_,q⟩;erw[Fj];calc GG (by erw[D.unds,D.unds,D.unds,D.unds];rw[F3,show D.und 0 (tI p)=true from EY _];rfl) ⟨d,A,e,hd,rfl,rfl⟩
abbrev Bt:=List Int × Int × List Int
def btD (t:Bt):D:=.tup [tI t.1,.int t.2.1,tI t.2.2]
structure IsB (zA:Ya) (t:Bt):Prop where
 part:Part zA t.1
 le:t.2.1<=26
 ph:∃ φ,t.2.2=t.1.map φ/\Phs zA t.1 t.2.1 φ/\φ (t.1.headD 0)=0
structure Bm (zA:Ya) (t:Bt):Prop where
 part:Part zA t.1
 ph:∃ φ,t.2.2=t.1.map φ/\Phs zA t.1 t.2.1 φ/\φ (t.1.headD 0)=0
 max:∀ b ψ,Phs zA t.1 b ψ->ψ (t.1.headD 0)=0->b<=t.2.1
structure Tok (zA:Ya) (T:List Bt):Prop where
 pw:(T.map (·.1)).Pairwise (λa b=>AM b a=false)
 nd:(T.map (·.1)).Nodup
 all:∀ q,q∈T.map (·.1) ↔ Part zA q
 bm:∀ t∈T,Bm zA t
def Phs.le (m:IsM zA l) (hP:Part zA p) (h:Phs zA p b φ):b<=(p.length:Int):=by
 let b1:=h.b1;let hg:∀ x∈p,gl zA x≠[]:=λx hx e=>by
  let⟨x0,x1⟩:=hP.mem x hx;let h1:=(Il m x0 x1).1;rw[e,Bq]at h1;have:=m.l0;omega
 let h1:((List.range b.toNat).map λ(k:Nat)=>(k:Int)).length<=(p.map φ).length:=by
  refine List.Nodup.length_le_of_subset ?_ λz hz=>?_
  .unfold List.Nodup;rw[List.pairwise_map];exact (List.nodup_range (n:=b.toNat)).imp λh e=>h (Int.ofNat.inj e)
  .obtain ⟨k,hk,rfl⟩:=Af.mp hz;let⟨x,hx,e⟩:=h.all hP hg (z:=(k:Nat)) () (by have:=C3.mp hk;omega);exact Af.mpr ⟨x,hx,e⟩
 rw[AI,Di,AI]at h1;omega
def MX (t:Bt):D.und n (btD t)=true:=by
 erw[btD,D.und,D.unds,D.unds,D.unds,D.unds];rw[show D.und n (tI t.1)=true from EY _,show D.und n (tI t.2.2)=true from EY _];rfl
def Lj (T:List Bt):D.unds n (T.map btD)=true:=Gq λx hx=>by
 let⟨t,_,rfl⟩:=Af.mp hx;calc MX t
def Qj (m:IsM zA l) (h26:zA.length<=26) (hl:l<=6) (M:Mem):Ok (BA 4 Iy [mD zA] M) λd A=>∃ T:List Bt,d=.tup (T.map btD)/\T≠[]/\T.length<=26/\(∀ t∈T,IsB zA t)/\Tok zA T:=by
 rw[B3];erw[Iy];show OkS (zM _ _ [some (mD zA),none,none,none] M) _;rw[zI,zY];calc En.mpr (D4.mpr ⟨zg (by simp),CM ?_⟩);rw[zN];let e1:(M++[MO.lst ([]:List D)])[M.length]?=some (.lst (([]:List Bt).map btD)):=zj _ _;let hq:M.length<(M++[MO.lst ([]:List D)]).length:=by simp
 generalize M++[MO.lst ([]:List D)]=M1 at e1 hq;generalize M.length=q at e1 hq;show OkS (zM _ _ [some (mD zA),some (.ref q),none,none] M1) _;rw[zI,Co];let⟨d,A,e,pp,PP,rfl,hx,hpl,ep,hPP,hnd,hne,hPl,hpw,hall⟩:=P8 m h26 hl M1;calc ⟨_,_,_,FJ (DX (Ac (d:=mD zA) rfl) e) (zf ep),?_⟩;refine Ek (gd:=Jw (.dat (.ref pp)) (PP.map tI)) (I:=λt Y A=>(∃ y2 y3,Y=[some (mD zA),some (.ref q),y2,y3])/\A[pp]?=some (.lst (PP.map tI)) /\ ∃ T:List Bt,A[q]?=some (.lst (T.map btD))/\T.map (·.1)=PP.take t /\ ∀ t∈T,IsB zA t/\Bm zA t) (λ_ _ _ h=>Or.inl h.2.1) ?_ ?_ _ _ ⟨⟨_,_,rfl⟩,ep,[],hx.ex.get e1,rfl,λ_ h=>(by ext h)⟩
 .rintro t d Y A ed ⟨⟨y2,y3,rfl⟩,ep,T,eT,hT,hB⟩;rw[AQ]at ed;let⟨p,ept,rfl⟩:=Option.map_eq_some_iff.mp ed;let hP:=hPP p (Ax ept);let hpn:=hP.len;let ht:t<PP.length:=(AK.mp ept).1;let hTl:T.length=t:=by
   have:=BC List.length hT;rw[AI,BY]at this;omega
  calc ⟨_,rfl,?_⟩;show OkS (zM _ _ [some (mD zA),some (.ref q),some (tI p),y3] A) _;calc FP (d:=.int (p.length:Nat)) (Rk rfl) ?_;show OkS (zM _ _ [some (mD zA),some (.ref q),some (tI p),some (.int (p.length:Nat))] A) _;rw[zI];refine FU (I:=λw Y A'=>A'=A/\1<=w/\w<=p.length/\(∀ b:Nat,w<b->b<=p.length -> ∀ ψ,Phs zA p (b:Nat) ψ->ψ (p.headD 0)≠0)/\Y=[some (mD zA),some (.ref q),some (tI p),some (.int (w:Nat))]) ?_ 100 p.length _ _ () ⟨rfl,hP.n0,AF _,λb h1 h2=>absurd h1 (),rfl⟩;rintro w Y A' ⟨rfl,w1,wp,hmax,rfl⟩;let⟨d,ed,hd⟩:=Rz m h26 hP (b:=(w:Nat)) ();let ecall:∀ A',zm Fj (zD (toD (zC 0)) (zD (toD (zC 2)) (zD (toD (zC 3)) zS))) [some (mD zA),some (.ref q),some (tI p),some (.int (w:Nat))] A'=some (.dat d,A'):=λA'=>DX (BL (d:=mD zA) rfl (BL (d:=tI p) rfl (Ac (d:=.int (w:Nat)) rfl))) (ed A');rcases hd with ⟨rfl,hb,hno⟩|⟨φ,rfl,hφ,hφ0⟩
  .refine zF (BN (zH (x:=.dat .non) (y:=.dat .non) (ecall _) rfl (k:=kIs false) (r:=some (.dat (.bl true),_)) rfl)) ?_;rw[AD rfl];let hw1:w≠1:=λe=>hb (by rw[e];rfl);refine ⟨_,_,_,rfl,w-1,(),rfl,(),(),λb h1 h2=>?_,?_⟩
   .by_cases e:b=w
    .subst e;exact hno
    .exact hmax b () h2
   show [some (mD zA),some (.ref q),some (tI p),some (.int ((w:Nat)-1))]=_;rw[show ((w:Nat):Int)-1=((w-1:Nat):Int) by omega]
  .refine zF (BN (zH (x:=.dat (tI (p.map φ))) (y:=.dat .non) (ecall _) rfl (k:=kIs false) (r:=some (.dat (.bl false),_)) rfl)) ?_;rw[AE (),zN,GA];refine GF.mpr (zq.mpr ⟨_,rfl,⟨_,Eg eT⟩,zF (Ac (d:=btD (p,(w:Nat),p.map φ)) (G9 (BL (d:=tI p) rfl (BL (d:=.int (w:Nat)) rfl (Ac (ecall _)))) (by simp))) ?_⟩);let hqp:q≠pp:=λe=>()
   refine (HA eT (Ao (by rw[AI];omega) (zg (n:=100) ()))).mpr ⟨⟨_,_,rfl⟩,by rw[BJ hqp];exact ep,T++[(p,((w:Nat):Int),p.map φ)],?_,?_,λt ht=>?_⟩
   .rw[Bv (AK.mp eT).1,CD];rfl
   .rw[CD,hT,List.take_add_one,ept];rfl
   .rcases Ab.mp ht with z|z
    .exact hB t z
    .rw[AW.mp z];refine ⟨⟨hP,by show ((w:Nat):Int)<=26;omega,φ,rfl,hφ,hφ0⟩,hP,⟨φ,rfl,hφ,hφ0⟩,λb ψ hψ h0=>?_⟩;let hb:=hψ.le m hP;let hb1:=hψ.b1;show b<=((w:Nat):Int);refine Int.not_lt.mp λhlt=>?_;let eb:((b.toNat:Nat):Int)=b:=()
     exact hmax b.toNat () (by have:b<=(p.length:Int):=hb;omega) ψ (by rw[eb];calc hψ) h0
 .rintro Y A ⟨⟨y2,y3,rfl⟩,ep,T,eT,hT,hB⟩;rw[AI,List.take_of_length_le (AF _)]at hT;rw[zN];refine CK (d:=.tup (T.map btD)) (EZ (x:=.dat (.ref q)) rfl (zf eT)) ⟨T,rfl,λe=>hne ?_,?_,λt ht=>(hB t ht).1,by rw[hT];exact hpw,by rw[hT];exact hnd,λq=>by rw[hT];exact ⟨hPP q,hall q⟩,λt ht=>(hB t ht).2⟩
  .rw[<-hT,e];rfl
  .have:=BC List.length hT;rw[AI]at this;omega
def W2 (m:IsM zA l) (h26:zA.length<=26) (hl:l<=6):∃ T:List Bt,(∀ M,HQ [mD zA] M=some (.tup (T.map btD),M))/\T≠[]/\T.length<=26/\(∀ t∈T,IsB zA t)/\Tok zA T:=by
 let⟨d,A,e,T,rfl,q⟩:=Qj m h26 hl [];refine ⟨T,λM=>zW ?_,q⟩;erw[HQ];calc GG (by erw[D.unds,D.unds];rw[F3];rfl) ⟨_,A,e,by erw[D.und];calc Lj T,rfl,rfl⟩
end
def JV:FS:=(zM (AO 2 (EC (zC 1) (fC (.int 0))))
  (zM (AO 3 (Bg (zD (toD (zC 1)) zS)))
  (zM (Bz (HK (zC 3)) (zM (AO 4 (Bg zS))
  (zM (BO (Ai (zC 3)) (gN 5) (BO (Ai (fOp kIx (zC 0) (zC 5))) (gN 6) (sIf (tst (fOp (E7 true) (zC 6) (zC 2))) (zM (GI (fOp BE (fOp Cw (zC 2) (zC 5)) (fC (.int 1))) (zC 2) (zC 6))
  (C8 (fM C0 (zC 4) (zD (toD (zC 6)) zS)))) Bw)))
  (AO 3 (zC 4)))) 100)
  (Ae (zC 2)))))
def GO:FF:=BA 7 JV
def Hy:FS:=(zM (AO 1 (Ap [2] (Bd (zD (toD (fB BU (zQ (zC 0) zn))) zS)) (gN 2) B2 (fB Bu (zQ (fB GQ (zQ (zm GO (zD (toD (zC 0)) (zD (toD (zC 2)) zS))) zn)) zn))))
  (Ae (fB Bu (zQ (Gg [3] (Ai (zC 1)) (gN 3) (tst (fB GW (zQ (Ap [2] (Ai (zC 3)) (gN 2) B2 (fOp (kTr false 0) (fOp kIx (zC 1) (zC 2)) (zC 3))) zn))) (zC 3)) zn))))
def Gd:FF:=DR (BA 4 Hy)
section
variable {zA:Ya} {l:Nat} {r:Int} {ks:Ye} {φ:Int->Int}
structure Bf (zA:Ya) (r:Int) (ks:Ye) (φ:Int->Int):Prop where
 nd:ks.Nodup
 rg:∀ x∈ks,0<=x/\x<(zA.length:Int)
 self:r∈ks
 zero:φ r=0
 pos:∀ x∈ks,0<=φ x
 pre:∀ x∈ks,(x=r/\φ x=0) \/ ∃ y∈ks,x∈gl zA y/\φ x=φ y+1
def Bf.len (h:Bf zA r ks φ):ks.length<=zA.length:=by
 let h1:=h.nd.length_le_of_subset (l₂:=(List.range zA.length).map λ(k:Nat)=>(k:Int)) λx hx=>by
  let⟨x0,x1⟩:=h.rg x hx;exact Af.mpr ⟨x.toNat,C3.mpr (),()⟩
 rw[AI,Di]at h1;calc h1
def Bf.put (h:Bf zA r ks φ) (hy:y∈ks) (hg:g∈gl zA y) (gr:0<=g/\g<(zA.length:Int)) (hn:g∉ks):Bf zA r (ks++[g]) (λx=>if x=g then φ y+1 else φ x):=by
 let old:∀ x∈ks,(if x=g then φ y+1 else φ x)=φ x:=λx hx=>AE (show ¬ x=g from λe=>hn (e▸hx));refine ⟨EX.mpr ⟨h.nd,by simp,λa ha b hb e=>hn (by rw[AW.mp hb]at e;rw[<-e];calc ha)⟩,λx hx=>?_,BW _ h.self,(old r h.self).trans h.zero,λx hx=>?_,λx hx=>?_⟩ <;> rcases Ab.mp hx with z|z
 .exact h.rg x z
 .rw[AW.mp z];exact gr
 .rw[old x z];exact h.pos x z
 .rw[AW.mp z,AD rfl];have:=h.pos y hy;omega
 .rcases h.pre x z with q|⟨y',q1,q2,q3⟩
  .exact .inl ⟨q.1,(old x z).trans q.2⟩
  .exact .inr ⟨y',BW _ q1,q2,by rw[old x z,old y' q1];calc q3⟩
 .rw[AW.mp z];calc .inr ⟨y,BW _ hy,hg,by rw[AD rfl,old y hy]⟩
def Bf.ind (h:Bf zA r ks φ) {S:Int->Prop} (s0:S r) (hS:∀ y∈ks,S y -> ∀ x∈ks,x∈gl zA y->φ x=φ y+1->S x):∀ x∈ks,S x:=by
 let key:∀ (n:Nat),∀ x∈ks,(φ x).toNat<=n->S x:=by
  intro n;induction n with
  |zero=>
   intro x hx hn;rcases h.pre x hx with q|⟨y,q1,q2,q3⟩
   .rw[q.1];exact s0
   .have:=h.pos y q1;omega
  |succ n ih=>
   intro x hx hn;rcases h.pre x hx with q|⟨y,q1,q2,q3⟩
   .rw[q.1];exact s0
   .have:=h.pos y q1;exact hS y q1 (ih y q1 ()) x hx q2 q3
 calc λx hx=>key _ x hx (AF _)
def Bf.snd (h:Bf zA r ks φ) {S:Int->Prop} (hS:∀ x∈ks,S x -> ∀ g∈gl zA x,S g) (s0:S r):∀ x∈ks,S x:=h.ind s0 λy hy sy x _ hx _=>hS y hy sy x hx
def MU (m:IsM zA l) (h26:zA.length<=26) (r0:0<=r) (r1:r<(zA.length:Int)) (M:Mem):Ok (GO [mD zA,.int r] M) λd A=>∃ ks φ,d=.ref M.length/\Ex M A/\A[M.length]?=some (.dict (phK ks φ))/\Bf zA r ks φ /\ ∀ x∈ks,∀ g∈gl zA x,g∈ks:=by
 erw[GO];rw[B3];erw[JV];show OkS (zM _ _ [some (mD zA),some (.int r),none,none,none,none,none] M) _;let hd1:EC (zC 1) (fC (.int 0)) [some (mD zA),some (.int r),none,none,none,none,none] M=some (.dat (.ref M.length),M++[.dict (phK [r] λ_=>0)]):=by
  erw[EC];rw[show toD (zC 1) [some (mD zA),some (.int r),none,none,none,none,none] (M++[.dict []])=some (.int r,M++[.dict []])from rfl];dsimp only;rw[show toD (fC (.int 0)) [some (mD zA),some (.int r),none,none,none,none,none] (M++[MO.dict []])=some (.int 0,M++[MO.dict []])from rfl];dsimp only;rw[zj];show some (EV.dat (D.ref M.length),(M++[MO.dict []]).set M.length (.dict [(.int r,.int 0)]))=_;rw[List.set_append_right _ _ (AF _),Nat.sub_self];rfl
 rw[zI,zY];calc zF hd1 ?_;rw[zJ,zN,zI,zY];calc zF (J7 (Ac (d:=.int r) rfl) (by simp)) (CM ?_);rw[zN];let e3:((M++[MO.dict (phK [r] λ_=>0)])++[MO.lst [D.int r]])[M.length]?=some (.dict (phK [r] λ_=>0)):=Dv (zj _ _) _;let e4:((M++[MO.dict (phK [r] λ_=>0)])++[MO.lst [D.int r]])[(M++[MO.dict (phK [r] λ_=>0)]).length]?=some (.lst ([r].map D.int)):=zj _ _;rw[show (M++[MO.dict (phK [r] λ_=>0)]).length=M.length+1 by simp]at e4 ⊢;let hx0:Ex M ((M++[MO.dict (phK [r] λ_=>0)])++[MO.lst [D.int r]]):=((Ex.refl M).app _).app _;generalize (M++[MO.dict (phK [r] λ_=>0)])++[MO.lst [D.int r]]=A0 at e3 e4 hx0;show OkS (zM _ _ [some (mD zA),some (.int r),some (.ref M.length),some (.ref (M.length+1)),none,none,none] A0) _;let hb0:Bf zA r [r] λ_=>0:=⟨by simp,λx hx=>by rw[AW.mp hx];exact ⟨r0,r1⟩,by simp,rfl,λ_ _=>Int.le_refl _,λx hx=> .inl ⟨AW.mp hx,rfl⟩⟩;rw[zI];refine FU (I:=λw Y A=>∃ (z:Nat) (ks lv:Ye) (φ:Int->Int) (y4 y5 y6:Option D),Y=[some (mD zA),some (.int r),some (.ref M.length),some (.ref z),y4,y5,y6]/\Ex M A/\M.length<z/\A[M.length]?=some (.dict (phK ks φ))/\A[z]?=some (.lst (lv.map D.int))/\Bf zA r ks φ/\(∀ x∈lv,x∈ks)/\(∀ x∈ks,x∈lv \/ ∀ g∈gl zA x,g∈ks)/\w=(26-ks.length)+if lv.isEmpty then 0 else 1) ?_ 100 26 _ _ () ⟨M.length+1,[r],[r],λ_=>0,_,_,_,rfl,hx0,(),e3,e4,hb0,λ_ h=>h,λ_ h=> .inl h,rfl⟩;rintro w Y A ⟨z,ks,lv,φ,y4,y5,y6,rfl,hx,hz,ed,el,hb,hsub,hcl,rfl⟩;calc zF (VN (f:=zC 3) (j:=z) rfl el) ?_;by_cases hlv:lv=[]
 .subst hlv;rw[AE (),zN];exact CK (d:=.ref M.length) rfl ⟨ks,φ,rfl,hx,ed,hb,λx hx g hg=>(hcl x hx).elim (λh=>by ext h) λh=>h g hg⟩
 let hne:lv.isEmpty=false:=by cases lv with|nil=>exact absurd rfl hlv|cons _ _=>rfl
 rw[AD (by cases lv with|nil=>exact absurd rfl hlv|cons _ _=>rfl),zI,zY];calc En.mpr (D4.mpr ⟨zg (by simp),CM ?_⟩);rw[zN];let hq:z<A.length:=(AK.mp el).1;let ed1:=Dv ed [MO.lst ([]:List D)];let el1:=Dv el [MO.lst ([]:List D)];let eq1:(A++[MO.lst ([]:List D)])[A.length]?=some (.lst (([]:List Int).map D.int)):=zj _ _;let hx1:=hx.app [MO.lst ([]:List D)];generalize A++[MO.lst ([]:List D)]=A1 at ed1 el1 eq1 hx1;generalize A.length=q at hq eq1;show OkS (zM _ _ [some (mD zA),some (.int r),some (.ref M.length),some (.ref z),some (.ref q),y5,y6] A1) _;rw[zI,Co];calc ⟨_,_,_,FJ (h:=zC 3) (x:=.dat (.ref z)) rfl (zf el1),?_⟩;refine Ek (I:=λt Y A=>∃ (bs:Ye) (ψ:Int->Int) (y5 y6:Option D),Y=[some (mD zA),some (.int r),some (.ref M.length),some (.ref z),some (.ref q),y5,y6]/\Ex M A/\A[M.length]?=some (.dict (phK (ks++bs) ψ))/\A[z]?=some (.lst (lv.map D.int))/\A[q]?=some (.lst (bs.map D.int))/\Bf zA r (ks++bs) ψ /\ ∀ i,i<t -> ∀ x,lv[i]?=some x -> ∀ g∈gl zA x,g∈ks++bs) (λt Y A h=>by let⟨_,_,_,_,_,_,_,h,_⟩:=h;calc Or.inl h) ?_ ?_ _ _ ⟨[],φ,_,_,rfl,hx1,by rw[C1];calc ed1,el1,eq1,by rw[C1];exact hb,λi hi=>absurd hi (Nat.not_lt_zero _)⟩
 .rintro t d Y A et ⟨bs,ψ,y5,y6,rfl,hx,ed,el,eq,hb,hdone⟩;rw[AQ]at et;let⟨x,ex,rfl⟩:=Option.map_eq_some_iff.mp et;let hxk:=hsub x (Ax ex);let⟨x0,x1⟩:=hb.rg x (BW _ hxk);refine ⟨_,rfl,?_⟩;show OkS (BO _ _ _ [some (mD zA),some (.int r),some (.ref M.length),some (.ref z),some (.ref q),some (.int x),y6] A) _;rw[Co];refine ⟨_,_,_,Dw (Hk m x0 x1 rfl rfl),?_⟩;refine Ek (gd:=none) (I:=λs Y A=>∃ (bs:Ye) (ψ:Int->Int) (y6:Option D),Y=[some (mD zA),some (.int r),some (.ref M.length),some (.ref z),some (.ref q),some (.int x),y6]/\Ex M A/\A[M.length]?=some (.dict (phK (ks++bs) ψ))/\A[z]?=some (.lst (lv.map D.int))/\A[q]?=some (.lst (bs.map D.int))/\Bf zA r (ks++bs) ψ/\(∀ i,i<t -> ∀ x,lv[i]?=some x -> ∀ g∈gl zA x,g∈ks++bs) /\ ∀ i,i<s -> ∀ g,(gl zA x)[i]?=some g->g∈ks++bs) (λ_ _ _ _=>CU) ?_ ?_ _ _ ⟨bs,ψ,_,rfl,hx,ed,el,eq,hb,hdone,λi hi=>absurd hi (Nat.not_lt_zero _)⟩
  .rintro s d Y A et ⟨bs,ψ,y6,rfl,hx,ed,el,eq,hb,hdone,hs⟩;rw[AQ]at et;let⟨g,eg,rfl⟩:=Option.map_eq_some_iff.mp et;let hgm:g∈gl zA x:=Ax eg;refine ⟨_,rfl,?_⟩;show OkS (sIf _ _ _ [some (mD zA),some (.int r),some (.ref M.length),some (.ref z),some (.ref q),some (.int x),some (.int g)] A) _;rw[De];refine zF (BN (zH (x:=.dat (.int g)) (y:=.dat (.ref M.length)) rfl rfl (Mw (neg:=true) (.inl ed)))) ?_;let hkl:=hb.len;by_cases hg:g∈ks++bs
   .rw[AE (by simp only[BF hg];decide),Dp];refine ⟨bs,ψ,_,rfl,hx,ed,el,eq,hb,hdone,λi hi g' eg'=>?_⟩;by_cases e:i=s
    .subst e;rw[eg]at eg';ext eg';exact hg
    .exact hs i () g' eg'
   .rw[AD (by simp only[A6 hg];decide),zI];refine OO (v:=.int (ψ x+1)) (k:=.int g) (n:=M.length) (zH (zH (x:=.dat (.ref M.length)) (y:=.dat (.int x)) rfl rfl (EI (.inl ed) (BW _ hxk))) rfl D1) rfl rfl (MF ed hg ()) ?_;let hb':=hb.put (BW _ hxk) hgm ((Il m x0 x1).2 g hgm) hg;rw[CS]at hb' ⊢;generalize (λy=>if y=g then ψ x+1 else ψ y)=ψ' at hb';let ed1:(A.set M.length (.dict (phK (ks++(bs++[g])) ψ')))[M.length]?=some (.dict (phK (ks++(bs++[g])) ψ')):=Bv (AK.mp ed).1;let el1:(A.set M.length (.dict (phK (ks++(bs++[g])) ψ')))[z]?=some (.lst (lv.map D.int)):=by rw[BJ ()];exact el
    let eq1:(A.set M.length (.dict (phK (ks++(bs++[g])) ψ')))[q]?=some (.lst (bs.map D.int)):=by rw[BJ ()];exact eq
    let hx1:=hx.set (AF _) (.dict (phK (ks++(bs++[g])) ψ'));generalize A.set M.length (.dict (phK (ks++(bs++[g])) ψ'))=A1 at ed1 el1 eq1 hx1;rw[zN,GA];calc GF.mpr (zq.mpr ⟨_,rfl,⟨_,Eg eq1⟩,zF (Ac (d:=.int g) rfl) ?_⟩);rw[BK]at hkl;refine (HA eq1 (Ao (by rw[AI];omega) (zg (n:=100) ()))).mpr ⟨bs++[g],ψ',_,rfl,hx1.set () _,by rw[BJ ()];calc ed1,by rw[BJ ()];calc el1,by rw[Bv (AK.mp eq1).1,CD];rfl,hb',λi hi y ey g' hg'=>?_,λi hi g' eg'=>?_⟩
    .rw[<-CS];exact BW _ (hdone i hi y ey g' hg')
    .by_cases e:i=s
     .subst e;rw[eg]at eg';ext eg';simp
     .rw[<-CS];exact BW _ (hs i () g' eg')
  .rintro Y A ⟨bs,ψ,y6,rfl,hx,ed,el,eq,hb,hdone,hs⟩;refine ⟨bs,ψ,_,_,rfl,hx,ed,el,eq,hb,λi hi y ey g hg=>?_⟩;by_cases e:i=t
   .subst e;rw[ex]at ey;ext ey;let⟨j,hj,ej⟩:=List.mem_iff_getElem.mp hg;exact hs j (by rw[AI];calc hj) g (by rw[AJ hj,ej])
   .exact hdone i () y ey g hg
 .rintro Y A ⟨bs,ψ,y5,y6,rfl,hx,ed,el,eq,hb,hdone⟩;rw[zN,zY];refine zq.mpr ⟨_,rfl,zJ.mpr ⟨(26-(ks++bs).length)+(if bs.isEmpty then 0 else 1),?_,q,ks++bs,bs,ψ,_,_,_,rfl,hx,(),ed,eq,hb,λx h=>Bb _ h,λx hx=>?_,rfl⟩⟩
  .have hkl:=hb.len;rw[hne];rw[BK]at hkl ⊢;cases bs with
   |nil=>simp
   |cons a b=>simp at hkl ⊢;omega
  .rcases Ab.mp hx with h|h
   .rcases hcl x h with h'|h'
    .obtain ⟨i,hi,ei⟩:=List.mem_iff_getElem.mp h';exact .inr λg hg=>hdone i (by rw[AI];calc hi) x (by rw[AJ hi,ei]) g hg
    .exact .inr λg hg=>BW _ (h' g hg)
   .exact .inl h
end
section
variable {zA:Ya} {l:Nat}
structure Rs (zA:Ya) (r:Int) (g:Ye):Prop where
 pw:g.Pairwise (· < ·)
 rg:∀ x∈g,0<=x/\x<(zA.length:Int)
 self:r∈g
 cl:∀ x∈g,∀ y∈gl zA x,y∈g
 snd:∀ S:Int->Prop,(∀ x∈g,S x -> ∀ y∈gl zA x,S y)->S r -> ∀ x∈g,S x
def Rs.of (h:Bf zA r ks φ) (hc:∀ x∈ks,∀ g∈gl zA x,g∈ks):Rs zA r (zX ks):=by
 let hp:=zo ks;refine ⟨((E4 ks).and (hp.nodup_iff.mpr h.nd)).imp λ{a b} h=>by have:=h.1;have:=h.2;omega,λx hx=>h.rg x (hp.mem_iff.mp hx),hp.mem_iff.mpr h.self,λx hx y hy=>hp.mem_iff.mpr (hc x (hp.mem_iff.mp hx) y hy),λS hS s0 x hx=>?_⟩;calc h.snd (λx hx=>hS x (hp.mem_iff.mpr hx)) s0 x (hp.mem_iff.mp hx)
def WL {GL:Ya} (hG:∀ r,r<zA.length->Rs zA (r:Nat) (GL.getD r [])) (hl:GL.length=zA.length):(p∈GL /\ ∀ x∈p,GL.getD x.toNat []=p) ↔ Part zA p:=by
 constructor
 .rintro ⟨hp,hx⟩;let⟨r,hr,e⟩:=Bo hp;let g:=hG r ();rw[BB,AJ hr,Option.getD_some,e]at g;refine ⟨g.pw,List.length_pos_of_mem g.self,g.rg,g.cl,λS hS x hxp sx y hy=>?_⟩;let⟨x0,x1⟩:=g.rg x hxp;let g2:=hG x.toNat ();rw[hx x hxp,show ((x.toNat:Nat):Int)=x by omega]at g2;exact g2.snd S hS sx y hy
 .intro hP;let key:∀ x∈p,GL.getD x.toNat []=p:=λx hx=>by
   let⟨x0,x1⟩:=hP.mem x hx;let g:=hG x.toNat ();rw[show ((x.toNat:Nat):Int)=x by omega]at g;exact J3 g.pw hP.pw λy=>⟨λhy=>g.snd (· ∈ p) (λz _ hz u hu=>hP.cl z hz u hu) hx y hy,λhy=>hP.con (· ∈ GL.getD x.toNat []) (λz _ hz u hu=>g.cl z hz u hu) x hx g.self y hy⟩
  calc ⟨?_,key⟩;let⟨x,hx⟩:=List.exists_mem_of_ne_nil p (by have:=hP.n0;intro e;rw[e]at this;simp at this);let⟨x0,x1⟩:=hP.mem x hx;rw[<-key x hx];calc CT ()
def Xt (a b:Ye) (M:Mem):kTr false 0 (.dat (tI a)) (.dat (tI b)) M=some (.dat (.bl (decide (a=b))),M):=by
 let e:AV 1 (tI a) (tI b)=decide (a=b):=by
  rw[DC,decide_eq_true_iff];exact ⟨λh=>Mx (Mb 1 _ _ (DZ a) (DZ b) h),λh=>by rw[h];calc Iw 1 _ (DZ b)⟩
 show (if ((a.map D.int).all (zZ 0)&&(b.map D.int).all (zZ 0))=true then some (EV.dat (.bl (nb false (AV 1 (tI a) (tI b)))),M) else none)=_;rw[show (a.map D.int).all (zZ 0)=true from DZ a,show (b.map D.int).all (zZ 0)=true from DZ b,AD (),e];rfl
def Wt (e:A[n]?=some (.dict (phK ks φ))) (h:ks.length<64):GQ [.dat (.ref n)] A=some (.fl ((zX ks).map D.int),A):=by
 erw[GQ];dsimp only;rw[e];dsimp only;rw[show (phK ks φ).map (·.1)=ks.map D.int by erw[phK];rw[List.map_map];rfl,E6];dsimp only;rw[AD h]
def SW {own:Yj} {fi:FI} {g:FG} {tc:FT} {te:FE} {Y:Sd} {M M1:Mem} {ts:Ya} (h:Ap own fi g tc te Y M=some (.fl (ts.map tI),M1)) (hn:DU ts=true) (hl:ts.length<60):Gg own fi g tc te Y M=some (.fl ((Bp (zV ts)).map tI),M1):=by
 erw[Gg];rw[h];dsimp only;rw[Js];dsimp only;rw[AD ⟨hn,hl⟩];rfl
def Qu (m:IsM zA l) (h26:zA.length<=26) (M:Mem):Ok (BA 4 Hy [mD zA] M) λd _=>∃ PP:List (List Int),d=.tup (PP.map tI)/\PP.Nodup/\PP.length<=26/\PP.Pairwise (λa b=>AM b a=false) /\ ∀ q,q∈PP ↔ Part zA q:=by
 rw[B3];erw[Hy];show OkS (zM _ _ [some (mD zA),none,none,none] M) _;rw[zI,zY];calc EU.mpr ⟨_,_,_,D6 (HL rfl) () (),by rw[G7];calc zg (),?_⟩;rw[Bj];refine Ok.mono (Hu (n:=zA.length) (I:=λi acc A=>∃ GL:List (List Int),acc=GL.map tI/\GL.length=i /\ ∀ r,r<i->Rs zA (r:Nat) (GL.getD r [])) ?_ ⟨[],rfl,rfl,λr hr=>absurd hr (Nat.not_lt_zero _)⟩) ?_
 .rintro i acc A hi ⟨GL,rfl,hGl,hG⟩;refine ⟨_,rfl,?_⟩;refine Ew.mpr (E2.mpr (Ew.mpr (E2.mpr (Fn.mpr (zF (BL (d:=mD zA) rfl (Ac (d:=.int (i:Nat)) rfl)) (Ok.mono (MU m h26 (r:=(i:Nat)) () () A) ?_))))));rintro d A' ⟨ks,φ,rfl,_,ed,hb,hc⟩;let hkl:=hb.len;refine Ep.mpr (zF (Wt ed ()) (Ep.mpr (zF (a:=.dat (tI (zX ks))) (M:=A') rfl (zJ.mpr ⟨GL++[zX ks],by rw[CD];rfl,by simp[hGl],λr hr=>?_⟩))));by_cases q:r=i
  .subst q;rw[BB,Dk (),hGl,Nat.sub_self];exact Rs.of hb hc
  .rw[BB,BI (),<-BB];exact hG r ()
 .rintro ys A ⟨GL,rfl,hGl,hG⟩;refine CM ?_;rw[zN];let e1:(A++[MO.lst (GL.map tI)])[A.length]?=some (.lst (GL.map tI)):=zj _ _;generalize A++[MO.lst (GL.map tI)]=A1 at e1;generalize A.length=p at e1;show OkS (Ae _ [some (mD zA),some (.ref p),none,none] A1) _;let hc:=JS (own:=[3]) (fi:=Ai (zC 1)) (g:=gN 3) (tc:=tst (fB GW (zQ (Ap [2] (Ai (zC 3)) (gN 2) B2 (fOp (kTr false 0) (fOp kIx (zC 1) (zC 2)) (zC 3))) zn))) (te:=zC 3) (Y:=[some (mD zA),some (.ref p),none,none]) (M:=A1) GL tI tI (λs=>s.all λx=>decide (GL.getD x.toNat []=s)) (FJ (h:=zC 1) (x:=.dat (.ref p)) rfl (zf e1)) (Or.inl e1) () λs hs=>⟨_,rfl,by
   let⟨r,hr,e⟩:=Bo hs;let g:=hG r ();rw[BB,AJ hr,Option.getD_some,e]at g;let hsl:s.length<=26:=by
    have:=KN (a:=0) (n:=zA.length) g.pw λx hx=>by have:=g.rg x hx;omega
    omega
   have:=Ly (bs:=s.map λx=>decide (GL.getD x.toNat []=s)) ((HU (own:=[2]) (fi:=Ai (zC 3)) (g:=gN 2) (te:=fOp (kTr false 0) (fOp kIx (zC 1) (zC 2)) (zC 3)) (Y:=[some (mD zA),some (.ref p),none,some (tI s)]) (M:=A1) s D.int (λx=> .bl (decide (GL.getD x.toNat []=s))) (gd:=none) (Dw rfl) trivial () λx hx=>⟨_,rfl,by
    let⟨x0,x1⟩:=g.rg x hx;let hlt:x.toNat<GL.length:=()
    calc zH (x:=.dat (tI (GL.getD x.toNat []))) (y:=.dat (tI s)) (zH (x:=.dat (.ref p)) (y:=.dat (.int x)) rfl rfl (Du (zf e1) ?_)) rfl (Xt _ _ _);have:=GN (xs:=GL.map tI) (j:=x.toNat) (v:=tI (GL.getD x.toNat [])) (by rw[AQ,BB,AJ hlt];rfl);rw[show ((x.toNat:Nat):Int)=x by omega]at this;calc this⟩).trans (by rw[List.map_map];rfl))
   rw[MZ]at this;exact BN this,λ_=>rfl⟩
  let hmem:∀ q,q∈GL.filter (λs=>s.all λx=>decide (GL.getD x.toNat []=s)) ↔ Part zA q:=λq=>by
   rw[List.mem_filter,<-WL hG hGl,Aj];exact and_congr_right λ_=>⟨λh x hx=>By (h x hx),λh x hx=>BF (h x hx)⟩
  let hfl:=List.length_filter_le (λs:List Int=>s.all λx=>decide (GL.getD x.toNat []=s)) GL;generalize GL.filter (λs=>s.all λx=>decide (GL.getD x.toNat []=s))=ts at hc hmem hfl;let hne:DU ts=true:=by
   erw[DU];rw[Aj];intro f hf;have:=((hmem f).mp hf).n0;cases f with
   |nil=>simp at this
   |cons a b=>rfl
  let hpm:=F6 (zV ts);let hil:=Fp ts;calc CK (d:=.tup ((Bp (zV ts)).map tI)) (EZ (SW hc hne ()) DV) ⟨_,rfl,hpm.nodup_iff.mpr (Oo ts),by rw[hpm.length_eq];omega,IU _,λq=>by rw[hpm.mem_iff,K5,hmem]⟩
def Vj (m:IsM zA l) (h26:zA.length<=26):∃ PP:List (List Int),(∀ M,Gd [mD zA] M=some (.tup (PP.map tI),M))/\PP.Nodup/\PP.length<=26/\PP.Pairwise (λa b=>AM b a=false) /\ ∀ q,q∈PP ↔ Part zA q:=by
 let⟨d,A,e,PP,rfl,q⟩:=Qu m h26 [];refine ⟨PP,λM=>zW ?_,q⟩;erw[Gd];calc GG (by erw[D.unds,D.unds];rw[F3];rfl) ⟨_,A,e,by erw[D.und];calc GZ PP,rfl,rfl⟩
end
def Im:FS:=(zM (Bz (tst (fOp kGt (zC 1) (fC (.int 0)))) (Gu 0 1 (zD (toD (zC 1)) (zD (toD (fOp CV (zC 0) (zC 1))) zS))) 100)
  (Ae (zC 0)))
def zw:FF:=DR (BA 2 Im)
def Hz:FS:=(zM (AO 2 (zm GO (zD (toD (zC 0)) (zD (toD (fOp kIx (zC 1) (fC (.int 0)))) zS))))
  (zM (AO 3 (fC (.int 0)))
  (zM (BO (Ai (zC 1)) (gN 4) (BO (Ai (fOp kIx (zC 0) (zC 4))) (gN 5) (AO 3 (zm zw (zD (toD (zC 3)) (zD (toD (fB ER (zQ (fOp Fm (fOp BE (fOp Cw (zC 2) (zC 4)) (fC (.int 1))) (fOp Cw (zC 2) (zC 5))) zn))) zS))))))
  (Ae (Cf (zD (toD (zC 1)) (zD (toD (zC 3)) (zD (toD (fB Bu (zQ (Ap [4] (Ai (zC 1)) (gN 4) B2 (fOp CV (fOp Cw (zC 2) (zC 4)) (zC 3))) zn))) zS))))))))
def F9:FF:=DR (BA 6 Hz)
def KL:FS:=(Ae (fB Bu (zQ (Ap [1] (Ai (zm Gd (zD (toD (zC 0)) zS))) (gN 1) B2 (zm F9 (zD (toD (zC 0)) (zD (toD (zC 1)) zS)))) zn)))
def Fw:FF:=DR (BA 2 KL)
def Wb (a0:0<=a) (b0:0<=b) (b1:b<100):∃ g:Int,(∀ M,zw [.int a,.int b] M=some (.int g,M))/\0<=g /\ ∀ c,c ∣ g ↔ c ∣ a/\c ∣ b:=by
 suffices h:Ok (BA 2 Im [.int a,.int b] []) λd _=>∃ g:Int,d=.int g/\0<=g /\ ∀ c,c ∣ g ↔ c ∣ a/\c ∣ b by
  let⟨d,A,e,g,rfl,q⟩:=h;refine ⟨g,λM=>zW ?_,q⟩;erw[zw];exact GG rfl ⟨_,A,e,rfl,rfl,rfl⟩
 rw[B3];erw[Im];show OkS (zM _ _ [some (.int a),some (.int b)] []) _;rw[zI];refine FU (I:=λw Y A=>∃ x y:Int,Y=[some (.int x),some (.int y)]/\0<=x/\0<=y/\(w:Int)=y /\ ∀ c,c ∣ x/\c ∣ y ↔ c ∣ a/\c ∣ b) ?_ 100 b.toNat _ _ () ⟨a,b,rfl,a0,b0,(),λ_=>Iff.rfl⟩;rintro w Y A ⟨x,y,rfl,x0,y0,hw,hc⟩;calc zF (BN (zH (x:=.dat (.int y)) (y:=.dat (.int 0)) rfl rfl (zW (WY.mpr ⟨rfl,rfl⟩)))) ?_;by_cases h:0<y
 .rw[AD (~~~h),Qq];let m0:0<=x % y:=Int.emod_nonneg _ ();let m1:=EA x h;refine zF (BL (d:=.int y) rfl (Ac (zH (x:=.dat (.int x)) (y:=.dat (.int y)) rfl rfl (Hm h)))) ⟨_,_,rfl,(x % y).toNat,(),y,x % y,rfl,y0,m0,(),λc=>?_⟩;rw[<-hc];let e:=Int.mul_ediv_add_emod x y;constructor
  .rintro ⟨h1,h2⟩;exact ⟨by rw[<-e];calc Int.dvd_add (Int.dvd_trans h1 (Int.dvd_mul_right _ _)) h2,h1⟩
  .rintro ⟨h1,h2⟩;calc ⟨h2,?_⟩;rw[Int.emod_def];exact Int.dvd_sub h1 (Int.dvd_trans h2 (Int.dvd_mul_right _ _))
 .rw[AE (~~~h),zN];have:y=0:=()
  subst this;calc CK (d:=.int x) rfl ⟨x,rfl,x0,λc=>by rw[<-hc];exact ⟨λh=>⟨h,Int.dvd_zero c⟩,λh=>h.1⟩⟩
def YW (hf:f Y M=some (.dat (.int i),M)):fB ER (zQ f zn) Y M=some (.dat (.int (if i<0 then -i else i)),M):=by
 erw[fB,zQ,zn];rw[hf];rfl
section
variable {zA:Ya} {l:Nat} {r:Int} {ks:Ye} {φ:Int->Int}
def Bf.lt (h:Bf zA r ks φ) (hx:x∈ks):φ x<(ks.length:Int):=by
 let key:∀ x∈ks,∀ n:Nat,(n:Int)<=φ x->(n:Int)∈ks.map φ:=by
  refine h.ind (S:=λx=>∀ n:Nat,(n:Int)<=φ x->(n:Int)∈ks.map φ) (λn hn=>?_) λy hy sy x hx _ e n hn=>?_
  .rw[h.zero]at hn;exact Af.mpr ⟨r,h.self,by rw[h.zero];omega⟩
  .by_cases q:(n:Int)=φ x
   .exact Af.mpr ⟨x,hx,q.symm⟩
   .exact sy n ()
 let p0:=h.pos x hx;let h1:((List.range ((φ x).toNat+1)).map λ(k:Nat)=>(k:Int)).length<=(ks.map φ).length:=by
  refine List.Nodup.length_le_of_subset ?_ λz hz=>?_
  .unfold List.Nodup;rw[List.pairwise_map];exact (List.nodup_range (n:=(φ x).toNat+1)).imp λh e=>h (Int.ofNat.inj e)
  .obtain ⟨k,hk,rfl⟩:=Af.mp hz;have:=C3.mp hk;exact key x hx k ()
 rw[AI,Di,AI]at h1;omega
def Bf.bm (m:IsM zA l) (hP:Part zA p) (h:Bf zA (p.headD 0) ks φ) (hk:∀ x,x∈ks ↔ x∈p) (b1:1<=B) (hB:∀ c,c ∣ B ↔ ∀ x∈p,∀ g∈gl zA x,c ∣ φ x+1-φ g):Bm zA (p,B,p.map λx=>φ x % B):=by
 refine ⟨hP,⟨λx=>φ x % B,rfl,⟨b1,λx _=>⟨Int.emod_nonneg _ (),EA _ ()⟩,λx hx g hg=>?_⟩,?_⟩,λb ψ hψ h0=>?_⟩
 .have:=(hB B).mp (Int.dvd_refl B) x hx g hg;rw[Int.emod_add_emod];exact (Int.emod_eq_emod_iff_emod_sub_eq_zero.mpr (Int.emod_eq_zero_of_dvd this)).symm
 .show φ (p.headD 0) % B=0;rw[h.zero];rfl
 .have hb1:=hψ.b1;let st:∀ x∈p,∀ g∈gl zA x,b ∣ ψ x+1-ψ g:=λx hx g hg=>by
   rw[hψ.st x hx g hg];have:=Int.emod_emod_of_dvd (ψ x+1) (Int.dvd_refl b);exact Int.dvd_of_emod_eq_zero (Int.emod_eq_emod_iff_emod_sub_eq_zero.mp this.symm)
  let cg:∀ x∈ks,b ∣ φ x-ψ x:=h.ind (S:=λx=>b ∣ φ x-ψ x) (by rw[h.zero,h0];exact Int.dvd_zero b) λy hy sy x hx hg e=>by
   let h2:=st y ((hk y).mp hy) x hg;have:φ x-ψ x=(φ y-ψ y)+(ψ y+1-ψ x):=()
   rw[this];exact Int.dvd_add sy h2
  refine Int.le_of_dvd (show 0<B by omega) ((hB b).mpr λx hx g hg=>?_);have:φ x+1-φ g=(φ x-ψ x)+(ψ x+1-ψ g)-(φ g-ψ g):=()
  rw[this];calc Int.dvd_sub (Int.dvd_add (cg x ((hk x).mpr hx)) (st x hx g hg)) (cg g ((hk g).mpr (hP.cl x hx g hg)))
def S9:c ∣ (if i<0 then -i else i) ↔ c ∣ i:=by
 split
 .exact Int.dvd_neg
 .exact Iff.rfl
def RU (m:IsM zA l) (h26:zA.length<=26) (hP:Part zA p):Ok (BA 6 Hz [mD zA,tI p] []) λd _=>∃ t:Bt,d=btD t/\t.1=p/\Bm zA t:=by
 let hpl:=hP.len;obtain ⟨p0,hp0⟩:∃ x,p[0]?=some x:=⟨_,AJ hP.n0⟩;let hd0:p.headD 0=p0:=by
  cases p with
  |nil=>ext hp0
  |cons a r=>exact BG hp0
 let hp0m:p0∈p:=Ax hp0;let⟨q0,q1⟩:=hP.mem p0 hp0m;rw[B3];erw[Hz];show OkS (zM _ _ [some (mD zA),some (tI p),none,none,none,none] []) _;rw[zI,zY];calc Fn.mpr (zF (BL (d:=mD zA) rfl (Ac (zH (x:=.dat (tI p)) (y:=.dat (.int 0)) rfl rfl (Du Dq (Jo hp0))))) (Ok.mono (MU m h26 q0 q1 []) ?_));rintro d A ⟨ks,φ,rfl,_,ed,hb,hcl⟩;rw[zJ,zN];let ed:A[0]?=some (.dict (phK ks φ)):=ed;let hk:∀ x,x∈ks ↔ x∈p:=λx=>⟨hb.snd (S:=(· ∈ p)) (λz _ hz g hg=>hP.cl z hz g hg) hp0m x,hP.con (· ∈ ks) (λz _ hz g hg=>hcl z hz g hg) p0 hp0m hb.self x⟩;let hkl:=hb.len;calc FP (d:=.int 0) rfl ?_;show OkS (zM _ _ [some (mD zA),some (tI p),some (.ref 0),some (.int 0),none,none] A) _;rw[zI,Co];calc ⟨_,_,_,Dw rfl,?_⟩;refine Ek (gd:=none) (I:=λt Y A'=>∃ (B:Int) (y4 y5:Option D),Y=[some (mD zA),some (tI p),some (.ref 0),some (.int B),y4,y5]/\A'=A/\0<=B /\ ∀ c,c ∣ B ↔ ∀ i,i<t -> ∀ x,p[i]?=some x -> ∀ g∈gl zA x,c ∣ φ x+1-φ g) (λ_ _ _ _=>CU) ?_ ?_ _ _ ⟨0,_,_,rfl,rfl,Int.le_refl _,λc=>⟨λ_ i hi=>absurd hi (Nat.not_lt_zero _),λ_=>Int.dvd_zero c⟩⟩
 .rintro t d Y A' et ⟨B,y4,y5,rfl,rfl,B0,hB⟩;rw[AQ]at et;let⟨x,ex,rfl⟩:=Option.map_eq_some_iff.mp et;let hxp:=Ax ex;let⟨x0,x1⟩:=hP.mem x hxp;let hxk:=(hk x).mpr hxp;refine ⟨_,rfl,?_⟩;show OkS (BO _ _ _ [some (mD zA),some (tI p),some (.ref 0),some (.int B),some (.int x),y5] A') _;rw[Co];refine ⟨_,_,_,Dw (Hk m x0 x1 rfl rfl),?_⟩;refine Ek (gd:=none) (I:=λs Y A2=>∃ (B:Int) (y5:Option D),Y=[some (mD zA),some (tI p),some (.ref 0),some (.int B),some (.int x),y5]/\A2=A'/\0<=B /\ ∀ c,c ∣ B ↔ (∀ i,i<t -> ∀ x,p[i]?=some x -> ∀ g∈gl zA x,c ∣ φ x+1-φ g) /\ ∀ i,i<s -> ∀ g,(gl zA x)[i]?=some g->c ∣ φ x+1-φ g) (λ_ _ _ _=>CU) ?_ ?_ _ _ ⟨B,_,rfl,rfl,B0,λc=>(hB c).trans ⟨λh=>⟨h,λi hi=>absurd hi (Nat.not_lt_zero _)⟩,λh=>h.1⟩⟩
  .rintro s d Y A2 et ⟨B,y5,rfl,rfl,B0,hB⟩;rw[AQ]at et;let⟨g,eg,rfl⟩:=Option.map_eq_some_iff.mp et;let hgm:g∈gl zA x:=Ax eg;let hgk:=(hk g).mpr (hP.cl x hxp g hgm);refine ⟨_,rfl,?_⟩;show OkS (AO _ _ [some (mD zA),some (tI p),some (.ref 0),some (.int B),some (.int x),some (.int g)] A2) _;let bx:=hb.lt hxk;let bg:=hb.lt hgk;let px:=hb.pos x hxk;let pg:=hb.pos g hgk;let⟨G,eG,G0,hG⟩:=Wb (a:=B) (b:=if φ x+1-φ g<0 then -(φ x+1-φ g) else φ x+1-φ g) B0 (by split <;> omega) (by split <;> omega);rw[zY];refine zF (DX (BL (d:=.int B) rfl (Ac (YW (zH (zH (zH (x:=.dat (.ref 0)) (y:=.dat (.int x)) rfl rfl (EI (.inl ed) hxk)) rfl D1) (zH (x:=.dat (.ref 0)) (y:=.dat (.int g)) rfl rfl (EI (.inl ed) hgk)) Gw)))) (eG A2)) (zJ.mpr ⟨G,_,rfl,rfl,G0,λc=>?_⟩);rw[hG,S9,hB];constructor
   .rintro ⟨⟨h1,h2⟩,h3⟩;refine ⟨h1,λi hi g' eg'=>?_⟩;by_cases e:i=s
    .subst e;rw[eg]at eg';ext eg';exact h3
    .exact h2 i () g' eg'
   .rintro ⟨h1,h2⟩;exact ⟨⟨h1,λi hi=>h2 i ()⟩,h2 s () g eg⟩
  .rintro Y A2 ⟨B,y5,rfl,rfl,B0,hB⟩;refine ⟨B,_,_,rfl,rfl,B0,λc=>(hB c).trans ?_⟩;constructor
   .rintro ⟨h1,h2⟩ i hi y ey g hg;by_cases e:i=t
    .subst e;rw[ex]at ey;ext ey;let⟨j,hj,ej⟩:=List.mem_iff_getElem.mp hg;exact h2 j (by rw[AI];calc hj) g (by rw[AJ hj,ej])
    .exact h1 i () y ey g hg
   .exact λh=>⟨λi hi=>h i (),λi hi g eg=>h t () x ex g (Ax eg)⟩
 .rintro Y A' ⟨B,y4,y5,rfl,rfl,B0,hB⟩;let hB':∀ c,c ∣ B ↔ ∀ x∈p,∀ g∈gl zA x,c ∣ φ x+1-φ g:=λc=>(hB c).trans ⟨λh x hx=>by
   let⟨i,hi,ei⟩:=List.mem_iff_getElem.mp hx;exact h i (by rw[AI];calc hi) x (by rw[AJ hi,ei]),λh i _ x ex=>h x (Ax ex)⟩
  let b1:1<=B:=by
   refine Int.not_lt.mp λhlt=>?_;have:B=0:=()
   subst this;let nx:∀ n:Nat,∃ x∈p,(n:Int)<=φ x:=by
    intro n;induction n with
    |zero=>calc ⟨p0,hp0m,hb.pos p0 hb.self⟩
    |succ n ih=>
     let⟨x,hx,e⟩:=ih;let hl:=(Il m (hP.mem x hx).1 (hP.mem x hx).2).1;let⟨g,hg⟩:=List.exists_mem_of_ne_nil (gl zA x) λe=>by rw[e,Bq]at hl;have:=m.l0;omega
     have:=Int.zero_dvd.mp ((hB' 0).mp (Int.dvd_refl 0) x hx g hg);exact ⟨g,hP.cl x hx g hg,()⟩
   let⟨x,hx,e⟩:=nx 30;have:=hb.lt ((hk x).mpr hx);omega
  rw[zN];refine CK (d:=btD (p,B,p.map λx=>φ x % B)) (G9 (BL (d:=tI p) rfl (BL (d:=.int B) rfl (Ac (d:=tI (p.map λx=>φ x % B)) ?_))) (by simp)) ⟨_,rfl,rfl,(hd0▸hb:Bf zA (p.headD 0) ks φ).bm m hP hk b1 hB'⟩;refine (EZ (HU (gd:=none) p D.int (λx=> .int (φ x % B)) (Dw rfl) trivial () λx hx=>⟨_,rfl,zH (x:=.dat (.int (φ x))) (y:=.dat (.int B)) (zH (x:=.dat (.ref 0)) (y:=.dat (.int x)) rfl rfl (EI (.inl ed) ((hk x).mpr hx))) rfl (Hm ())⟩) DV).trans ?_;erw[tI];rw[List.map_map];rfl
def Xh (m:IsM zA l) (h26:zA.length<=26) (hP:Part zA p):∃ t:Bt,(∀ M,F9 [mD zA,tI p] M=some (btD t,M))/\t.1=p/\Bm zA t:=by
 let⟨d,A,e,t,rfl,q⟩:=RU m h26 hP;refine ⟨t,λM=>zW ?_,q⟩;erw[F9];calc GG (by erw[D.unds,D.unds,D.unds];rw[F3,show D.und 0 (tI p)=true from EY _];rfl) ⟨_,A,e,MX t,rfl,rfl⟩
def Mj (m:IsM zA l) (h26:zA.length<=26):∃ T:List Bt,(∀ M,Fw [mD zA] M=some (.tup (T.map btD),M))/\T.length<=26/\Tok zA T:=by
 let⟨PP,eP,hnd,hPl,hpw,hP⟩:=Vj m h26;let hc:∀ p:List Int,∃ t:Bt,p∈PP->(∀ M,F9 [mD zA,tI p] M=some (btD t,M))/\t.1=p/\Bm zA t:=λp=>by
  by_cases h:p∈PP
  .obtain ⟨t,q⟩:=Xh m h26 ((hP p).mp h);exact ⟨t,λ_=>q⟩
  .exact ⟨([],0,[]),λz=>absurd z h⟩
 let⟨τ,hτ⟩:=Classical.axiomOfChoice hc;let e1:(PP.map τ).map (·.1)=PP:=by
  rw[List.map_map];exact (List.map_congr_left λp hp=>(hτ p hp).2.1).trans (List.map_id _)
 refine ⟨PP.map τ,λM=>zW ?_,by rw[AI];calc hPl,by rw[e1];calc hpw,by rw[e1];exact hnd,λq=>by rw[e1];exact hP q,λt ht=>?_⟩
 .unfold Fw;calc GG (by erw[D.unds,D.unds];rw[F3];rfl) ?_;rw[B3];erw[KL];show OkS (Ae _ [some (mD zA),none] []) _;refine CK (d:=.tup ((PP.map τ).map btD)) ((EZ (HU (gd:=none) PP tI (λp=>btD (τ p)) (Dw (DX (Ac (d:=mD zA) rfl) (eP []))) trivial () λp hp=>⟨_,rfl,DX (BL (d:=mD zA) rfl (Ac (d:=tI p) rfl)) ((hτ p hp).1 [])⟩) DV).trans ?_) ⟨by erw[D.und];calc Lj _,rfl,rfl⟩;rw[List.map_map];rfl
 .obtain ⟨p,hp,rfl⟩:=Af.mp ht;calc (hτ p hp).2.2
def Bm.eq (h:Bm zA t) (h':Bm zA t') (e:t.1=t'.1):t=t':=by
 let⟨p,b,f⟩:=t;let⟨p',b',f'⟩:=t';let e:p=p':=e;subst e;let⟨φ,e1,h1,h2⟩:=h.ph;let⟨ψ,e2,h3,h4⟩:=h'.ph;let eb:b=b':=Int.le_antisymm (h'.max _ _ h1 h2) (h.max _ _ h3 h4);subst eb;let hP:=h.part;let hm:p.headD 0∈p:=by
  cases p with
  |nil=>have:=hP.n0;simp at this
  |cons a r=>simp
 let key:=hP.con (λx=>φ x=ψ x) (λx hx e g hg=>by rw[h1.st x hx g hg,h3.st x hx g hg,e]) (p.headD 0) hm (h2.trans h4.symm);let e1:f=p.map φ:=e1;let e2:f'=p.map ψ:=e2;rw[e1,e2,List.map_congr_left key]
def Tok.eq (h:Tok zA T) (h':Tok zA T'):T=T':=by
 let e:T.map (·.1)=T'.map (·.1):=JO ((List.perm_ext_iff_of_nodup h.nd h'.nd).mpr λq=>(h.all q).trans (h'.all q).symm) h.pw h'.pw;let hl:T.length=T'.length:=by simpa using BC List.length e
 refine List.ext_getElem hl λi h1 h2=>(h.bm _ (Au _)).eq (h'.bm _ (Au _)) ?_;have:=BC (·[i]?) e;simpa [h1,h2] using this
end
end Lac
namespace Lab
open L2 L3 ST Law
open Lac
def K0:FS:=(zM (AO 1 (zm Gj (zD (toD (zC 0)) zS)))
  (zM (BO (Bd (zD (toD (fOp BE (fC (.int 2)) (fB BU (zQ (fSl (zC 0) EM (Dy (fC (.int 8)))) zn)))) zS)) (gN 2) (zM (AO 3 (zm G8 (zD (toD (zC 1)) (zD (toD (fC (.int 26))) (zD (toD (fC (.int 6))) zS)))))
  (sIf (EG (tst (zm HM (zD (toD (zm Fw (zD (toD (zC 3)) zS))) (zD (toD (zm HQ (zD (toD (zC 3)) zS))) zS))))) (Ae (fC (.bl false))) Bw)))
  (Ae (zm HM (zD (toD (zm Fw (zD (toD (Cf (zD (toD (Cf (zD (toD (fC (.int 0))) zS))) zS))) zS))) (zD (toD (Cf (zD (toD (Cf (zD (toD (Cf (zD (toD (fC (.int 0))) zS))) (zD (toD (fC (.int 1))) (zD (toD (Cf (zD (toD (fC (.int 0))) zS))) zS))))) zS))) zS))))))
def EN:FF:=BA 4 K0
def NN (m:IsM zA l) (h26:zA.length<=26) (hT:T.length<=26) (h:Tok zA T):Pl 3 (.tup (T.map btD)):=by
 refine Pl.tup (by rw[AI];omega) λx hx=>?_;let⟨t,ht,rfl⟩:=Af.mp hx;let b:=h.bm t ht;let hl:=b.part.len;let⟨φ,e,_⟩:=b.ph;let hl2:t.2.2.length<=26:=by rw[e,AI];omega
 refine Pl.tup (by simp) λy hy=>?_;rcases AL.mp hy with z|z
 .rw[z];exact Pl.ints ()
 rcases AL.mp z with z|z
 .rw[z];exact Pl.int 1 _
 .rw[AW.mp z];calc Pl.ints ()
def Mv:IsM [[0]] 1:=⟨(),(),()⟩
def TY:Tok [[0]] [([0],1,[0])]:=by
 let hg:∀ x:Int,0<=x->x<1->gl [[0]] x=[0]:=λx h0 h1=>by
  have:x=0:=()
  subst this;rfl
 let hp:Part [[0]] [0]:=⟨by simp,(),(),(),λS _ x hx sx y hy=>by
  rw[AW.mp hy];rw[AW.mp hx]at sx;calc sx⟩
 refine ⟨by simp,by simp,λq=>?_,λt ht=>?_⟩
 .rw[List.map_singleton,AW];refine ⟨λe=>by rw[e];exact hp,λh=>?_⟩;let⟨x,hx⟩:=List.exists_mem_of_ne_nil q (by have:=h.n0;intro e;rw[e]at this;simp at this);let h1:=h.mem x hx;have:x=0:=by simp at h1;omega
  subst this;exact h.apart hp hx (by simp)
 .rw[AW.mp ht];refine ⟨hp,⟨λ_=>0,rfl,⟨(),(),()⟩,rfl⟩,λb ψ hψ h0=>?_⟩;let h0:ψ 0=0:=h0;let h1:=hψ.st 0 (by simp) 0 ();let b1:=hψ.b1;rw[h0]at h1;show b<=1;refine Int.not_lt.mp λhlt=>?_;rw[Int.emod_eq_of_lt () ()]at h1;omega
def QM (ns:Ye) (h:ns.length<=63):∃ M',EN [.ref 0] [.fro (ns.map D.int)]=some (.bl true,M'):=by
 suffices hh:Ok (EN [.ref 0] [.fro (ns.map D.int)]) λd _=>d=.bl true by
  let⟨d,M',e,rfl⟩:=hh;exact ⟨M',e⟩
 erw[EN];rw[B3];erw[K0];show OkS (zM _ _ [some (.ref 0),none,none,none] _) _;rw[zI,zY];calc Fn.mpr (zF (Ac (d:=.ref 0) rfl) (Ok.mono (Zo h) ?_));rintro d M1 ⟨rfl,g1,e0,hl3⟩;rw[zJ,zN];show OkS (zM _ _ [some (.ref 0),some (.ref 2),none,none] M1) _;rw[zI,Co];let⟨c,ec,lc⟩:=ZF (Y:=[some (.ref 0),some (.ref 2),none,none]) (M:=M1) (j:=0) (i:=8) rfl rfl e0;let elen:=GK ec DV;rw[AI]at elen;calc ⟨_,_,_,D6 (j:=2+(c.length:Int)) (zH (x:=.dat (.int 2)) rfl elen D1) () (),?_⟩;refine Gs (n:=(2+(c.length:Int)).toNat) (I:=λt Y A=>(∃ y2 y3,Y=[some (.ref 0),some (.ref 2),y2,y3])/\Gen A 2 1) ?_ ?_ _ _ ⟨⟨_,_,rfl⟩,g1⟩
 .rintro t Y A0 ht ⟨⟨y2,y3,rfl⟩,g0⟩;calc ⟨_,rfl,?_⟩;show OkS (zM _ _ [some (.ref 0),some (.ref 2),some (.int (t:Nat)),y3] A0) _;rw[zI,zY];calc Fn.mpr (zF (BL (d:=.ref 2) rfl (BL (d:=.int 26) rfl (Ac (d:=.int 6) rfl))) (Ok.mono (Sj g0) ?_));rintro d A1 ⟨zA,l,rfl,m,h26,hl,nw1,hlen1⟩;rw[zJ,zN];let⟨T,eT,hTl,hT⟩:=Mj m h26;let⟨T',eT',_,_,_,hT'⟩:=W2 m h26 hl;let e:T=T':=hT.eq hT';subst e;show OkS (sIf _ _ _ [some (.ref 0),some (.ref 2),some (.int (t:Nat)),some (mD zA)] A1) _;rw[De];calc zF (Uu (Pk 3 () (NN m h26 hTl hT) (DX (Ac (d:=mD zA) rfl) (eT A1)) (DX (Ac (d:=mD zA) rfl) (eT' A1)))) ?_;rw[AE (),Dp];exact ⟨⟨_,_,rfl⟩,nw1.gen⟩
 .rintro Y A ⟨⟨y2,y3,rfl⟩,nw⟩;rw[zN];let⟨T,eT,hTl,hT⟩:=Mj Mv ();let e:=hT.eq TY;subst e;calc CK (d:=.bl true) (Pk 3 () (NN Mv () hTl hT) (DX (Ac (d:=mD [[0]]) (G9 (Ac (KA (d:=.int 0) rfl)) (by simp))) (eT A)) ?_) rfl;calc G9 (Ac (G9 (BL (KA (d:=.int 0) rfl) (BL (d:=.int 1) rfl (Ac (KA (d:=.int 0) rfl)))) (by simp))) (by simp)
end Lab
set_option maxHeartbeats 4000000
namespace Lab
open L2 L3 Law
open Lac
-- the text by places
def top (i:Nat):Stmt:=PySem.Challenge.pw_bringhome_k53_beats.main.body.getD i (.Pass ⟨0,0,0,0⟩)
abbrev JM:Stmt:=top 1
abbrev LR:Stmt:=top 2
abbrev LI:Stmt:=top 4
abbrev LL:Stmt:=top 5
abbrev Ke:Stmt:=top 6
abbrev Jh:Stmt:=top 8
abbrev Kz:Stmt:=top 9
abbrev Jn:Stmt:=top 10
abbrev Je:Stmt:=top 11
abbrev Kw:Stmt:=top 12
abbrev Kb:Stmt:=top 13
abbrev JQ:Stmt:=top 14
abbrev JH:Stmt:=top 15
abbrev IY:Stmt:=top 16
abbrev JI:Stmt:=top 17
structure Txt (K:Yb) (mg:Yh) where
  kA:Df K mg "distances" JM ["web", "room"]
  kB:Df K mg "closed_parts" LR ["web"]
  kC:Df K mg "greatest_divisor" LI ["one", "other"]
  kD:Df K mg "beat_of" LL ["web", "part"]
  kE:Df K mg "beats" Ke ["web"]
  kF:Df K mg "_law_begin" Jh ["_law_script"]
  kG:Df K mg "_law_next" Kz ["_law_state", "_law_many"]
  kJ:Df K mg "_law_phased" Jn ["_law_state", "_law_low", "_law_many", "_law_beat", "_law_room"]
  kK:Df K mg "_law_web" Je ["_law_state", "_law_most", "_law_ways_most"]
  kL:Df K mg "_law_leads" Kw ["_law_web_here"]
  kM:Df K mg "_law_parts" Kb ["_law_web_here"]
  kN:Df K mg "_law_phases" JQ ["_law_web_here", "_law_part", "_law_beat"]
  kO:Df K mg "_law_beats" JH ["_law_web_here"]
  kP:Df K mg "_law_same" IY ["_law_found", "_law_due"]
  kQ:Df K mg "law" JI ["_law_script"]
  kR:mg "tuple" = none
  kS:mg "sorted" = none
  kU:mg "range" = none
  kW:mg "len" = none
  kX:mg "all" = none
  kY:mg "abs" = none
  kZ:mg "max" = none
  kAA:mg "set" = none
  kAB:mg "isinstance" = none
  kAC:mg "bool" = none
  kAD:mg "str" = none
  kAE:mg "int" = none
  kAF:mg "zip" = none
  kinds:Kinds K
section
variable {P:Ym} {w:Yo} {K:Yb} {mg:Yh} {base:Heap}
def J0 {X:Cx} {scope sc:Y0} {own:Yj} {N ps:Yk} (_:FnScope N ps sc) (hk:scope.kind=.function) (hs:X.env.scope=sc) (hN:X.N=N) (h1:Ik sc scope=true) (h2:IC N scope own=true):CompIn X scope own:=LD hk hs hN h1 h2
def UK {X:Cx} {scope sc sd:Y0} {own:Yj} {N ps:Yk} (_:FnScope N ps sd) (hk:scope.kind=.function) (hs:X.env.scope=sc) (hN:X.N=N) (h1:Ik sc scope=true) (h2:IC N scope own=true):CompIn X scope own:=LD hk hs hN h1 h2
set_option hygiene false in
local macro_rules | `(tactic| decreasing_trivial)=> `(tactic| repeat' first
  |calc BH (pv _)
  |calc CP ?_
  |calc Gy ?_ ?_ (zE rfl)
  |calc Rx
  |calc LM
  |calc K9 ?_
  |calc GJ ?_ ?_
  |calc El ?_
  |calc NL
  |calc Tt ?_ ?_
  |calc Ha ?_ ?_ (zE rfl)
  |calc Hj
  |calc J5 sc.nd rfl
  |calc Pg (by first|exact Wu T|exact U9 T|exact UW T|exact YG T|exact Vh T|exact ZC T|exact W4 T|exact Xg T|exact UY T|exact VA T|exact Rq T|exact RA T|exact Sf T|calc Ue T) (hr.mono ()) rfl ?_ ?_ () (zE rfl) (C9 rfl)
  |calc QN ?_ ?_
  |calc E1 ?_
  |calc S4 ?_
  |calc Sg UQ PassesOwn.never rfl ?_ ?_ ?_
  |calc Zp ?_
  |calc Vr ?_ ?_
  |calc LA rfl T.kW ?_ (zE rfl) rfl
  |calc U4 rfl T.kU ?_ ?_ (Ho rfl)
  |calc MC
  |calc Xy rfl T.kR ?_ (zE rfl) rfl
  |calc Ft
  |calc GX ?_ ?_ ?_
  |calc XW ?_
  |calc Xr (IK hr) ?_ ?_
  |refine JC (II ()) (J0 sc rfl rfl rfl (by decide+kernel) (by decide+kernel)) rfl ?_ ⟨λ_ _ _ _ _=>?_,λ_ _ _ _ _=>?_,λ_ _ _ _ _=>?_⟩
  |calc Qe ?_
  |calc ZN ?_ ?_
  |calc Rw _ PassesOwn.never ?_ ?_
  |calc Zf ?_ ?_
  |calc Wn ?_ ?_
  |calc XD ?_
  |calc Nr hr.units0 ?_ ?_
  |calc Um
  |calc Xf ?_
  |calc Xd ?_ ?_ ?_
  |calc W7 rfl T.kY ?_ (zE rfl) rfl
  |calc Tz hr.units0 ?_ ?_
  |calc Wl ?_
  |calc ZM ?_ ?_
  |calc Tj ?_ ?_ ?_
  |refine Qs sc.nd rfl (by first|exact Or.inl rfl|calc Or.inr rfl) (by first|exact .inl rfl|calc .inr rfl) rfl (II ()) (J0 sc rfl rfl rfl (by decide+kernel) (by decide+kernel)) rfl ?_ ⟨λ_ _ _ _ _=>?_,λ_ _ _ _ _=>?_,λ_ _ _ _ _=>?_⟩
  |calc T6 rfl T.kS ?_ (zE rfl) rfl
  |calc YD ?_ ?_
  |calc RI (IK hr) ?_ ?_
  |calc Q0 (IK hr) ?_ ?_ ?_
  |calc WT ?_ ?_
  |refine JC (II ()) (UK sc rfl rfl rfl (by rfl) (by decide+kernel)) rfl ?_ ⟨λ_ _ _ _ _=>?_,λ_ _ _ _ _=>?_,λ_ _ _ _ _=>?_⟩
  |calc QY ?_ ?_
  |calc LH
  |calc Pp rfl rfl T.kX ?_ (zE rfl) rfl
  |calc Qo ?_
  |calc Uz ?_ ?_
  |calc TM rfl sc.nd rfl rfl () rfl rfl ?_ rfl
  |calc SQ ?_ ?_
  |calc VW ?_ ?_
  |calc TJ rfl rfl T.kAA ?_ (zE rfl) rfl
  |calc T9 rfl rfl T.kS ?_ (zE rfl) rfl
  |calc S5 ?_ ?_
  |calc ZK ?_ ?_
  |calc TQ ?_ ?_
  |calc TN sc.nd rfl (by first|exact Or.inl rfl|calc Or.inr rfl) ?_
  |calc U3 rfl rfl T.kS ?_ (zE rfl) rfl
  |calc XJ 0 (Le 0 () hr) ?_ ?_
  |refine X4 (IK hr) rfl T.kS (II ()) (J0 sc rfl rfl rfl (by decide+kernel) (by decide+kernel)) rfl ?_ ⟨λ_ _ _ _ _=>?_,λ_ _ _ _ _=>?_,λ_ _ _ _ _=>?_⟩ (by intro _;rfl) (zE rfl) rfl
  |calc RN (Le 1 () hr) ?_ ?_
  |calc Rg ?_ ?_
  |calc P5 rfl T.kS ?_ (zE rfl) rfl
  |calc Xj rfl rfl T.kZ ?_ (zE rfl) (C9 rfl)
  |calc Wr rfl T.kU ?_ ?_ (NS rfl rfl) (Ho rfl)
  |calc Mm ?_ ?_
  |calc WO sc.nd rfl (by first|exact Or.inl rfl|calc Or.inr rfl) ?_
  |calc OG ?_
  |calc Oe
  |calc WN sc.nd rfl ?_
  |calc OH (Zh ?_ ?_)
  |calc HI ?_)
abbrev WA:List Str:=["web", "room", "found", "level", "behind", "here", "goal"]
def QH:FnScope WA ["web", "room"] (zO JM):=by ∎
def U9 (T:Txt K mg):Od P w base 1 T.kA GO:=by
  erw[GO];let sc:=QH;exact CC (n:=2) T.kA.F sc rfl (λcdv A outer s H E hr=>by
    erw[JV];decreasing_trivial)
abbrev Vo:List Str:=["one", "other"]
def S2:FnScope Vo ["one", "other"] (zO LI):=by ∎
def ZC (T:Txt K mg):Od P w base 1 T.kC zw:=by
  erw[zw];let sc:=S2;exact Fq (CC (n:=2) T.kC.F sc rfl (λcdv A outer s H E hr=>by
    erw[Im];decreasing_trivial))
abbrev Ss:List Str:=["_law_script", "_law_seed", "_law_cell"]
def Ui:FnScope Ss ["_law_script"] (zO Jh):=by ∎
def RA (T:Txt K mg):Od P w base 1 T.kF Gj:=by
  erw[Gj];let sc:=Ui;exact CC (n:=1) T.kF.F sc rfl (λcdv A outer s H E hr=>by
    erw[Jt];decreasing_trivial)
abbrev XU:List Str:=["_law_state", "_law_many", "_law_digit"]
def XM:FnScope XU ["_law_state", "_law_many"] (zO Kz):=by ∎
def Wu (T:Txt K mg):Od P w base 1 T.kG zk:=by
  erw[zk];let sc:=XM;exact CC (n:=2) T.kG.F sc rfl (λcdv A outer s H E hr=>by
    erw[JD];decreasing_trivial)
abbrev V5:List Str:=["_law_web_here", "_law_leads_here", "_law_room", "_law_goal", "_law_middle", "_law_more"]
def WB:FnScope V5 ["_law_web_here"] (zO Kw):=by ∎
def W4 (T:Txt K mg):Od P w base 1 T.kL Gz:=by
  erw[Gz];let sc:=WB;exact CC (n:=1) T.kL.F sc rfl (λcdv A outer s H E hr=>by
    erw[Jg];decreasing_trivial)
abbrev UR:List Str:=["_law_web_here", "_law_part", "_law_beat", "_law_phases_here", "_law_line", "_law_at", "_law_due", "_law_goal", "_law_room"]
def WH:FnScope UR ["_law_web_here", "_law_part", "_law_beat"] (zO JQ):=by ∎
def UW (T:Txt K mg):Od P w base 1 T.kN Fj:=by
  erw[Fj];let sc:=WH;exact Fq (CC (n:=3) T.kN.F sc rfl (λcdv A outer s H E hr=>by
    erw[Io];decreasing_trivial))
abbrev Ua:List Str:=["web", "goals", "room", "some"]
def XA:FnScope Ua ["web"] (zO LR):=by ∎
def Xg (T:Txt K mg):Od P w base 2 T.kB Gd:=by
  erw[Gd];let sc:=XA;exact Fq (CC (n:=1) T.kB.F sc rfl (λcdv A outer s H E hr=>by
    erw[Hy];decreasing_trivial))
abbrev RD:List Str:=["web", "part", "found", "beat", "room", "goal"]
def WQ:FnScope RD ["web", "part"] (zO LL):=by ∎
def UY (T:Txt K mg):Od P w base 2 T.kD F9:=by
  erw[F9];let sc:=WQ;exact Fq (CC (n:=2) T.kD.F sc rfl (λcdv A outer s H E hr=>by
    erw[Hz];decreasing_trivial))
abbrev VL:List Str:=["_law_state", "_law_low", "_law_many", "_law_beat", "_law_room", "_law_first"]
def Wo:FnScope VL ["_law_state", "_law_low", "_law_many", "_law_beat", "_law_room"] (zO Jn):=by ∎
def VA (T:Txt K mg):Od P w base 2 T.kJ HY:=by
  erw[HY];let sc:=Wo;exact CC (n:=5) T.kJ.F sc rfl (λcdv A outer s H E hr=>by
    erw[JZ];decreasing_trivial)
abbrev Vl:List Str:=["_law_web_here", "_law_leads_here", "_law_found", "_law_room", "_law_part", "_law_other"]
def YX:FnScope Vl ["_law_web_here"] (zO Kb):=by ∎
def Rq (T:Txt K mg):Od P w base 2 T.kM G3:=by
  erw[G3];let sc:=YX;exact CC (n:=1) T.kM.F sc rfl (λcdv A outer s H E hr=>by
    erw[JY];decreasing_trivial)
abbrev QU:List Str:=["web", "part"]
def Wh:FnScope QU ["web"] (zO Ke):=by ∎
def Vh (T:Txt K mg):Od P w base 3 T.kE Fw:=by
  erw[Fw];let sc:=Wh;exact Fq (CC (n:=1) T.kE.F sc rfl (λcdv A outer s H E hr=>by
    erw[KL];decreasing_trivial))
abbrev Rb:List Str:=["_law_state", "_law_most", "_law_ways_most", "_law_rooms", "_law_ways", "_law_cuts", "_law_loose", "_law_rows", "_law_k", "_law_many", "_law_beat", "_law_room", "_law_goals", "_law_j"]
def Zv:FnScope Rb ["_law_state", "_law_most", "_law_ways_most"] (zO Je):=by ∎
def Sf (T:Txt K mg):Od P w base 3 T.kK G8:=by
  erw[G8];let sc:=Zv;exact Wi (CC (n:=3) T.kK.F sc rfl (λcdv A outer s H E hr=>by
    erw[Kn];decreasing_trivial))
abbrev RF:List Str:=["_law_web_here", "_law_found", "_law_part", "_law_beat"]
def RO:FnScope RF ["_law_web_here"] (zO JH):=by ∎
def Ue (T:Txt K mg):Od P w base 3 T.kO HQ:=by
  erw[HQ];let sc:=RO;exact Fq (CC (n:=1) T.kO.F sc rfl (λcdv A outer s H E hr=>by
    erw[Iy];decreasing_trivial))
abbrev Lb:List Str:=["_law_found", "_law_due", "_law_one", "_law_other"]
def KY:FnScope Lb ["_law_found", "_law_due"] (zO IY):=by ∎
theorem ON (T:Txt K mg):∀ n:Nat,FnOk P w K mg base CX0 (n+0) T.kP.f T.kP.fd ["_law_found", "_law_due"] (spF K 2 (Ef n))
  |0=>UU
  |n+1=>by
    let hrec:=ON T n;erw[Ef];rw[show n+1+0=(n+0)+1 by omega];exact CC (n:=2) T.kP.F KY rfl (λcdv A outer s H E hr=>by
      erw[Iq];exact (GJ (GX (HI (EJ T.kinds () rfl T.kAB rfl T.kR (by rfl) () () (BH (pv 1)) (zE rfl) (zE rfl) (C9 rfl))) (GJ (GX (OH (Uk (OG (HI (EJ T.kinds () rfl T.kAB rfl T.kR (by rfl) () () (BH (pv 0)) (zE rfl) (zE rfl) (C9 rfl)))) (TL (Nr hr.units0 (LA rfl T.kW (Ha (BH (pv 0)) Hj (zE rfl)) (zE rfl) rfl) (LA rfl T.kW (Ha (BH (pv 1)) Hj (zE rfl)) (zE rfl) rfl))))) (El (E1 Oe)) Ft)
    (El (E1 (Pp rfl rfl T.kX (Ha (JC (Uh (i:=2) (j:=3) () ()) (LD (sc:=zO IY) (N:=Lb) rfl rfl rfl (by decide+kernel) (by decide+kernel)) rfl (YO rfl T.kAF (Gy (CP (BH (pv 0))) (Gy (CP (BH (pv 1))) LM (zE rfl)) (zE rfl)) (NS rfl rfl) (Ho rfl)) ⟨λ_ _ _ _ _=>(Uj rfl (MV (J5 (i:=2) KY.nd rfl) (MV (J5 (i:=3) KY.nd rfl) UT))),λ_ _ _ _ _=>MC,λ_ _ _ _ _=>(Pg hrec (hr.mono ()) rfl (Gy (CP (BH (pv 2))) (Gy (CP (BH (pv 3))) LM (zE rfl)) (zE rfl)) (K9 (K9 NL)) () (zE rfl) (C9 rfl))⟩) Hj (zE rfl)) (zE rfl) rfl)))) Ft)
    (GJ (GX (Mm (BH (pv 1)) LH) (El (E1 (Rc (BH (pv 0)) LH))) Ft)
    (GJ (GX (HI (EJ T.kinds () rfl T.kAB rfl T.kAC (by rfl) () () (BH (pv 1)) (zE rfl) (zE rfl) (C9 rfl))) (El (E1 (IJ (EJ T.kinds () rfl T.kAB rfl T.kAC (by rfl) () () (BH (pv 0)) (zE rfl) (zE rfl) (C9 rfl)) (K6 (K7 hr.units0 (BH (pv 0)) (BH (pv 1))))))) Ft)
    (GJ (GX (HI (EJ T.kinds () rfl T.kAB rfl T.kAD (by rfl) () () (BH (pv 1)) (zE rfl) (zE rfl) (C9 rfl))) (El (E1 (IJ (EJ T.kinds () rfl T.kAB rfl T.kAD (by rfl) () () (BH (pv 0)) (zE rfl) (zE rfl) (C9 rfl)) (K6 (K7 hr.units0 (BH (pv 0)) (BH (pv 1))))))) Ft)
    (El (E1 (IJ (EJ T.kinds () rfl T.kAB rfl T.kAE (by rfl) () () (BH (pv 0)) (zE rfl) (zE rfl) (C9 rfl)) (IJ (UH (EJ T.kinds () rfl T.kAB rfl T.kAC (by rfl) () () (BH (pv 0)) (zE rfl) (zE rfl) (C9 rfl))) (K6 (K7 hr.units0 (BH (pv 0)) (BH (pv 1)))))))))))))
def YG (T:Txt K mg):Od P w base 5 T.kP HM:=ON T 5
abbrev SN:List Str:=["_law_script", "_law_state", "_law_turn", "_law_web_here"]
def Va:FnScope SN ["_law_script"] (zO JI):=by ∎
def Vz (T:Txt K mg):Od P w base 6 T.kQ EN:=by
  erw[EN];let sc:=Va;exact CC (n:=1) T.kQ.F sc rfl (λcdv A outer s H E hr=>by
    erw[K0];decreasing_trivial)
end
def all_mk {l:PySem.W.OpenLaw} {w:World} {K:PySem.W.Frag} {h:Heap} {mg:Str->Option Value} {fa:Addr} (X:K.In h) (G:h.Ns mainGlobals mg) (hfa:mg "law" = some (.ref fa))
    (g1:Dg K "distances" JM) (g2:Dg K "closed_parts" LR) (g3:Dg K "greatest_divisor" LI) (g4:Dg K "beat_of" LL) (g5:Dg K "beats" Ke) (g6:Dg K "_law_begin" Jh) (g7:Dg K "_law_next" Kz) (g8:Dg K "_law_phased" Jn) (g9:Dg K "_law_web" Je) (g10:Dg K "_law_leads" Kw) (g11:Dg K "_law_parts" Kb) (g12:Dg K "_law_phases" JQ) (g13:Dg K "_law_beats" JH) (g14:Dg K "_law_same" IY) (g15:Dg K "law" JI) (z1:Zn K "tuple") (z2:Zn K "sorted") (z3:Zn K "range") (z4:Zn K "len") (z5:Zn K "all") (z6:Zn K "abs") (z7:Zn K "max") (z8:Zn K "set") (z9:Zn K "isinstance") (z10:Zn K "bool") (z11:Zn K "str") (z12:Zn K "int") (z13:Zn K "zip") (y1:Ki K "NoneType" "int" false) (y2:Ki K "NoneType" "bool" false) (y3:Ki K "NoneType" "str" false) (y4:Ki K "NoneType" "tuple" false) (y5:Ki K "bool" "int" true) (y6:Ki K "bool" "bool" true) (y7:Ki K "bool" "str" false) (y8:Ki K "bool" "tuple" false) (y9:Ki K "int" "int" true) (y10:Ki K "int" "bool" false) (y11:Ki K "int" "str" false) (y12:Ki K "int" "tuple" false) (y13:Ki K "str" "int" false) (y14:Ki K "str" "bool" false) (y15:Ki K "str" "str" true) (y16:Ki K "str" "tuple" false) (y17:Ki K "list" "int" false) (y18:Ki K "list" "bool" false) (y19:Ki K "list" "str" false) (y20:Ki K "list" "tuple" false) (y21:Ki K "tuple" "int" false) (y22:Ki K "tuple" "bool" false) (y23:Ki K "tuple" "str" false) (y24:Ki K "tuple" "tuple" true) (y25:Ki K "dict" "int" false) (y26:Ki K "dict" "bool" false) (y27:Ki K "dict" "str" false) (y28:Ki K "dict" "tuple" false) :
    ∃ fd:FuncData,(∀ (s:Shared) (v:Value),BindsTo s fd ⟨[v],[]⟩ [("_law_script", v)]) /\ ∀ base:Heap,K.In base->base.Ns mainGlobals mg->FnOk l.prog w K mg base CX0 6 fa fd ["_law_script"] (spF K 1 EN):=by
  let e:=hfa.symm.trans (PySem.W.mg_of X G g15.a);ext e;let kinds:Kinds K:=⟨by
    intro t T ht hT;simp only[AL,Cj,or_false]at ht hT;rcases ht with rfl|rfl|rfl|rfl|rfl|rfl|rfl <;> rcases hT with rfl|rfl|rfl|rfl <;> assumption⟩
  letI T:Txt K mg:=⟨g1.df X G λ_ _ _ _ _ _=>GY λ_ _=>rfl,g2.df X G λ_ _ _ _ _ _=>FL λ_=>rfl,g3.df X G λ_ _ _ _ _ _=>GY λ_ _=>rfl,g4.df X G λ_ _ _ _ _ _=>GY λ_ _=>rfl,g5.df X G λ_ _ _ _ _ _=>FL λ_=>rfl,g6.df X G λ_ _ _ _ _ _=>FL λ_=>rfl,g7.df X G λ_ _ _ _ _ _=>GY λ_ _=>rfl,g8.df X G λ_ _ _ _ _ _=>Wg λ_ _ _ _ _=>rfl,g9.df X G λ_ _ _ _ _ _=>Nq λ_ _ _=>rfl,g10.df X G λ_ _ _ _ _ _=>FL λ_=>rfl,g11.df X G λ_ _ _ _ _ _=>FL λ_=>rfl,g12.df X G λ_ _ _ _ _ _=>Nq λ_ _ _=>rfl,g13.df X G λ_ _ _ _ _ _=>FL λ_=>rfl,g14.df X G λ_ _ _ _ _ _=>GY λ_ _=>rfl,g15.df X G λ_ _ _ _ _ _=>FL λ_=>rfl,Cn X G z1,Cn X G z2,Cn X G z3,Cn X G z4,Cn X G z5,Cn X G z6,Cn X G z7,Cn X G z8,Cn X G z9,Cn X G z10,Cn X G z11,Cn X G z12,Cn X G z13,kinds⟩;refine ⟨T.kQ.fd,λs v=> .of_eq rfl,λbase _ _=>?_⟩;calc Vz (P:=l.prog) (w:=w) (base:=base) T
def walk {l:PySem.W.OpenLaw} {q:Ym} {loose:Yk} {XP:(Str->Option Value)->Heap->Prop} {YP:World->Heap->Prop} {d:DefRec} {K:Params->PySem.W.Frag} (hn:l.most=some 63) (hdf:d.params.defaults=[])
    (hY:∀ (w:Yo) (h:Heap),YP w h->(K w.params).In h) (hL:∀ w:World,ID (K w.params)=true) (hT:∀ w:World,K1 (K w.params)=true)
    (F:∀ (w:Yo) (mg:Yh) (fa:Yt) (h:Heap),(K w.params).In h->h.Ns mainGlobals mg->mg d.name=some (.ref fa) ->
      ∃ fd:FuncData,(∀ (s:Shared) (u:Value),BindsTo s fd ⟨[u],[]⟩ [("_law_script", u)]) /\ ∀ base:Heap,(K w.params).In base->base.Ns mainGlobals mg->FnOk l.prog w (K w.params) mg base CX0 6 fa fd ["_law_script"] (spF (K w.params) 1 EN)) :
    PySem.W.WalkO q loose XP YP l.row.toRowW d [] (λf vs=>PySem.call f vs) :=
  L2.YA (n:=63) (k:=6) (x := "_law_script") (CX:=λ_=>CX0) (sp:=λw=>spF (K w.params) 1 EN) hn () hdf ⟨rfl,(),()⟩ hY F
    (λw H a ns hl hO hS=>XR (hL w) (QJ (hT w)) (Zj hO) hS (QM ns hl)) λ_ _ _ _ _ z=>z
end Lab
end
open PySem PySem.W PyProof.Rows
set_option maxRecDepth 100000 in
set_option maxHeartbeats 0 in
theorem PySem.Challenge.cw_bringhome_k53_beats_holds : PySem.Challenge.rw_bringhome_k53_beats.Holds := by
  w_on;o_law;k_head;(case hw=>w_witness2);k_fill;refine Lab.walk (l:=PySem.Challenge.rw_bringhome_k53_beats) rfl rfl (λw h YY=>PySem.W.kIn_of YY) (λw=>by rfl) (λw=>by rfl) ?F
  case F=>
    intro w mg fa h KX G hmg;apply Lab.all_mk KX G hmg;all_goals first|exact ⟨_,by k_is,by k_is,by k_is,by k_is⟩|(erw[L3.Zn];k_is)|(erw[L3.Ki];kit_is)|k_is
