import PyProof.Rows.All
import Wide.All
import OpenK.AllK
import Wide.FinOn
import Lean
import PyProof.EqAt
import PyProof.EqKinds
import PyProof.TupleCall
import PyProof.NeKinds
import PyProof.ZipIter
import PyProof.ListRange
import PyProof.TupleOfSeq
import PyProof.ConsumeWalk
import PyProof.IsRules
import PyProof.SetKind
import PyProof.SetRoads
import PyProof.Rows.SetFrom
import PyProof.Draws
import PyProof.EnumMake
import PyProof.DictCompW
import PyProof.ListMulRoad
import PyProof.Rows.SeqMore2
import PyProof.WalkInts
import PyProof.DictRoadsH
import PyProof.DictItems
import KE.KDictList
import KE.KDictOf
import PyProof.AttrMissHeap
import PySem.Challenge.RW_bringhome_k54_shown_beats_of_anything
local macro_rules|`(tactic|omega)=>`(tactic|lia)
local macro_rules|`(command|def $i $s $v:declVal)=>`(command|noncomputable def $i $s $v:declVal)
local macro_rules|`(command|abbrev $i $s $v:declVal)=>`(command|noncomputable abbrev $i $s $v:declVal)
local macro_rules|`(~~~$x)=>`(by simpa using $x)
local macro_rules|`(⇑$x)=>`($(x).heap.objs.size)
local macro_rules|`(tactic|∎)=>`(tactic|constructor<;>first|rfl|decide+kernel)
local macro_rules|`(tactic|calc $x:term)=>`(tactic|refine $x)
local macro_rules|`(tactic|ext $x:ident)=>`(tactic|cases $x:ident)
local macro_rules|`(tactic|cbv at $x:ident)=>`(tactic|split at $x:ident)
local macro_rules|`(tactic|erw[$a,*]$[at $h:ident]?)=>let a:=a.getElems.map λx=>(⟨x.raw[1]⟩:Lean.Ident);`(tactic|unfold $a* $[at $h:ident]?)
local macro_rules|`(tactic|let $d:letDecl)=>`(tactic|have $d:letDecl)
local macro_rules|`(tactic|let⟨$a,*⟩:=$t)=>do let q←(List.range 9).foldl (λr _ (x:Lean.Term)=>match x with|`(⟨$a,*⟩)=>do let b←a.getElems.mapM r;`(rcasesPat|⟨$[$b:rcasesPat],*⟩)|`($i:ident)=>`(rcasesPat|$i:ident)|_=>`(rcasesPat|_)) (λ_=>`(rcasesPat|_)) (←`(⟨$a,*⟩));`(tactic|obtain $q:rcasesPat:=$t)
local macro_rules|`(())=>`(by first|decide|omega)
theorem qz {p:Prop} (h:¬p->False):p:=Classical.byContradiction h
section
open PySem
abbrev Ya:=List (List Int)
abbrev Yb:=W.Frag
abbrev Yc:=Value->Shared->Prop
abbrev Yd:=List (Addr × Obj)
abbrev Ye:=List Int
abbrev Yf:=List Value
abbrev Yg:=List Addr
abbrev Yh:=Str->Option Value
abbrev Yi:=List Expr
abbrev Yj:=List Nat
abbrev Yk:=List Str
abbrev Yl:=Shared
abbrev Ym:=Program
abbrev Yn:=Around
abbrev Yo:=World
abbrev Yp:=Array Value
abbrev Yq:=List Int->Prop
abbrev Yr:=Value->Nat
abbrev Ys:=Option Int
abbrev Yt:=Addr
abbrev Yu:=Value
abbrev Yv:=List (Str × Addr)
abbrev Yw:=Array (Int × Value)
abbrev Yx:=Result->Shared->Prop
abbrev Yy:=List Stmt
abbrev Yz:=FuncData
abbrev Y0:=Scope
abbrev Y1:=List Int->List (List Int)
abbrev Y2:=Value->Value->Sem Value
end
structure PySem.W.Fast:Prop where(tw17497561309028973559 tw6224701452400523447 tw14298905948410771122 tw13064497974587839872 tw14304474223902417334 tw458365969453443778 tw1939843679660348798 tw6426424408926798153 tw2729030517016642531 tw10165209566473854282 tw17905905776059657159 tw3546008257468080203 tw6176862477349431050 tw4786597296080474597 tw8495195114232728316 tw7562982868885293216 tw7462997156343161979 tw14646461320195609276 tw3749900001118300191 tw13889906753415933519 tw4806714222762837387 tw928171478454890895 tw14331968923741031651 tw2522107007587752359 tw1191310846232413923 tw14090828387234717250 tw18302208939669165548 tw13685461376980498703 tw6931302600771933898 tw2636356428694462527 tw8370965513665837308 tw7507089601562683781 tw18228723317716029552 tw17359813303101337057 tw10184206741446456553 tw1861620592310142897 tw3038288915902378515 tw7653872453332320043 tw11467866210990467726 tw9470459828743035266 tw9741054560462567738 tw6499424071861877140 tw15273725602928908089 tw10478216628046776746 tw9806532666343206175 tw13637344048339789375 tw13357111910414051087 tw10856261416355298940 tw12148884796060264837 tw7378360178451664423 tw7160637022578503468 tw17346001539734723143 tw9341291545978541664 tw12146969174569512639 tw3520247555863013984 tw12489416560445820167 tw5296415863150985335 tw10819982729152185800 tw2880129501907289683 tw11731406781982118511 tw17236821490456352501 tw7011131290001936234 tw10096192188646605146 tw13167747028538716409 tw14480351484917565851 tw6188601131116466883 tw7694014674441406113 tw10060733728641700837 tw6426523580605752384 tw12076281859894943078 tw302346636994173629 tw3164356372878775843 tw8975917349212870384 tw5682809775446973500 tw5025016398532737870 tw2589001250320739148 tw13504813576897139737 tw4448708326189292717 tw2819532059933268471 tw16741387437788393419:True)
section
open PySem PySem.Spec PyProof.Rows
def AA:type_of% @wpAny_bind:=@wpAny_bind
def AH:type_of% @Heap.get?_push_of_some:=@Heap.get?_push_of_some
def AB:type_of% @wpAny_pure:=@wpAny_pure
def AK:type_of% @List.getElem?_eq_some_iff:=@List.getElem?_eq_some_iff
def AM:type_of% @List.getElem?_eq_getElem:=@List.getElem?_eq_getElem
def By:type_of% @List.getD_eq_getElem?_getD:=@List.getD_eq_getElem?_getD
def AF:type_of% @Nat.le_refl:=@Nat.le_refl
def Bf:type_of% @List.getElem?_append_left:=@List.getElem?_append_left
def AO:type_of% @List.size_toArray:=@List.size_toArray
def AG:type_of% @List.length_map:=@List.length_map
def AL:type_of% @Heap.get?_push_size:=@Heap.get?_push_size
def AI:type_of% @Heap.lt_size:=@Heap.lt_size
def AJ:type_of% @List.mem_cons:=@List.mem_cons
def BF:type_of% @List.mem_cons_of_mem:=@List.mem_cons_of_mem
def Ax:type_of% @List.mem_cons_self:=@List.mem_cons_self
def AD:type_of% @if_pos:=@if_pos
def AV:type_of% @List.length_append:=@List.length_append
def AU:type_of% @List.mem_map:=@List.mem_map
def AE:type_of% @if_neg:=@if_neg
def Ag:type_of% @List.map_cons:=@List.map_cons
def BD:type_of% @List.mem_append_right:=@List.mem_append_right
def Ah:type_of% @Nat.ne_of_lt:=@Nat.ne_of_lt
def Au:type_of% @Bool.false_ne_true:=@Bool.false_ne_true
def AW:type_of% @List.getElem?_map:=@List.getElem?_map
def CS:type_of% @List.map_map:=@List.map_map
def BC:type_of% @Nat.lt_of_lt_of_le:=@Nat.lt_of_lt_of_le
def AR:type_of% @List.mem_append:=@List.mem_append
def Ao:type_of% @Nat.le_trans:=@Nat.le_trans
def Ae:type_of% @List.mem_singleton:=@List.mem_singleton
def A9:type_of% @wpAny_newObj_type:=@wpAny_newObj_type
def Bl:type_of% @List.getElem?_set_ne:=@List.getElem?_set_ne
def Aw:type_of% @List.not_mem_nil:=@List.not_mem_nil
def An:type_of% @wpAny_mono:=@wpAny_mono
def C0:type_of% @List.length_cons:=@List.length_cons
def Bd:type_of% @List.getElem_mem:=@List.getElem_mem
def Al:type_of% @decide_eq_false:=@decide_eq_false
def BE:type_of% @Bool.and_eq_true:=@Bool.and_eq_true
def Ap:type_of% @List.all_eq_true:=@List.all_eq_true
def CA:type_of% @wpAny_callSpecial?_slot:=@wpAny_callSpecial?_slot
def BI:type_of% @wpAny_call_entry:=@wpAny_call_entry
def DR:type_of% @List.mem_range:=@List.mem_range
def Ad:type_of% @wpAny_field:=@wpAny_field
def Bn:type_of% @Heap.size_push:=@Heap.size_push
def Cz:type_of% @Heap.get?_update_other:=@Heap.get?_update_other
def BN:type_of% @Nat.lt_irrefl:=@Nat.lt_irrefl
def BU:type_of% @Array.length_toList:=@Array.length_toList
def DO:type_of% @List.append_nil:=@List.append_nil
def DC:type_of% @Array.getElem?_eq_getElem:=@Array.getElem?_eq_getElem
def BK:type_of% @Nat.zero_le:=@Nat.zero_le
def Cu:type_of% @Heap.get?_update_self:=@Heap.get?_update_self
def C7:type_of% @Nat.lt_succ_of_lt:=@Nat.lt_succ_of_lt
def CH:type_of% @wpAny_seqItems:=@wpAny_seqItems
def CM:type_of% @List.mem_of_getElem?:=@List.mem_of_getElem?
def Cv:type_of% @List.map_append:=@List.map_append
def BQ:type_of% @wpAny_holding:=@wpAny_holding
def Br:type_of% @List.getElem?_set_self:=@List.getElem?_set_self
def DK:type_of% @Around.under_plainId:=@Around.under_plainId
def B2:type_of% @of_decide_eq_true:=@of_decide_eq_true
def DU:type_of% @Nat.lt_succ_self:=@Nat.lt_succ_self
def CG:type_of% @PySem.W.mg_none_of:=@PySem.W.mg_none_of
def Bb:type_of% @Option.some.inj:=@Option.some.inj
def CL:type_of% @Bool.false_eq_true:=@Bool.false_eq_true
def C3:type_of% @PySem.mem_of_lookup:=@PySem.mem_of_lookup
def CZ:type_of% @Heap.SameBut.update:=@Heap.SameBut.update
def Cb:type_of% @codeAny_builtin:=@codeAny_builtin
def CI:type_of% @List.append_assoc:=@List.append_assoc
def ER:type_of% @wpAny_Call_Name_kw:=@wpAny_Call_Name_kw
def BB:type_of% @decide_eq_true:=@decide_eq_true
def D0:type_of% @List.getElem?_eq_none:=@List.getElem?_eq_none
def Ee:type_of% @List.getElem?_append_right:=@List.getElem?_append_right
def E7:type_of% @wpAny_truthy_bool:=@wpAny_truthy_bool
def B4:type_of% @decide_eq_true_eq:=@decide_eq_true_eq
def Ds:type_of% @List.nodup_append:=@List.nodup_append
def CJ:type_of% @List.mem_append_left:=@List.mem_append_left
def C2:type_of% @wpAny_setField_rec:=@wpAny_setField_rec
def Cr:type_of% @Obj.data_mapFields:=@Obj.data_mapFields
def E6:type_of% @Calls.spliced_cons:=@Calls.spliced_cons
def Ew:type_of% @List.replicate_succ:=@List.replicate_succ
def Ay:type_of% @or_false:=@or_false
def BX:type_of% @wpAny_rule:=@wpAny_rule
def Bg:type_of% @List.length_take:=@List.length_take
def Dj:type_of% @builtinLookup_eq_fast:=@builtinLookup_eq_fast
def DY:type_of% @List.length_nil:=@List.length_nil
def Ca:type_of% @Nat.ne_of_gt:=@Nat.ne_of_gt
def E8:type_of% @List.take_of_length_le:=@List.take_of_length_le
def Dy:type_of% @PyProof.Rows.slot_tuple_getitem:=@PyProof.Rows.slot_tuple_getitem
def DN:type_of% @List.getElem?_set:=@List.getElem?_set
def Fi:type_of% @Calls.spliced_nil:=@Calls.spliced_nil
def CN:type_of% @wpAny_attempt:=@wpAny_attempt
def Di:type_of% @PySem.W.kia_one:=@PySem.W.kia_one
def Es:type_of% @PySem.F.slot_zip_next:=@PySem.F.slot_zip_next
def Bo:type_of% @Array.getElem?_toList:=@Array.getElem?_toList
def E1:type_of% @wpAny_pyIter_tuple:=@wpAny_pyIter_tuple
def DQ:type_of% @wpAny_of_eq:=@wpAny_of_eq
def CQ:type_of% @Nat.le_succ:=@Nat.le_succ
def ED:type_of% @plainId_quiet:=@plainId_quiet
def Co:type_of% @wpAny_typeOf:=@wpAny_typeOf
def C8:type_of% @wpAny_setField:=@wpAny_setField
def EZ:type_of% @List.find?_cons:=@List.find?_cons
def BO:type_of% @congrArg:=@congrArg
def Eb:type_of% @wpAny_isInstance:=@wpAny_isInstance
def Dn:type_of% @Nat.le_add_right:=@Nat.le_add_right
def Fh:type_of% @Obj.isFreed_of_fields:=@Obj.isFreed_of_fields
def FJ:type_of% @Int.emod_lt_of_pos:=@Int.emod_lt_of_pos
def D2:type_of% @isSubtype_type:=@isSubtype_type
def Dt:type_of% @typeLookup_type:=@typeLookup_type
def Ep:type_of% @List.length_range:=@List.length_range
def Fm:type_of% @List.flatten_cons:=@List.flatten_cons
def D7:type_of% @wpAny_onRaise:=@wpAny_onRaise
def GC:type_of% @List.length_eq_zero_iff:=@List.length_eq_zero_iff
def EY:type_of% @List.getElem_of_mem:=@List.getElem_of_mem
def GG:type_of% @List.getElem?_range:=@List.getElem?_range
def FV:type_of% @List.lookup_cons:=@List.lookup_cons
def DA:type_of% @List.pairwise_cons:=@List.pairwise_cons
def C1:type_of% @List.length_set:=@List.length_set
def Fg:type_of% @List.ext_getElem?:=@List.ext_getElem?
def B6:type_of% @if_false:=@if_false
def Dh:type_of% @List.length_drop:=@List.length_drop
def En:type_of% @Nat.lt_of_le_of_lt:=@Nat.lt_of_le_of_lt
def C9:type_of% @Bool.eq_iff_iff:=@Bool.eq_iff_iff
def Bc:type_of% @Int.toNat_natCast:=@Int.toNat_natCast
def EF:type_of% @List.take_append_drop:=@List.take_append_drop
def DV:type_of% @Nat.le_of_lt:=@Nat.le_of_lt
end
set_option Elab.async false
set_option linter.all false
set_option maxRecDepth 100000
set_option genSizeOf false
set_option genInjectivity false
set_option compiler.extract_closed false
noncomputable section
section
open PySem PySem.Spec PyProof.Rows
namespace L2
abbrev Key:=Sum Int Str
def E2:Key->Value->Bool
 |.inl k,v=>Value.isInt k v
 |.inr x,v=>Value.isStrOf x v
def iK (w:Yo):Key->Int
 |.inl k=>hashInt k
 |.inr x=>hashStr w x
def EI:∀ {k:Key} {v:Yu},E2 k v=true->(∃ i t,k=Sum.inl i/\v=Value.int i t)\/(∃ x t,k=Sum.inr x/\v=Value.str x t)
 |.inl i,v,h=>by
  let⟨t,e⟩:=Value.isInt_shape (k:=i) (v:=v) h;calc .inl ⟨i,t,rfl,e⟩
 |.inr x,v,h=>by
  let⟨t,e⟩:=Value.isStrOf_shape (x:=x) (v:=v) h;calc .inr ⟨x,t,rfl,e⟩
def UY (i:Int) (t:Tok):E2 (.inl i) (.int i t)=true:=by simp[E2,Value.isInt]
def Zm (x:Str) (t:Tok):E2 (.inr x) (.str x t)=true:=by simp[E2,Value.isStrOf]
def WE (a b:Int):decide ((Sum.inl a:Key)=Sum.inl b)=(a==b):=by
 by_cases e:a=b
 .subst e;simp
 .have h:¬ (Sum.inl a:Key)=Sum.inl b:=λq=>e (Sum.inl.inj q);rw[Al h];calc (beq_eq_false_iff_ne.mpr e).symm
def Uu (a b:Str):decide ((Sum.inr a:Key)=Sum.inr b)=decide (a=b):=by
 by_cases e:a=b
 .subst e;simp
 .have h:¬ (Sum.inr a:Key)=Sum.inr b:=λq=>e (Sum.inr.inj q);rw[Al h,Al e]
def Wl (a:Int) (b:Str):decide ((Sum.inl a:Key)=Sum.inr b)=false:=Al (λq=>nomatch q)
def Rf (a:Str) (b:Int):decide ((Sum.inr a:Key)=Sum.inl b)=false:=Al (λq=>nomatch q)
def B8 (prog:Ym) (w:Yo):PySem.KeyKind prog w Key where
 is:=E2
 hash:=iK w
 inj:=λv a b ha hb=>by
  rcases EI ha with ⟨i,t,rfl,rfl⟩|⟨x,t,rfl,rfl⟩
  .rcases EI hb with ⟨j,u,rfl,e⟩|⟨y,u,rfl,e⟩
   .injection e with e1 _;rw[e1]
   .exact nomatch e
  .rcases EI hb with ⟨j,u,rfl,e⟩|⟨y,u,rfl,e⟩
   .exact nomatch e
   .injection e with e1 _;rw[e1]
 byValue:=λk v h=>by
  rcases EI h with ⟨i,t,rfl,rfl⟩|⟨x,t,rfl,rfl⟩ <;> rfl
 pyHash:=λhv h=>by
  rcases EI hv with ⟨i,t,rfl,rfl⟩|⟨x,t,rfl,rfl⟩
  .exact wpAny_pyHash_int h
  .exact wpAny_pyHash_str h
 eqBool:=λhu hv h=>by
  rcases EI hu with ⟨i,t,rfl,rfl⟩|⟨x,t,rfl,rfl⟩
  .rcases EI hv with ⟨j,u,rfl,rfl⟩|⟨y,u,rfl,rfl⟩
   .rw[WE]at h;exact wpAny_eqBool_int h
   .rw[Wl]at h;exact SeqAt.EqAt.int_str i t y u _ _ _ _ h
  .rcases EI hv with ⟨j,u,rfl,rfl⟩|⟨y,u,rfl,rfl⟩
   .rw[Rf]at h;exact SeqAt.EqAt.str_int x t j u _ _ _ _ h
   .rw[Uu]at h;exact wpAny_eqBool_str h
 «strs»:=λk x t v h=>by
  rcases EI h with ⟨i,u,rfl,e⟩|⟨y,u,rfl,e⟩
  .exact nomatch e
  .injection e with e1 _
   subst e1
   cases v <;> rfl
def UB (prog:Ym) (w:Yo) (i:Int) (t:Tok):(B8 prog w).is (.inl i) (.int i t)=true:=UY i t
def X1 (prog:Ym) (w:Yo) (x:Str) (t:Tok):(B8 prog w).is (.inr x) (.str x t)=true:=Zm x t
set_option genInjectivity true in
inductive V where
 |non|bl (b:Bool)|int (i:Int)|str (x:Str)|byt (b:Array UInt8)|flt (b:UInt64)|ref (a:Yt)|ty (n:String)
 deriving DecidableEq
def zf:V->Value->Prop
 |.non,u=>u=Value.none
 |.bl b,u=>u=Value.bool b
 |.int i,u=>∃ t,u=Value.int i t
 |.str x,u=>∃ t,u=Value.str x t
 |.byt b,u=>∃ t,u=Value.bytes b t
 |.flt b,u=>∃ t,u=Value.float b t
 |.ref a,u=>u=Value.ref a
 |.ty n,u=>u=Value.type n
abbrev zT:List V->List Value->Prop:=Paired zf
def zT.length {xs:List V} {us:Yf} (r:zT xs us):xs.length=us.length:=Paired.length r
def zT.get:∀ {xs:List V} {us:Yf} {i:Nat} {x:V},zT xs us->xs[i]?=some x -> ∃ u,us[i]?=some u/\zf x u
 |_,_,_,_,.nil,e=>by simp at e
 |_,_,0,_,.cons r _,e=>by simp at e;subst e;calc ⟨_,rfl,r⟩
 |_,_,i+1,x,.cons _ t,e=>by
  let⟨u,h1,h2⟩:=zT.get (i:=i) (x:=x) t (~~~e);calc ⟨u,by simpa using h1,h2⟩
def zT.set {x:V} {u:Yu} (r:zf x u):∀ {xs:List V} {us:Yf} (i:Nat),zT xs us->zT (xs.set i x) (us.set i u)
 |_,_,_,.nil=> .nil
 |_,_,0,.cons _ t=> .cons r t
 |_,_,i+1,.cons q t=> .cons q (zT.set r i t)
def zT.append:∀ {xs ys:List V} {us ws:Yf},zT xs us->zT ys ws->zT (xs++ys) (us++ws)
 |_,_,_,_,.nil,s=>s
 |_,_,_,_,.cons r t,s=> .cons r (zT.append t s)
def zT.take:∀ {xs:List V} {us:Yf} (n:Nat),zT xs us->zT (xs.take n) (us.take n)
 |_,_,0,_=> .nil
 |_,_,_+1,.nil=> .nil
 |_,_,n+1,.cons r t=> .cons r (zT.take n t)
def zT.drop:∀ {xs:List V} {us:Yf} (n:Nat),zT xs us->zT (xs.drop n) (us.drop n)
 |_,_,0,r=>r
 |_,_,_+1,.nil=> .nil
 |_,_,n+1,.cons _ t=>zT.drop n t
def Dp:Option V->Option Value->Prop
 |some v,some u=>zf v u
 |none,none=>True
 |_,_=>False
def KV {κ:Type}:List (κ × V)->List (κ × Value)->Prop:=Paired λ(p:κ × V) (q:κ × Value)=>p.1=q.1/\zf p.2 q.2
def kV:Key->V
 |.inl i=> .int i
 |.inr x=> .str x
set_option genInjectivity true in
inductive HO where
 |lst (xs:List V)
 |tup (xs:List V)
 |dK (kvs:List (Key × V))|dT (kvs:List (List Key × V))
 |set (S:Int->Bool) (n:Nat)
 |ins (C dx:Yt) (fs:List (Str × V))
 |own (x:Yt)
 |xd (fs:List (Str × V))
 |met (f x:Yt)
 |rng (lo hi:Int)
 |frz (o:Obj) (u:HO)
 |tbl (ps:Yp)
 |ext (φ:Heap->Prop)
abbrev Hp:=Addr->Option HO
def upd (H:Hp) (a:Yt) (o:HO):Hp:=λb=>if b=a then some o else H b
def CY {H:Hp} {a:Yt} {o:HO}:upd H a o a=some o:=by erw[upd];rw[AD rfl]
def zS {H:Hp} {a b:Yt} {o:HO} (h:b≠a):upd H a o b=H b:=by erw[upd];rw[AE h]
def GA {H:Hp} {a b:Yt} {o u:HO} (h:H a=some o) (h':H b=some u) (d:o≠u):a≠b:=by
 intro e;subst e;rw[h]at h';calc d (Bb h')
def DW {H:Hp} {a b:Yt} {o:HO} (h:H a=some o) (h':H b=none):a≠b:=by
 intro e;subst e;rw[h]at h';ext h'
def C4 (h:Heap) (a:Addr) (items:Array Value):Prop:=∃ o,h.get? a=some o/\o.cls=.type "tuple" /\ (∃ n,o.data=.seq items n)/\o.dict=none
def C4.tup {h:Heap} {a:Yt} {items:Yp} (x:C4 h a items):IsTup h a items:=let ⟨o,e,c,d,_⟩:=x;⟨o,e,c,d⟩
def C4.lt {h:Heap} {a:Yt} {items:Yp} (x:C4 h a items):a<h.objs.size:=let ⟨_,e,_⟩:=x;AI e
def C4.new (h:Heap) (items:Array Value):C4 (h.push { cls:=.type "tuple", data:=.seq items }) h.objs.size items:=⟨_,AL _ rfl,rfl,⟨_,rfl⟩,rfl⟩
section
variable (P:Ym) (w:Yo)
def Am (H:Hp) (h:Heap) (a:Yt):HO->Prop
 |.lst xs=>xs.length<=sizeLine /\ ∃ (its:List Value) (n:Nat),zT xs its/\h.get? a=some { cls:=.type "list", data:=.seq its.toArray n }
 |.tup xs=>xs.length<=sizeLine /\ ∃ its:List Value,zT xs its/\C4 h a its.toArray
 |.dK kvs=>kvs.length<=sizeLine/\(a==sysModules)=false /\ ∃ vs,KV kvs vs/\h.DictOf (B8 P w) a vs
 |.dT kvs=>kvs.length<=sizeLine/\(a==sysModules)=false /\ ∃ xs:List (List Key × Addr × Value),
   Paired (λ(p:List Key × V) (q:List Key × Addr × Value)=>p.1=q.1/\H q.2.1=some (.tup (p.1.map kV))/\zf p.2 q.2.2) kvs xs /\
   ∃ o es ep,h.get? a=some o/\o.ExactDict/\o.data=.dict es ep/\es.toList=xs.map (entryOfKey (tupleKind (B8 P w)))/\(xs.map (·.1)).Nodup
 |.set S n=>h.SetOf (intKind P w) a S n
 |.ins C dx fs=>H dx=some (.own a)/\fs.length<=1000/\dx≠a/\h.get? a=some (PySem.W.instObj C dx) /\
   ∃ mA,h.Ns1 dx mA/\(∀ f,Dp (fs.lookup f) (mA f))/\PySem.Within mA (fs.map (·.1))
 |.own _=>∃ o,h.get? a=some o
 |.xd fs=>∃ mA,h.Ns1 a mA /\ ∀ f,Dp (fs.lookup f) (mA f)
 |.rng lo hi=>∃ t u v,h.get? a=some { cls:=.type "range", data:=.fields #[.int lo t,.int hi u,.int 1 v] }
 |.frz o u=>h.get? a=some o/\Am H h a u
 |.tbl ps=>h.get? a=some { cls:=.none,data:=.fields ps }
 |.met f x=>h.get? a=some (PySem.W.methodObj (.ref f) (.ref x))
 |.ext φ=>φ h/\(∃ o,h.get? a=some o) /\ ∀ h1 h2:Heap,φ h1->(∀ o,h1.get? a=some o->h2.get? a=some o)->φ h2
def HOk (H:Hp) (h:Heap):Prop:=∀ a o,H a=some o->Am P w H h a o
end
section
variable {P:Ym} {w:Yo} {H H':Hp} {h h':Heap} {a:Yt} {o:HO}
def Am.lt (x:Am P w H h a o):a<h.objs.size:=by
 cases o with
 |lst xs=>let⟨_,_,_,_,e⟩:=x;calc AI e
 |tup xs=>let⟨_,_,_,p⟩:=x;calc p.lt
 |dK kvs=>let⟨_,_,_,_,o,_,_,e,_⟩:=x;calc AI e
 |dT kvs=>let⟨_,_,_,_,o,_,_,e,_⟩:=x;calc AI e
 |set S n=>let⟨o,_,_,_,e,_⟩:=x;calc AI e
 |ins C dx fs=>let⟨_,_,_,e,_⟩:=x;calc AI e
 |own y=>let⟨_,e⟩:=x;calc AI e
 |xd fs=>let⟨_,⟨_,_,_,e,_⟩,_⟩:=x;calc AI e
 |rng lo hi=>let⟨_,_,_,e⟩:=x;calc AI e
 |frz ob u=>let⟨e,_⟩:=x;calc AI e
 |tbl ps=>calc AI (show h.get? a=some _ from x)
 |met f y=>calc AI (show h.get? a=some _ from x)
 |ext φ=>let⟨_,⟨_,e⟩,_⟩:=x;calc AI e
def Paired.mapP {α β:Type} {F G:α->β->Prop}:∀ {l₁:List α} {l₂:List β},Paired F l₁ l₂->(∀ a b,F a b->G a b)->Paired G l₁ l₂
 |_,_,.nil,_=> .nil
 |_,_,.cons r t,f=> .cons (f _ _ r) (Paired.mapP t f)
def Am.stay (x:Am P w H h a o) (k:∀ b u,(b=a\/H b=some (.own a))->h.get? b=some u->h'.get? b=some u)
  (ho:∀ b,H b=some (.own a)->H' b=some (.own a)) (ht:∀ b xs,H b=some (.tup xs)->H' b=some (.tup xs)):Am P w H' h' a o:=by
 induction o with
 |lst xs=>let⟨z,its,n,r,e⟩:=x;calc ⟨z,its,n,r,k _ _ (.inl rfl) e⟩
 |tup xs=>let⟨z,its,r,ob,e,c⟩:=x;calc ⟨z,its,r,ob,k _ _ (.inl rfl) e,c⟩
 |dK kvs=>let⟨z,y,vs,r,ob,es,ep,e,c⟩:=x;calc ⟨z,y,vs,r,ob,es,ep,k _ _ (.inl rfl) e,c⟩
 |dT kvs=>
  let⟨z,y,xs,r,ob,es,ep,e,c⟩:=x;exact ⟨z,y,xs,Paired.mapP r λp q z=>⟨z.1,ht _ _ z.2.1,z.2.2⟩,ob,es,ep,k _ _ (.inl rfl) e,c⟩
 |set S n=>let⟨ob,es,ep,t,e,c⟩:=x;calc ⟨ob,es,ep,t,k _ _ (.inl rfl) e,c⟩
 |ins C dx fs=>
  let⟨d,z,ne,e,mA,⟨od,es,ep,e2,c⟩,r⟩:=x;calc ⟨ho _ d,z,ne,k _ _ (.inl rfl) e,mA,⟨od,es,ep,k _ _ (.inr d) e2,c⟩,r⟩
 |own y=>let⟨ob,e⟩:=x;calc ⟨ob,k _ _ (.inl rfl) e⟩
 |xd fs=>let⟨mA,⟨od,es,ep,e,c⟩,r⟩:=x;calc ⟨mA,⟨od,es,ep,k _ _ (.inl rfl) e,c⟩,r⟩
 |rng lo hi=>let⟨t,u,v,e⟩:=x;calc ⟨t,u,v,k _ _ (.inl rfl) e⟩
 |frz ob u ih=>let⟨e,q⟩:=x;calc ⟨k _ _ (.inl rfl) e,ih q⟩
 |tbl ps=>
  let e:h.get? a=some { cls:=.none,data:=.fields ps }:=x;show h'.get? a=some { cls:=.none,data:=.fields ps };calc k a _ (.inl rfl) e
 |met f y=>
  let e:h.get? a=some (PySem.W.methodObj (.ref f) (.ref y)):=x;show h'.get? a=some (PySem.W.methodObj (.ref f) (.ref y));calc k a _ (.inl rfl) e
 |ext φ=>let⟨p,⟨o,e⟩,st⟩:=x;calc ⟨st _ _ p λo q=>k _ _ (.inl rfl) q,⟨o,k _ _ (.inl rfl) e⟩,st⟩
def HOk.lt (x:HOk P w H h) (e:H a=some o):a<h.objs.size:=(x a o e).lt
def HOk.fresh (x:HOk P w H h) (e:h.objs.size<=a):H a=none:=by
 cases q:H a with
 |none=>rfl
 |some u=>calc absurd (BC (x.lt q) e) (BN _)
def HOk.kept (x:HOk P w H h) (k:∀ b u,h.get? b=some u->h'.get? b=some u):HOk P w H h':=λa o e=>
 (x a o e).stay (λb u _ q=>k b u q) (λ_ q=>q) λ_ _ q=>q
def HOk.laid (x:HOk P w H h) (k:∀ b u,h.get? b=some u->h'.get? b=some u) (hp:h.objs.size<=a) (new:Am P w (upd H a o) h' a o):HOk P w (upd H a o) h':=λb u e=>by
 let hn:=x.fresh hp;by_cases hb:b=a
 .subst hb;rw[CY]at e;ext e;exact new
 .rw[zS hb]at e;exact (x b u e).stay (λc v _ q=>k c v q) (λc q=>by rw[zS (DW q hn)];calc q) λc xs q=>by rw[zS (DW q hn)];calc q
end
def Rd (H:Hp) (a:Yt) (u:HO):Prop:=H a=some u \/ ∃ o,H a=some (.frz o u)
def Rd.ok {P:Ym} {w:Yo} {H:Hp} {h:Heap} {a:Yt} {u:HO} (r:Rd H a u) (x:HOk P w H h):Am P w H h a u:=by
 rcases r with r|⟨o,r⟩
 .exact x a u r
 .obtain ⟨_,q⟩:=x a _ r;calc q
def Mut:Option HO->Prop
 |some (.lst _)=>True
 |some (.dK _)=>True
 |some (.dT _)=>True
 |some (.set _ _)=>True
 |some (.ins _ _ _)=>True
 |some (.ext _)=>True
 |_=>False
section
variable {P:Ym} {w:Yo} {H:Hp} {h h':Heap} {x e:Yt} {o':HO}
def HOk.write (ok:HOk P w H h) (mu:Mut (H x)) (he:e=x\/H e=some (.own x)) (k:∀ b u,b≠e->h.get? b=some u->h'.get? b=some u) (heo:∃ u,h'.get? e=some u)
  (new:Am P w (upd H x o') h' x o'):HOk P w (upd H x o') h':=λb u q=>by
 let nown:∀ c y,H c=some (.own y)->c≠x:=λc y r z=>by subst z;rw[r]at mu;exact mu
 let ntup:∀ c xs,H c=some (.tup xs)->c≠x:=λc xs r z=>by subst z;rw[r]at mu;exact mu
 by_cases hb:b=x
 .subst hb;rw[CY]at q;ext q;exact new
 .rw[zS hb]at q;by_cases hbe:b=e
  .have q':H b=some (.own x):=by
    rcases he with z|z
    .exact absurd (hbe.trans z) hb
    .rw[hbe];exact z
   rw[q]at q';ext q';let⟨v,hv⟩:=heo;exact ⟨v,by rw[hbe];calc hv⟩
  .refine (ok b u q).stay (λc v hc r=>k c v ?_ r) (λc r=>by rw[zS (nown c b r)];exact r) λc xs r=>by rw[zS (ntup c xs r)];exact r
   rcases hc with rfl|hc
   .exact hbe
   .rintro rfl;rcases he with z|z
    .exact nown c b hc z
    .rw[hc]at z;ext z;calc hb rfl
end
structure Un (fs ex:Yg) (H H':Hp) (h h':Heap):Prop where
 keep:∀ b o,h.get? b=some o->H b=none->b∉fs->b∉ex->h'.get? b=some o
 slot:∀ b o,h.get? b=some o->H b=none->b∈fs->b∉ex -> ∃ sl,h'.get? b=some { o with slots:=sl }
 free:∀ b o,h.get? b=some o->H b=none->b∉ex->H' b=none
 there:∀ b o,h.get? b=some o->b∉ex -> ∃ o',h'.get? b=some o'
 tups:∀ b xs,H b=some (.tup xs)->H' b=some (.tup xs)
 frzs:∀ b o u,H b=some (.frz o u)->H' b=some (.frz o u)
 tbls:∀ b ps,H b=some (.tbl ps) -> ∃ more,H' b=some (.tbl (ps++more))
section
variable {fs fs' ex ex':Yg} {H H1 H2:Hp} {h h1 h2 h':Heap} {a x e:Yt} {o:HO}
def Un.any (u:Un fs ex H H1 h h1) {b:Yt} {ob:Obj} (q:h.get? b=some ob) (n:H b=none) (hx:b∉ex):∃ sl,h1.get? b=some { ob with slots:=sl }:=by
 by_cases hb:b∈fs
 .exact u.slot b ob q n hb hx
 .exact ⟨ob.slots,u.keep b ob q n hb hx⟩
def Un.kept (k:∀ b u,h.get? b=some u->h'.get? b=some u):Un fs ex H H h h' :=
 ⟨λb ob q _ _ _=>k b ob q,λb ob q _ _ _=>⟨ob.slots,k b ob q⟩,λ_ _ _ n _=>n,λb ob q _=>⟨ob,k b ob q⟩,λ_ _ q=>q,λ_ _ _ q=>q,λ_ ps q=>⟨#[],by rw[q];simp⟩⟩
def Un.refl:Un fs ex H H h h:=Un.kept λ_ _ q=>q
def Un.laid (k:∀ b u,h.get? b=some u->h'.get? b=some u) (hp:h.objs.size<=a) (hn:H a=none):Un fs ex H (upd H a o) h h' where
 keep:=λb u q _ _ _=>k b u q;slot:=λb u q _ _ _=>⟨u.slots,k b u q⟩;free:=λb u q n _=>by rw[zS (Ah (BC (AI q) hp))];exact n
 there:=λb u q _=>⟨u,k b u q⟩;tups:=λb xs q=>by rw[zS (DW q hn)];exact q
 frzs:=λb u xs q=>by rw[zS (DW q hn)];exact q
 tbls:=λb ps q=>⟨#[],by rw[zS (DW q hn),q];simp⟩
def Un.write (mu:Mut (H x)) (he:e=x\/H e=some (.own x)) (k:∀ b u,b≠e->h.get? b=some u->h'.get? b=some u) (heo:∃ u,h'.get? e=some u):Un fs ex H (upd H x o) h h':=by
 let hx:∀ b,H b=none->b≠x:=λb n z=>by subst z;rw[n]at mu;exact mu
 let hb:∀ b,H b=none->b≠e:=λb n z=>by
  subst z;rcases he with r|r
  .exact hx b n r
  .rw[n]at r;ext r
 let hm:∀ b u,H b=some u -> ¬ Mut (some u)->b≠x:=λb u q nm z=>by subst z;rw[q]at mu;exact nm mu
 refine ⟨λb u q n _ _=>k b u (hb b n) q,λb u q n _ _=>⟨u.slots,k b u (hb b n) q⟩,λb u q n _=>by rw[zS (hx b n)];exact n,λb u q _=>?_,
  λb xs q=>by rw[zS (hm b _ q λz=>z)];exact q,λb u xs q=>by rw[zS (hm b _ q λz=>z)];exact q,λb ps q=>⟨#[],by rw[zS (hm b _ q λz=>z),q];simp⟩⟩
 by_cases hbe:b=e
 .subst hbe;exact heo
 .exact ⟨u,k b u hbe q⟩
end
def trk (h:Heap) (H:Hp):List Addr:=(List.range h.objs.size).filter λa=>(H a).isSome
def D3 (h:Heap) (H:Hp):Heap:=PySem.W.hideAll h (trk h H)
def Vz (h:Heap) (H:Hp):(D3 h H).objs.size=h.objs.size:=PySem.W.hideAll_size _ _
def iE {h:Heap} {H:Hp} {b:Yt} {o:Obj} (e:h.get? b=some o) (n:H b=none):(D3 h H).get? b=some o :=
 PySem.W.hideAll_get _ e λhm=>by
  let q:(H b).isSome=true:=(List.mem_filter.mp hm).2;rw[n]at q;simp at q
def Tc {h:Heap} {H:Hp} {b:Yt} {o:Obj} (e:(D3 h H).get? b=some o):h.get? b=some o/\H b=none:=by
 let e':h.get? b=some o:=PySem.W.of_hideAll (trk h H) e;calc ⟨e',?_⟩;cases q:H b with
 |none=>rfl
 |some x=>
  let hm:b∈trk h H:=List.mem_filter.mpr ⟨DR.mpr (AI e'),by simp[q]⟩;let z:(D3 h H).get? b=none:=PySem.W.hideAll_none (trk h H) hm;rw[z]at e;ext e
def BMn (mg:Str->Option Value) (h:Heap):Prop:=∃ bm ob,mg "__builtins__" = some (.ref bm)/\bm≠builtinsNs/\h.get? bm=some ob/\ob.cls=.type "module" /\ ob.dict=some builtinsNs/\ob.data=.plain
structure Mod (K:Yb) (mg:Yh) (base:Heap):Prop where
 kin:K.In base
 glob:base.Ns mainGlobals mg
 blt:∃ mb,base.Ns builtinsNs mb /\ ∀ x:Str,x ≠ "__name__" -> mb x=bootBuiltins x
 nolimit:base.NoLimit
 bmn:BMn mg base
structure Cx where
 prog:Program
 w:World
 K:PySem.W.Frag
 mg:Str->Option Value
 base:Heap
 A:Around
 N:List Str
 s₀:Shared
 H₀:Hp
 env:Env
 outer:List Env
 stack:List Env
 ex:List Addr
 fn:Str->Bool
 calm:Bool
 pn:List (Addr × Obj)
 xe:Value->Shared->Prop
def frs (l:List Env):List Addr:=l.filterMap (·.frame)
abbrev Cx.fs (X:Cx):List Addr:=frs X.outer
def Vis (sc:Y0) (x:Str):Prop:=sc.names.lookup x=some .local\/sc.names.lookup x=some .cell\/sc.names.lookup x=some .free
def Loc (sc:Y0) (x:Str):Prop:=sc.names.lookup x=some .local\/sc.names.lookup x=some .cell
def Vr (env:Env) (h:Heap) (m:Yh) (x:Str) (u:Yu):Prop :=
 (env.kindOf x=some .local/\m x=some u)\/((env.kindOf x=some .cell\/env.kindOf x=some .free) /\ ∃ c,env.cells.lookup x=some c/\h.IsCell c (some u))
structure Cx.Ok (X:Cx):Prop where
 mod:Mod X.K X.mg X.base
 kind:X.env.scope.kind=.function
 glob:X.env.globals=mainGlobals
 blt:X.env.builtins=builtinsNs
 above:⇑X.s₀<=X.env.locals
 inj:∀ x y c,X.env.cells.lookup x=some c->X.env.cells.lookup y=some c->x=y
 has:∀ x,(X.env.kindOf x=some .cell\/X.env.kindOf x=some .free) -> ∃ c,X.env.cells.lookup x=some c
 cab:∀ x c,X.fn x=true->X.env.cells.lookup x=some c->⇑X.s₀<=c
 hd:X.calm=true->X.A.handled=none
 frames:X.A.frames=some X.stack
 stk:X.stack=X.outer\/(X.stack=X.env::X.outer/\X.env.frame=some X.env.locals)
 exf:∀ b∈X.ex,b≠X.env.locals /\ ∀ x c,X.env.cells.lookup x=some c->c≠b
 bs:∀ b o,X.base.get? b=some o->X.s₀.heap.get? b=some o/\X.H₀ b=none
 bsz:X.base.objs.size<=⇑X.s₀
 noex:∀ b o,X.base.get? b=some o->b∉X.ex
 exfs:∀ b∈X.ex,b∉X.fs
 funs:X.s₀.heap.FunFrames X.base X.outer
 frf:∀ b∈X.fs,X.H₀ b=none
structure Inv (X:Cx) (zB:Yd) (Y:List (Option V)) (H:Hp) (s:Yl):Prop where
 ok:X.Ok
 os:s.os=X.s₀.os
 bare:AllBare s.gens
 base:Un X.fs X.ex X.H₀ H X.s₀.heap s.heap
 loc:∃ m,s.heap.Ns X.env.locals m /\ ∀ (i:Nat) (x:Str) (v:V),X.N[i]?=some x->Y[i]?=some (some v)->Vis X.env.scope x -> ∃ u,zf v u/\Vr X.env s.heap m x u
 cell:∀ x c,X.env.cells.lookup x=some c -> ∃ v,s.heap.IsCell c v
 free:H X.env.locals=none
 freeC:∀ x c,X.env.cells.lookup x=some c->H c=none
 pin:∀ p∈X.pn++zB,s.heap.get? p.1=some p.2/\H p.1=none/\p.1≠X.env.locals/\p.1∉X.fs /\ ∀ v,p.2.data≠.cell v
 hok:HOk X.prog X.w H s.heap
 len:Y.length=X.N.length
section
variable {X:Cx} {zB:Yd} {Y:List (Option V)} {H H':Hp} {s:Yl} {h':Heap}
def Cx.Ok.nofr (ok:X.Ok) {b:Yt} {o:Obj} (e:X.base.get? b=some o):b∉X.fs:=λhb=>by
 have:=(ok.funs.mem hb).1;rw[e]at this;ext this
def Inv.bs (I:Inv X zB Y H s):∀ b o,X.base.get? b=some o->s.heap.get? b=some o/\H b=none:=λb o e=>
 ⟨I.base.keep b o (I.ok.bs b o e).1 (I.ok.bs b o e).2 (I.ok.nofr e) (I.ok.noex b o e),I.base.free b o (I.ok.bs b o e).1 (I.ok.bs b o e).2 (I.ok.noex b o e)⟩
def Inv.bk (I:Inv X zB Y H s):∀ b o,X.base.get? b=some o->s.heap.get? b=some o:=λb o e=>(I.bs b o e).1
def Inv.mod (I:Inv X zB Y H s):Mod X.K X.mg X.base:=I.ok.mod
def Inv.kIn (I:Inv X zB Y H s):X.K.In s.heap:=I.ok.mod.kin.keeps I.bk
def Inv.lt (I:Inv X zB Y H s):X.env.locals<⇑s:=let ⟨_,hn,_⟩:=I.loc;hn.lt
def Inv.sz (I:Inv X zB Y H s):⇑X.s₀<=⇑s:=Ao I.ok.above (DV I.lt)
def Inv.nofs (I:Inv X zB Y H s) {a:Yt} (h:⇑s<=a):a∉X.fs:=λhb=>by
 let⟨_,o,ho,_⟩:=I.ok.funs.mem hb;calc absurd (BC (AI ho) (Ao I.sz h)) (BN _)
def Inv.cne (I:Inv X zB Y H s):∀ x c,X.env.cells.lookup x=some c->c≠X.env.locals:=λx c e z=>by
 let⟨v,o,ho,hd⟩:=I.cell x c e;let⟨m,⟨o',es,ep,ho',hd',_⟩,_⟩:=I.loc;rw[z,ho']at ho;ext ho;rw[hd']at hd;ext hd
def Inv.funs (I:Inv X zB Y H s):s.heap.FunFrames X.base X.outer:=by
 let all:∀ (l:List Env),(∀ b∈frs l,b∈X.fs)->X.s₀.heap.FunFrames X.base l->s.heap.FunFrames X.base l:=by
  intro l;induction l with
  |nil=>intro _ _;trivial
  |cons env r ih=>
   intro hs hl;let⟨hk,⟨L,o,hf,hn,ho,hd⟩,hr⟩:=hl;let hL:L∈X.fs:=hs L (by erw[frs];rw[List.filterMap_cons,hf];calc Ax);let⟨sl,e⟩:=I.base.slot L o ho (I.ok.frf L hL) hL λz=>I.ok.exfs L z hL;exact ⟨hk,⟨L,_,hf,hn,e,hd⟩,ih (λb hb=>hs b (by erw[frs];rw[List.filterMap_cons,hf];calc BF _ hb)) hr⟩
 calc all X.outer (λ_ hb=>hb) I.ok.funs
def Inv.stack (I:Inv X zB Y H s):s.heap.FunFrames X.base X.stack:=by
 rcases I.ok.stk with e|⟨e,hf⟩
 .rw[e];exact I.funs
 .rw[e];let⟨m,hn,_⟩:=I.loc;calc .cons (by rw[I.ok.kind];decide) hf hn ?_ I.funs;calc Heap.get?_none_of_le (Ao I.ok.bsz I.ok.above)
def Inv.stkSub (I:Inv X zB Y H s):∀ b∈frs X.stack,b∈X.env.locals::X.fs:=λb hb=>by
 rcases I.ok.stk with e|⟨e,hf⟩
 .rw[e]at hb;exact BF _ hb
 .rw[e]at hb;erw[frs]at hb;rw[List.filterMap_cons,hf]at hb;calc hb
def Inv.stkFree (I:Inv X zB Y H s):∀ b∈frs X.stack,H b=none:=λb hb=>by
 rcases AJ.mp (I.stkSub b hb)with e|hb
 .rw[e];exact I.free
 .obtain ⟨_,o,ho,_⟩:=I.ok.funs.mem hb;calc I.base.free b o ho (I.ok.frf b hb) λz=>I.ok.exfs b z hb
def Inv.step {g':Array GenState} {t':Nat} {d':Drawn} {ch:Yg} (I:Inv X zB Y H s)
  (hch:∀ b∈ch,(b∈X.ex\/⇑X.s₀<=b)/\b≠X.env.locals/\(∀ x c,X.env.cells.lookup x=some c->c≠b) /\ ∀ p∈X.pn++zB,p.1≠b)
  (keep:∀ b o,b≠X.env.locals->b∉X.fs->b∉ch->s.heap.get? b=some o->H b=none->h'.get? b=some o)
  (slot:∀ b o,b≠X.env.locals->b∈X.fs->b∉ch->s.heap.get? b=some o->H b=none -> ∃ sl,h'.get? b=some { o with slots:=sl }) (free:∀ b o,b∉ch->s.heap.get? b=some o->H b=none->H' b=none)
  (there:∀ b o,b∉ch->s.heap.get? b=some o -> ∃ o',h'.get? b=some o')
  (tups:∀ b xs,H b=some (.tup xs)->H' b=some (.tup xs)) (frzs:∀ b o u,H b=some (.frz o u)->H' b=some (.frz o u)) (tbls:∀ b ps,H b=some (.tbl ps) -> ∃ more,H' b=some (.tbl (ps++more)))
  (ns:∀ m,s.heap.Ns X.env.locals m->h'.Ns X.env.locals m) (hok:HOk X.prog X.w H' h') (hg:AllBare g') :
  Inv X zB Y H' { s with heap:=h',gens:=g',drawn:=d',toks:=t' }:=by
 let neL:∀ b o,X.s₀.heap.get? b=some o->b≠X.env.locals:=λb o e=>Ah (BC (AI e) I.ok.above);let neC:∀ b o,X.s₀.heap.get? b=some o->b∉X.ex->b∉ch:=λb o e hx hb=>by
  rcases (hch b hb).1 with z|z
  .exact hx z
  .exact absurd (BC (AI e) z) (BN _)
 let cellK:∀ x c,X.env.cells.lookup x=some c -> ∀ v,s.heap.IsCell c v->h'.IsCell c v:=λx c e v ⟨o,ho,hd⟩=>by
  let nch:c∉ch:=λz=>(hch c z).2.2.1 x c e rfl;by_cases hc:c∈X.fs
  .obtain ⟨sl,q⟩:=slot c o (I.cne x c e) hc nch ho (I.freeC x c e);exact ⟨_,q,hd⟩
  .exact ⟨o,keep c o (I.cne x c e) hc nch ho (I.freeC x c e),hd⟩
 refine ⟨I.ok,I.os,hg,⟨λb o e n hb hx=>?_,λb o e n hb hx=>?_,λb o e n hx=>?_,λb o e hx=>?_,λb xs e=>tups b xs (I.base.tups b xs e),λb o xs e=>frzs b o xs (I.base.frzs b o xs e),λb ps e=>?_⟩,?_,λx c e=>?_,?_,λx c e=>?_,λp hp=>?_,hok,I.len⟩
 .exact keep b o (neL b o e) hb (neC b o e hx) (I.base.keep b o e n hb hx) (I.base.free b o e n hx)
 .obtain ⟨sl,e1⟩:=I.base.slot b o e n hb hx;let⟨sl',e2⟩:=slot b _ (neL b o e) hb (neC b o e hx) e1 (I.base.free b o e n hx);exact ⟨sl',e2⟩
 .obtain ⟨o',e1⟩:=I.base.there b o e hx;exact free b o' (neC b o e hx) e1 (I.base.free b o e n hx)
 .obtain ⟨o',e1⟩:=I.base.there b o e hx;exact there b o' (neC b o e hx) e1
 .obtain ⟨m1,e1⟩:=I.base.tbls b ps e;let⟨m2,e2⟩:=tbls b _ e1;exact ⟨m1++m2,by rw[e2,Array.append_assoc]⟩
 .obtain ⟨m,hn,hl⟩:=I.loc;refine ⟨m,ns m hn,λi x v e1 e2 e3=>?_⟩;let⟨u,r,l⟩:=hl i x v e1 e2 e3;refine ⟨u,r,?_⟩;rcases l with l|⟨k,c,e,z⟩
  .exact .inl l
  .exact .inr ⟨k,c,e,cellK x c e _ z⟩
 .obtain ⟨v,z⟩:=I.cell x c e;exact ⟨v,cellK x c e v z⟩
 .obtain ⟨m,⟨o,_,_,ho,_⟩,_⟩:=I.loc;exact free _ o (λz=>(hch _ z).2.1 rfl) ho I.free
 .obtain ⟨v,o,ho,hd⟩:=I.cell x c e;exact free c o (λz=>(hch c z).2.2.1 x c e rfl) ho (I.freeC x c e)
 .obtain ⟨e,n,ne,nf,d⟩:=I.pin p hp;let nch:p.1∉ch:=λz=>(hch p.1 z).2.2.2 p hp rfl;calc ⟨keep p.1 p.2 ne nf nch e n,free p.1 p.2 nch e n,ne,nf,d⟩
def Inv.un {t':Nat} (I:Inv X zB Y H s) (u:Un X.fs [] H H' s.heap h') (hok:HOk X.prog X.w H' h'):Inv X zB Y H' { s with heap:=h',toks:=t' }:=by
 let⟨m,⟨o,es,ep,ho,r⟩,_⟩:=id I.loc;let⟨sl,hL⟩:=u.any ho I.free (by simp);exact I.step (g':=s.gens) (d':=s.drawn) (ch:=[]) (λ_ z=>nomatch z) (λb o _ hb _ e n=>u.keep b o e n hb (by simp)) (λb o _ hb _ e n=>u.slot b o e n hb (by simp)) (λb o _ e n=>u.free b o e n (by simp)) (λb o _ e=>u.there b o e (by simp)) u.tups u.frzs u.tbls (λm' hm=>by
  let⟨o',es',ep',ho',r'⟩:=hm;rw[ho]at ho';ext ho';calc ⟨_,es',ep',hL,r'⟩) hok I.bare
def Inv.call {g':Array GenState} {t':Nat} {d':Drawn} {ch:Yg} (I:Inv X zB Y H s) (u:Un (frs X.stack) ch H H' s.heap h') (hok:HOk X.prog X.w H' h') (hg:AllBare g')
  (hch:∀ b∈ch,(b∈X.ex\/⇑X.s₀<=b)/\b≠X.env.locals/\(∀ x c,X.env.cells.lookup x=some c->c≠b) /\ ∀ p∈X.pn++zB,p.1≠b) :
  Inv X zB Y H' { s with heap:=h',gens:=g',drawn:=d',toks:=t' }:=by
 let⟨m,⟨o,es,ep,ho,r⟩,_⟩:=id I.loc;let⟨sl,hL⟩:=u.any ho I.free λz=>(hch _ z).2.1 rfl;exact I.step (ch:=ch) hch (λb o hL hb hc e n=>u.keep b o e n (λz=>(AJ.mp (I.stkSub b z)).elim hL hb) hc) (λb o _ _ hc e n=>u.any e n hc) (λb o hc e n=>u.free b o e n hc) (λb o hc e=>u.there b o e hc) u.tups u.frzs u.tbls (λm' hm=>by
  let⟨o',es',ep',ho',r'⟩:=hm;rw[ho]at ho';ext ho';calc ⟨_,es',ep',hL,r'⟩) hok hg
def Inv.turned {t':Nat} {it:Yt} (I:Inv X zB Y H s) (k:∀ b o,b≠it->s.heap.get? b=some o->h'.get? b=some o) (hn:H it=none) (hL:it≠X.env.locals)
  (h1:it∈X.ex\/⇑X.s₀<=it) (h2:∀ x c,X.env.cells.lookup x=some c->c≠it) (h3:∀ p∈X.pn++zB,p.1≠it):Inv X zB Y H { s with heap:=h',toks:=t' }:=by
 let nit:∀ b u,H b=some u->b≠it:=λb u e z=>by rw[z,hn]at e;ext e
 refine I.step (g':=s.gens) (d':=s.drawn) (ch:=[it]) (λb hb=>?_) (λb o _ _ hc e _=>k b o (λz=>hc (by simp[z])) e) (λb o _ _ hc e _=>⟨o.slots,k b o (λz=>hc (by simp[z])) e⟩) (λ_ _ _ _ n=>n)
  (λb o hc e=>⟨o,k b o (λz=>hc (by simp[z])) e⟩) (λ_ _ e=>e) (λ_ _ _ e=>e) (λb ps e=>⟨#[],by rw[e];simp⟩) (λm hm=>?_) (λb u e=>?_) I.bare
 .have e:b=it:=by simpa using hb
  subst e;exact ⟨h1,hL,h2,h3⟩
 .obtain ⟨o,es,ep,ho,r⟩:=hm;exact ⟨o,es,ep,k _ o (Ne.symm hL) ho,r⟩
 .refine (I.hok b u e).stay (λc v hc q=>k c v ?_ q) (λ_ q=>q) λ_ _ q=>q;rcases hc with z|z
  .rw[z];exact nit b u e
  .exact nit c _ z
def Inv.tok (I:Inv X zB Y H s) (t:Nat):Inv X zB Y H { s with toks:=t }:=I.un (h':=s.heap) (t':=t) Un.refl I.hok
def Inv.kept {t':Nat} (I:Inv X zB Y H s) (k:∀ b u,s.heap.get? b=some u->h'.get? b=some u):Inv X zB Y H { s with heap:=h',toks:=t' }:=I.un (Un.kept k) (I.hok.kept k)
def Inv.laid {a:Yt} {o:HO} {t':Nat} (I:Inv X zB Y H s) (k:∀ b u,s.heap.get? b=some u->h'.get? b=some u) (hp:⇑s<=a) (new:Am X.prog X.w (upd H a o) h' a o) :
  Inv X zB Y (upd H a o) { s with heap:=h',toks:=t' }:=I.un (Un.laid k hp (I.hok.fresh hp)) (I.hok.laid k hp new)
def Inv.write {x e:Yt} {o:HO} {t':Nat} (I:Inv X zB Y H s) (mu:Mut (H x)) (he:e=x\/H e=some (.own x)) (k:∀ b u,b≠e->s.heap.get? b=some u->h'.get? b=some u) (heo:∃ u,h'.get? e=some u)
  (new:Am X.prog X.w (upd H x o) h' x o):Inv X zB Y (upd H x o) { s with heap:=h',toks:=t' }:=I.un (Un.write mu he k heo) (I.hok.write mu he k heo new)
def Inv.weak {Y':List (Option V)} (I:Inv X zB Y H s) (hl:Y'.length=Y.length) (w:∀ (i:Nat) v,Y'[i]?=some (some v)->Y[i]?=some (some v)):Inv X zB Y' H s :=
 ⟨I.ok,I.os,I.bare,I.base,let ⟨m,hn,hl'⟩:=I.loc;⟨m,hn,λi x v e1 e2 e3=>hl' i x v e1 (w i v e2) e3⟩,I.cell,I.free,I.freeC,I.pin,I.hok,hl.trans I.len⟩
def Inv.pins_of {pins':Yd} (I:Inv X zB Y H s) (h:∀ p∈pins',s.heap.get? p.1=some p.2/\H p.1=none/\p.1≠X.env.locals/\p.1∉X.fs /\ ∀ v,p.2.data≠.cell v):Inv X pins' Y H s :=
 ⟨I.ok,I.os,I.bare,I.base,I.loc,I.cell,I.free,I.freeC,λp hp=>(AR.mp hp).elim (λz=>I.pin p (CJ _ z)) (h p),I.hok,I.len⟩
def PM {N:Yk} (hN:N.Nodup) {i j:Nat} {x:Str} (a:N[i]?=some x) (b:N[j]?=some x):i=j:=by
 let⟨h1,e1⟩:=AK.mp a;let⟨h2,e2⟩:=AK.mp b;calc (List.getElem_inj hN).mp (e1.trans e2.symm)
def SM {M:Model} {A:Yn} {E:Yc} {i:Nat} {x:Str} {v:V} {u:Yu} {Q:Unit->Shared->Prop} (I:Inv X zB Y H s) (hN:X.N.Nodup) (hi:X.N[i]?=some x) (hx:Loc X.env.scope x) (r:zf v u)
  (h:∀ s',Inv X zB (Y.set i (some v)) H s'->(∃ a,Heap.SameBut a s.heap s'.heap/\(a=X.env.locals\/X.env.cells.lookup x=some a))->Q Unit.unit s') (hf:X.fn x=true\/X.env.scope.names.lookup x=some .local:=by first|exact .inl rfl|exact .inr rfl|assumption):wpAny M A (storeName X.env x u) Q E s:=by
 let⟨m,hn,hl⟩:=id I.loc;let hcls:(X.env.scope.kind == .class||(X.env.scope.kind == .module&&X.env.locals != X.env.globals))=false:=by rw[I.ok.kind];rfl
 let hiσ:i<Y.length:=by rw[I.len];exact (AK.mp hi).1
 let cne:=I.cne;let tracked:∀ {a:Yt} {h':Heap},(∃ o,s.heap.get? a=some o/\H a=none)->Heap.SameBut a s.heap h'->HOk X.prog X.w H h':=λ{a h'} ha hs b ob e=>by
  let⟨_,_,hfree⟩:=ha;refine (I.hok b ob e).stay (λc w' hc q=>(hs.2 c ?_).trans q) (λ_ q=>q) λ_ _ q=>q;rintro rfl;rcases hc with rfl|hc
  .rw[hfree]at e;ext e
  .rw[hfree]at hc;ext hc
 rcases hx with hk|hk
 .refine wpAny_storeName_local hk hn (λh' hn' hs=>?_) hcls;let⟨oL,_,_,hoL,_⟩:=id hn;refine h _ ⟨I.ok,I.os,I.bare,⟨λb o e n hb hx=>?_,λb o e n hb hx=>?_,I.base.free,λb o e hx=>?_,I.base.tups,I.base.frzs,I.base.tbls⟩,⟨_,hn',λj y v' e1 e2 e3=>?_⟩,λy c e=>?_,I.free,I.freeC,λp hp=>?_,tracked ⟨oL,hoL,I.free⟩ hs,by simpa using I.len⟩ ⟨_,hs,.inl rfl⟩
  .exact (hs.2 b (Ah (BC (AI e) I.ok.above))).trans (I.base.keep b o e n hb hx)
  .obtain ⟨sl,e1⟩:=I.base.slot b o e n hb hx;exact ⟨sl,(hs.2 b (Ah (BC (AI e) I.ok.above))).trans e1⟩
  .obtain ⟨o',e1⟩:=I.base.there b o e hx;exact ⟨o',(hs.2 b (Ah (BC (AI e) I.ok.above))).trans e1⟩
  .by_cases hj:j=i
   .subst hj;rw[hi]at e1;ext e1;rw[Br hiσ]at e2;ext e2;exact ⟨u,r,.inl ⟨hk,by simp⟩⟩
   .rw[Bl (Ne.symm hj)]at e2;let⟨u',r',q⟩:=hl j y v' e1 e2 e3;refine ⟨u',r',?_⟩;rcases q with ⟨k,e⟩|⟨k,c,e,z⟩
    .refine .inl ⟨k,?_⟩;have:y≠x:=λe=>hj (PM hN e1 (e▸hi));simp[this,e]
    .exact .inr ⟨k,c,e,z.sameBut hs (cne y c e)⟩
  .obtain ⟨w',z⟩:=I.cell y c e;exact ⟨w',z.sameBut hs (cne y c e)⟩
  .obtain ⟨e,n,ne,nf,d⟩:=I.pin p hp;exact ⟨(hs.2 p.1 ne).trans e,n,ne,nf,d⟩
 .have hfn:X.fn x=true:=by
   rcases hf with z|z
   .exact z
   .rw[z]at hk;ext hk
  let⟨c,hc⟩:=I.ok.has x (.inl hk);let⟨w',z⟩:=I.cell x c hc;refine wpAny_storeName_cell I.ok.kind hk hc z (λh' hc' hs=>?_);let⟨oc,hoc,hocd⟩:=id z;refine h { s with heap:=h' } ⟨I.ok,I.os,I.bare,⟨λb o e n hb hx=>?_,λb o e n hb hx=>?_,I.base.free,λb o e hx=>?_,I.base.tups,I.base.frzs,I.base.tbls⟩,⟨m,hn.sameBut hs (Ne.symm (cne x c hc)),λj y v' e1 e2 e3=>?_⟩,λy c' e=>?_,I.free,I.freeC,λp hp=>?_,tracked ⟨oc,hoc,I.freeC x c hc⟩ hs,by simpa using I.len⟩ ⟨c,hs,.inr hc⟩
  .exact (hs.2 b (Ah (BC (AI e) (I.ok.cab x c hfn hc)))).trans (I.base.keep b o e n hb hx)
  .obtain ⟨sl,e1⟩:=I.base.slot b o e n hb hx;exact ⟨sl,(hs.2 b (Ah (BC (AI e) (I.ok.cab x c hfn hc)))).trans e1⟩
  .obtain ⟨o',e1⟩:=I.base.there b o e hx;exact ⟨o',(hs.2 b (Ah (BC (AI e) (I.ok.cab x c hfn hc)))).trans e1⟩
  .by_cases hj:j=i
   .subst hj;rw[hi]at e1;ext e1;rw[Br hiσ]at e2;ext e2;exact ⟨u,r,.inr ⟨.inl hk,c,hc,hc'⟩⟩
   .rw[Bl (Ne.symm hj)]at e2;let⟨u',r',q⟩:=hl j y v' e1 e2 e3;refine ⟨u',r',?_⟩;rcases q with q|⟨k,c',e,z'⟩
    .exact .inl q
    .refine .inr ⟨k,c',e,z'.sameBut hs ?_⟩;rintro rfl;exact hj (PM hN e1 (I.ok.inj _ _ _ e hc▸hi))
  .by_cases hcc:c'=c
   .subst hcc;exact ⟨_,hc'⟩
   .obtain ⟨w2,z2⟩:=I.cell y c' e;exact ⟨w2,z2.sameBut hs hcc⟩
  .obtain ⟨e,n,ne,nf,d⟩:=I.pin p hp;calc ⟨(hs.2 p.1 ?_).trans e,n,ne,nf,d⟩;intro q;rw[q,hoc]at e;let q':oc=p.2:=Bb e;calc d w' (by rw[<-q'];calc hocd)
def MZ {M:Model} {A:Yn} {E:Yc} {i:Nat} {x:Str} {v:V} {u:Yu} {Q:Unit->Shared->Prop} (I:Inv X zB Y H s) (hN:X.N.Nodup) (hi:X.N[i]?=some x) (hx:Loc X.env.scope x) (r:zf v u)
  (h:∀ s',Inv X zB (Y.set i (some v)) H s'->Q Unit.unit s') (hf:X.fn x=true\/X.env.scope.names.lookup x=some .local:=by first|exact .inl rfl|exact .inr rfl|assumption):wpAny M A (storeName X.env x u) Q E s :=
 SM I hN hi hx r (λs' I' _=>h s' I') hf
def Inv.call' {s':Yl} {ch:Yg} (I:Inv X zB Y H s) (ho:s'.os=s.os) (u:Un (frs X.stack) ch H H' s.heap s'.heap) (hok:HOk X.prog X.w H' s'.heap) (hg:AllBare s'.gens)
  (hch:∀ b∈ch,(b∈X.ex\/⇑X.s₀<=b)/\b≠X.env.locals/\(∀ x c,X.env.cells.lookup x=some c->c≠b) /\ ∀ p∈X.pn++zB,p.1≠b):Inv X zB Y H' s':=by
 let⟨h',g',d',t',o'⟩:=s';let e:o'=s.os:=ho;subst e;calc I.call (g':=g') (t':=t') (d':=d') u hok hg hch
end
abbrev XK:=Value->Option Addr->Hp->Prop
abbrev St:=List (Option V)
abbrev VK:=V->Hp->Prop
abbrev TE:=St->Hp->VK->Prop
abbrev TT:=St->Hp->(Bool->Hp->Prop)->Prop
abbrev TA:=St->Hp->(List V->Hp->Prop)->Prop
structure Ends where
 nx:St->Hp->Prop
 rt:VK
 bk:St->Hp->Prop:=λ_ _=>False
 ct:St->Hp->Prop:=λ_ _=>False
abbrev TS:=Ends->St->Hp->Prop
def EP (X:Cx) (zB:Yd) (Y:St) (Q:VK) (u:Yu) (s':Yl):Prop:=∃ v H',Inv X zB Y H' s'/\zf v u/\Q v H'
def TP (X:Cx) (zB:Yd) (Y:St) (Q:Bool->Hp->Prop) (b:Bool) (s':Yl):Prop:=∃ H',Inv X zB Y H' s'/\Q b H'
def AP (X:Cx) (zB:Yd) (Y:St) (Q:List V->Hp->Prop) (us:Yf) (s':Yl):Prop:=∃ vs H',Inv X zB Y H' s'/\zT vs us/\Q vs H'
def SP (X:Cx) (zB:Yd) (D:Ends) (f:Flow) (s':Yl):Prop :=
 match f with
 |.next=>∃ Y' H',Inv X zB Y' H' s'/\D.nx Y' H'
 |.brk=>∃ Y' H',Inv X zB Y' H' s'/\D.bk Y' H'
 |.cont=>∃ Y' H',Inv X zB Y' H' s'/\D.ct Y' H'
 |.ret u=>∃ v Y' H',Inv X zB Y' H' s'/\zf v u/\D.rt v H'
def PE (X:Cx) (e:Expr) (t:TE):Prop :=
 ∀ (zB:Yd) (s:Yl) (Y:St) (H:Hp) (Q:VK),Inv X zB Y H s->t Y H Q->wpAny (model X.prog X.w) X.A (eval e X.env) (EP X zB Y Q) X.xe s
def PT (X:Cx) (e:Expr) (t:TT):Prop :=
 ∀ (zB:Yd) (s:Yl) (Y:St) (H:Hp) (Q:Bool->Hp->Prop),Inv X zB Y H s->t Y H Q->wpAny (model X.prog X.w) X.A (isTrue e X.env (eval e X.env)) (TP X zB Y Q) X.xe s
def PW (X:Cx) (e:Expr) (t:TT):Prop :=
 ∀ (whole:Sem Value) (zB:Yd) (s:Yl) (Y:St) (H:Hp) (Q:Bool->Hp->Prop),Inv X zB Y H s->t Y H Q->wpAny (model X.prog X.w) X.A (isTrue e X.env whole) (TP X zB Y Q) X.xe s
def PW.pt {X:Cx} {e:Expr} {t:TT} (h:PW X e t):PT X e t:=h _
def PA (X:Cx) (es:Yi) (t:TA):Prop :=
 ∀ (pos:Pos) (zB:Yd) (s:Yl) (Y:St) (H:Hp) (Q:List V->Hp->Prop),Inv X zB Y H s->t Y H Q->wpAny (model X.prog X.w) X.A (spliced (backTo pos (starEach es X.env))) (AP X zB Y Q) X.xe s
def PS (X:Cx) (st:Stmt) (t:TS):Prop :=
 ∀ (zB:Yd) (s:Yl) (Y:St) (H:Hp) (D:Ends),Inv X zB Y H s->t D Y H->wpAny (model X.prog X.w) X.A (exec st X.env) (SP X zB D) X.xe s
def PSs (X:Cx) (st:Yy) (t:TS):Prop :=
 ∀ (zB:Yd) (s:Yl) (Y:St) (H:Hp) (D:Ends),Inv X zB Y H s->t D Y H->wpAny (model X.prog X.w) X.A (execs st X.env) (SP X zB D) X.xe s
def thn {α:Type} {t:Sem α} {Q Q':α->Shared->Prop} {M:Model} {A:Yn} {E:Yc} {s:Yl} (h:wpAny M A t Q E s) (hQ:∀ a s,Q a s->Q' a s):wpAny M A t Q' E s:=An h hQ λ_ _ x=>x
section
variable {X:Cx}
def Ld (i:Nat):TE:=λY H Q=>∃ v,Y[i]?=some (some v)/\Q v H
def tC (v:V):TE:=λ_ H Q=>Q v H
def Ul {i:Nat} {x:Str} {pos:Pos} (hN:X.N[i]?=some x) (hv:Vis X.env.scope x) (hd:(x==("__debug__" : Str))=false:=by decide) (hcd:(x==("__classdict__" : Str))=false:=by decide):PE X (.Name x pos) (Ld i):=by
 intro zB s Y H Q I h;let⟨v,e,h⟩:=h;let⟨m,hn,hl⟩:=I.loc;let⟨u,r,l⟩:=hl i x v hN e hv;let fin:EP X zB Y Q u s:=⟨v,H,I,r,h⟩;rcases l with ⟨hk,hm⟩|⟨hk,c,hc,hcell⟩
 .exact wpAny_Name (wpAny_loadName_local I.ok.kind hk hn hm fin) hd
 .rcases hk with hk|hk
  .exact wpAny_Name (wpAny_loadName_cell I.ok.kind hk hc hcell fin) hd
  .exact wpAny_Name (wpAny_loadName_free I.ok.kind hk hc hcell fin hcd) hd
def fK {i j pos}:PE X (.Constant (.int i) j pos) (tC (.int i)):=λ_ _ _ H _ I h=>wpAny_Constant_int ⟨.int i,H,I.tok _,⟨_,rfl⟩,h⟩
def aS {b j pos}:PE X (.Constant (.bool b) j pos) (tC (.bl b)):=λ_ _ _ H _ I h=>Constant_bool ⟨.bl b,H,I,rfl,h⟩
def cP {j pos}:PE X (.Constant .none j pos) (tC .non):=λ_ _ _ H _ I h=>Constant_none ⟨.non,H,I,rfl,h⟩
def fH {x j pos}:PE X (.Constant (.str x) j pos) (tC (.str x)):=λ_ _ _ H _ I h=>Calls.Constant_str ⟨.str x,H,I.tok _,⟨_,rfl⟩,h⟩
def Gl (X:Cx) (x:Str):Prop:=X.env.kindOf x=some .globalImplicit
def gG {E:Yc} {zB:Yd} {s:Yl} {Y:St} {H:Hp} {x:Str} {u:Yu} {pos:Pos} {Q:Yc} (I:Inv X zB Y H s) (hg:Gl X x) (hm:X.mg x=some u) (h:Q u s)
  (hd:(x==("__debug__" : Str))=false:=by decide):wpAny (model X.prog X.w) X.A (eval (.Name x pos) X.env) Q E s :=
 Calls.Name_function_global I.ok.kind hg (Calls.loadGlobal_global (by rw[I.ok.glob];calc I.mod.glob.keeps I.bk) hm h) hd
def Ce {E:Yc} {zB:Yd} {s:Yl} {Y:St} {H:Hp} {x:Str} {u:Yu} {pos:Pos} {Q:Yc} (I:Inv X zB Y H s) (hg:Gl X x) (hm:X.mg x=none) (hv:bootBuiltins x=some u) (h:Q u s)
  (hn:x ≠ "__name__" := by decide) (hd:(x==("__debug__" : Str))=false:=by decide):wpAny (model X.prog X.w) X.A (eval (.Name x pos) X.env) Q E s:=by
 let⟨mb,h1,h2⟩:=I.mod.blt;calc Calls.Name_function_global I.ok.kind hg (Calls.loadGlobal_builtin (by rw[I.ok.glob];calc I.mod.glob.keeps I.bk) hm (by rw[I.ok.blt];calc h1.keeps I.bk) ((h2 x hn).trans hv) h) hd
def Sy {x:Str} {v:V} {u:Value} {pos:Pos} (hg:Gl X x) (hm:X.mg x=none) (hv:bootBuiltins x=some u) (r:zf v u) (hn:x ≠ "__name__" := by decide) (hd:(x==("__debug__" : Str))=false:=by decide):PE X (.Name x pos) (tC v) :=
 λ_ _ _ H _ I h=>Ce I hg hm hv ⟨v,H,I,r,h⟩ hn hd
variable {a b:Expr} {ta tb:TE} {pos:Pos}
def PC (X:Cx) (op:CmpOp) (a b:Expr) (t:TE):Prop :=
 ∀ (zB:Yd) (s:Yl) (Y:St) (H:Hp) (Q:VK),Inv X zB Y H s->t Y H Q ->
  wpAny (model X.prog X.w) X.A (eval a X.env) (λv s₁=>wpAny (model X.prog X.w) X.A (eval b X.env) (λu s₂=>wpAny (model X.prog X.w) X.A (compareOp op v u) (EP X zB Y Q) X.xe s₂) X.xe s₁) X.xe s
def tB (t:TE):TT:=λY H Q=>t Y H λx H1=>∃ c,x=.bl c/\Q c H1
def dY {op:CmpOp} {t:TE} (h:PC X op a b t) (h1:behindInMarks op b=false:=by first|exact nobehind _ () ()|rfl):PE X (.Compare a [op] [b] pos) t:=λzB s Y H Q I hw=>wpAny_Compare1 (h zB s Y H Q I hw) h1
def VZ {op:CmpOp} {t:TE} (h:PC X op a b t) (h1:behindInMarks op b=false:=by first|exact nobehind _ () ()|rfl):PT X (.Compare a [op] [b] pos) (tB t):=by
 intro zB s Y H Q I hw;refine wpAny_isTrue_Compare1 (thn (h zB s Y H _ I hw) λv s1 h1=>thn h1 λu s2 h2=>thn h2 λc s3 ⟨x,H1,I1,r1,q1⟩=>?_) h1;let⟨d,rfl,q⟩:=q1;ext r1;calc E7 ⟨H1,I1,q⟩
def X3 {e:Expr} {t:TE} (h:PE X e t) (he:∀ whole,isTrue e X.env whole=(do let v <- whole;standAt e.pos;holding [v] (truthy v)):=by intro _;rfl):PT X e (tB t):=by
 intro zB s Y H Q I hw;refine isTrue_plain (thn (h zB s Y H _ I hw) λv s1 ⟨x,H1,I1,r1,q1⟩=>?_) (he _);let⟨d,rfl,q⟩:=q1;ext r1;calc E7 ⟨H1,I1,q⟩
variable {tA tB':TT} {rest:Yi}
def V0 (t u:TT):TT:=λY H Q=>t Y H λc H1=>if c=true then u Y H1 Q else Q false H1
def tOr (t u:TT):TT:=λY H Q=>t Y H λc H1=>if c=true then Q true H1 else u Y H1 Q
def VC (t:TT):TT:=λY H Q=>t Y H λc H1=>Q (!c) H1
def Wo (ha:PT X a tA):PW X (.BoolOp .And [a] pos) tA:=by
 intro wh zB s Y H Q I h;refine isTrue_and (thn (ha zB s Y H Q I h) λc s1 e=>?_);cases c with
 |true=>calc isTrue_and_nil e
 |false=>calc e
def VB (ha:PT X a tA):PW X (.BoolOp .Or [a] pos) tA:=by
 intro wh zB s Y H Q I h;refine isTrue_or (thn (ha zB s Y H Q I h) λc s1 e=>?_);cases c with
 |false=>calc isTrue_or_nil e
 |true=>calc e
def hZ (ha:PT X a tA) (hb:PW X (.BoolOp .And (b::rest) pos) tB'):PW X (.BoolOp .And (a::b::rest) pos) (V0 tA tB'):=by
 intro wh zB s Y H Q I h;refine isTrue_and (thn (ha zB s Y H _ I h) λc s1 ⟨H1,I1,q1⟩=>?_);cases c with
 |true=>calc hb wh zB s1 Y H1 Q I1 q1
 |false=>calc ⟨H1,I1,q1⟩
def UP (ha:PT X a tA) (hb:PW X (.BoolOp .Or (b::rest) pos) tB'):PW X (.BoolOp .Or (a::b::rest) pos) (tOr tA tB'):=by
 intro wh zB s Y H Q I h;refine isTrue_or (thn (ha zB s Y H _ I h) λc s1 ⟨H1,I1,q1⟩=>?_);cases c with
 |true=>calc ⟨H1,I1,q1⟩
 |false=>calc hb wh zB s1 Y H1 Q I1 q1
def iH (ha:PT X a tA):PT X (.UnaryOp .Not a pos) (VC tA):=by
 intro zB s Y H Q I h;calc isTrue_not (ha zB s Y H (λc H1=>Q (!c) H1) I h)
def WH (ta tb:TE):TE:=λY H Q=>ta Y H λx H1=>∃ c,x=.bl c/\if c=true then tb Y H1 Q else Q (.bl false) H1
def Ts (ta:TE):TE:=λY H Q=>ta Y H λx H1=>∃ c,x=.bl c/\Q (.bl (!c)) H1
def Sw {op} {t:TE} (h:PE X a t):PE X (.BoolOp op [a] pos) t:=λzB s Y H Q I hw=>BoolOp_one (h zB s Y H Q I hw)
def WK (ha:PE X a ta) (hb:PE X (.BoolOp .And (b::rest) pos) tb):PE X (.BoolOp .And (a::b::rest) pos) (WH ta tb):=by
 intro zB s Y H Q I h;refine BoolOp_and (thn (ha zB s Y H _ I h) λv s1 ⟨x,H1,I1,r1,q1⟩=>?_);let⟨c,rfl,q1⟩:=q1;ext r1;calc E7 ?_;cases c with
 |true=>calc hb zB s1 Y H1 Q I1 q1
 |false=>calc ⟨.bl false,H1,I1,rfl,q1⟩
def bX (ha:PE X a ta):PE X (.UnaryOp .Not a pos) (Ts ta):=by
 intro zB s Y H Q I h;refine UnaryOp_ (thn (ha zB s Y H _ I h) λv s1 ⟨x,H1,I1,r1,q1⟩=>?_);let⟨c,rfl,q1⟩:=q1;ext r1;calc not_of (E7 ⟨.bl (!c),H1,I1,rfl,q1⟩)
def tIf (t:TT) (ta tb:TE):TE:=λY H Q=>t Y H λc H1=>if c=true then ta Y H1 Q else tb Y H1 Q
def cC {c:Expr} (hc:PT X c tA) (ha:PE X a ta) (hb:PE X b tb):PE X (.IfExp c a b pos) (tIf tA ta tb):=by
 intro zB s Y H Q I h;refine wpAny_IfExp (thn (hc zB s Y H _ I h) λd s1 ⟨H1,I1,q1⟩=>?_);cases d with
 |true=>calc ha zB s1 Y H1 Q I1 q1
 |false=>calc hb zB s1 Y H1 Q I1 q1
end
def SqL (K:Yb) (H:Hp) (a:Yt) (xs:List V):Prop :=
 Rd H a (.lst xs) \/
  ∃ (o:Obj) (its:Array Value) (n:Nat),K.lookup a=some o/\o.cls=.type "list" /\ o.dict=none/\o.data=.seq its n/\its.size<=sizeLine/\zT xs its.toList
def SqT (K:Yb) (H:Hp) (a:Yt) (xs:List V):Prop :=
 Rd H a (.tup xs) \/
  ∃ (o:Obj) (its:Array Value) (n:Nat),K.lookup a=some o/\o.cls=.type "tuple" /\ o.data=.seq its n/\its.size<=sizeLine/\zT xs its.toList
def bO:Value->Option V
 |.none=>some .non
 |.bool b=>some (.bl b)
 |.int i _=>some (.int i)
 |.str x _=>some (.str x)
 |.bytes b _=>some (.byt b)
 |.float b _=>some (.flt b)
 |.ref a=>some (.ref a)
 |.type n=>some (.ty n)
 |_=>none
def zf.abs {x:V} {u:Yu} (r:zf x u):bO u=some x:=by
 cases x with
 |non=>ext r;rfl
 |bl _=>ext r;rfl
 |int _=>let⟨t,rfl⟩:=r;rfl
 |str _=>let⟨t,rfl⟩:=r;rfl
 |byt _=>let⟨t,rfl⟩:=r;rfl
 |flt _=>let⟨t,rfl⟩:=r;rfl
 |ref _=>ext r;rfl
 |ty _=>ext r;rfl
def zf.inj {x y:V} {u:Yu} (r:zf x u) (q:zf y u):x=y:=Bb (r.abs.symm.trans q.abs)
def zT.inj:∀ {xs ys:List V} {us:Yf},zT xs us->zT ys us->xs=ys
 |_,_,_,.nil,.nil=>rfl
 |_,_,_,.cons r t,.cons r' t'=>by rw[r.inj r',zT.inj t t']
section
variable {X:Cx} {zB:Yd} {Y:St} {H:Hp} {s:Yl} {a:Yt} {xs ys:List V}
def SqL.of {K:Yb} (h:H a=some (.lst xs)):SqL K H a xs:=.inl (.inl h)
def SqT.of {K:Yb} (h:H a=some (.tup xs)):SqT K H a xs:=.inl (.inl h)
def Inv.list (I:Inv X zB Y H s) (h:SqL X.K H a xs):∃ its:List Value,zT xs its/\PlainL s.heap a its.toArray/\xs.length<=sizeLine:=by
 rcases h with h|⟨o,its,n,hk,hc,hd,hs,hz,r⟩
 .obtain ⟨z,its,n,r,e⟩:=h.ok I.hok;exact ⟨its,r,⟨_,n,e,rfl,rfl,rfl⟩,z⟩
 .refine ⟨its.toList,r,⟨o,n,I.kIn a o hk,hc,hd,by simpa using hs⟩,?_⟩;let e:=r.length;simp only[BU]at e;omega
def Inv.tuple (I:Inv X zB Y H s) (h:SqT X.K H a xs):∃ its:List Value,zT xs its/\IsTup s.heap a its.toArray/\xs.length<=sizeLine:=by
 rcases h with h|⟨o,its,n,hk,hc,hs,hz,r⟩
 .obtain ⟨z,its,r,p⟩:=h.ok I.hok;exact ⟨its,r,p.tup,z⟩
 .refine ⟨its.toList,r,⟨o,I.kIn a o hk,hc,n,by simpa using hs⟩,?_⟩;let e:=r.length;simp only[BU]at e;omega
def Inv.list_inj (I:Inv X zB Y H s) (h:SqL X.K H a xs) (h':SqL X.K H a ys):xs=ys:=by
 let⟨its,r,⟨o,n,e,_,_,d⟩,_⟩:=I.list h;let⟨its',r',⟨o',n',e',_,_,d'⟩,_⟩:=I.list h';rw[e]at e';ext e';rw[d]at d';injection d' with d1 _
 have:its=its':=by simpa using BO Array.toList d1
 subst this;calc r.inj r'
def Inv.tuple_inj (I:Inv X zB Y H s) (h:SqT X.K H a xs) (h':SqT X.K H a ys):xs=ys:=by
 let⟨its,r,⟨o,e,_,n,d⟩,_⟩:=I.tuple h;let⟨its',r',⟨o',e',_,n',d'⟩,_⟩:=I.tuple h';rw[e]at e';ext e';rw[d]at d';injection d' with d1 _
 have:its=its':=by simpa using BO Array.toList d1
 subst this;calc r.inj r'
end
abbrev Cx.wish (X:Cx) (E:Yc):Cx:={ X with xe:=E }
abbrev Cx.nox (X:Cx):Cx:=X.wish λ_ _=>False
def Cx.Ok.wish {X:Cx} (ok:X.Ok) (E:Yc):(X.wish E).Ok :=
 ⟨ok.mod,ok.kind,ok.glob,ok.blt,ok.above,ok.inj,ok.has,ok.cab,ok.hd,ok.frames,ok.stk,ok.exf,ok.bs,ok.bsz,ok.noex,ok.exfs,ok.funs,ok.frf⟩
def Cx.Ok.unwish {X:Cx} {E:Yc} (ok:(X.wish E).Ok):X.Ok :=
 ⟨ok.mod,ok.kind,ok.glob,ok.blt,ok.above,ok.inj,ok.has,ok.cab,ok.hd,ok.frames,ok.stk,ok.exf,ok.bs,ok.bsz,ok.noex,ok.exfs,ok.funs,ok.frf⟩
section
variable {X:Cx} {zB:Yd} {Y:St} {H:Hp} {s:Yl} {E:Yc}
def Inv.wish (I:Inv X zB Y H s) (E:Yc):Inv (X.wish E) zB Y H s:=⟨I.ok.wish E,I.os,I.bare,I.base,I.loc,I.cell,I.free,I.freeC,I.pin,I.hok,I.len⟩
def Inv.unwish (I:Inv (X.wish E) zB Y H s):Inv X zB Y H s:=⟨I.ok.unwish,I.os,I.bare,I.base,I.loc,I.cell,I.free,I.freeC,I.pin,I.hok,I.len⟩
def SP.unwish {D:Ends} {f:Flow} {s':Yl} (h:SP (X.wish E) zB D f s'):SP X zB D f s':=by
 cases f with
 |next=>let⟨Y',H',I,q⟩:=h;calc ⟨Y',H',I.unwish,q⟩
 |brk=>let⟨Y',H',I,q⟩:=h;calc ⟨Y',H',I.unwish,q⟩
 |cont=>let⟨Y',H',I,q⟩:=h;calc ⟨Y',H',I.unwish,q⟩
 |ret u=>let⟨v,Y',H',I,r,q⟩:=h;calc ⟨v,Y',H',I.unwish,r,q⟩
def PSs.nox {st:Yy} {t:TS} (h:PSs X.nox st t):PSs X st t:=λzB s Y H D I hw=>
 An (h zB s Y H D (I.wish _) hw) (λ_ _ q=>q.unwish) λ_ _ z=>False.elim z
end
section
variable {X:Cx} {st:Stmt} {rest:Yy} {t u:TS} {e:Expr} {te:TE} {pos:Pos}
def aN:TS:=λD Y H=>D.nx Y H
def Vc (t u:TS):TS:=λD Y H=>t { D with nx:=u D } Y H
def Xd:PSs X [] aN:=λ_ _ Y H _ I h=>wpAny_execs_nil ⟨Y,H,I,h⟩
def SR (h1:PS X st t) (h2:PSs X rest u):PSs X (st::rest) (Vc t u):=by
 intro zB s Y H D I h;refine wpAny_execs_cons (thn (h1 zB s Y H { D with nx:=u D } I h) λf s1 q=>?_);cases f with
 |next=>
  let⟨Y',H',I',q⟩:=q;calc h2 zB s1 Y' H' D I' q
 |ret v=>calc q
 |brk=>calc q
 |cont=>calc q
def WO (h1:PS X st t):PSs X [st] t:=by
 intro zB s Y H D I h;refine wpAny_execs_cons (thn (h1 zB s Y H D I h) λf s1 q=>?_);cases f with
 |next=>calc wpAny_execs_nil q
 |ret v=>calc q
 |brk=>calc q
 |cont=>calc q
def Inv.quiet {zB:Yd} {Y:St} {H:Hp} {s:Yl} (I:Inv X zB Y H s):interactive X.env=false:=by simp[interactive,I.ok.kind]
def TQ (te:TE):TS:=λD Y H=>te Y H λ_ H1=>D.nx Y H1
def R7 (he:PE X e te) (hs:swapsWith e none pos.line X.env=pure false:=by rfl):PS X (.Expr e pos) (TQ te):=by
 intro zB s Y H D I h;calc wpAny_Expr_any (thn (he zB s Y H _ I h) λv s1 ⟨x,H1,I1,r1,q1⟩=>⟨Y,H1,I1,q1⟩) I.quiet hs
def YM (te:TE):TS:=λD Y H=>te Y H D.rt
def d5 (he:PE X e te):PS X (.Return (some e) pos) (YM te):=by
 intro zB s Y H D I h;calc wpAny_Return_some (thn (he zB s Y H _ I h) λv s1 ⟨x,H1,I1,r1,q1⟩=>⟨x,Y,H1,I1,r1,q1⟩)
def aC (c:TT) (t u:TS):TS:=λD Y H=>c Y H λb H1=>if b=true then t D Y H1 else u D Y H1
def ZW {c:Expr} {a b:Yy} {tc:TT} (hc:PT X c tc) (ha:PSs X a t) (hb:PSs X b u):PS X (.If c a b pos) (aC tc t u):=by
 intro zB s Y H D I h;refine wpAny_If (thn (hc zB s Y H _ I h) λd s1 ⟨H1,I1,q1⟩=>?_);cases d with
 |true=>calc ha zB s1 Y H1 D I1 q1
 |false=>calc hb zB s1 Y H1 D I1 q1
end
abbrev TG:=V->St->Hp->(St->Hp->Prop)->Prop
abbrev TGs:=List V->St->Hp->(St->Hp->Prop)->Prop
def PG (X:Cx) (target:Expr) (t:TG):Prop :=
 ∀ (zB:Yd) (s:Yl) (Y:St) (H:Hp) (v:V) (u:Yu) (Q:St->Hp->Prop),Inv X zB Y H s->zf v u->t v Y H Q ->
  wpAny (model X.prog X.w) X.A (assign target X.env u) (λ_ s'=>∃ Y' H',Inv X zB Y' H' s'/\Q Y' H') X.xe s
def PGs (X:Cx) (ts:Yi) (t:TGs):Prop :=
 ∀ (zB:Yd) (s:Yl) (Y:St) (H:Hp) (vs:List V) (us:Yf) (Q:St->Hp->Prop),Inv X zB Y H s->zT vs us->t vs Y H Q ->
  wpAny (model X.prog X.w) X.A (assignInOrder ((assignEach ts X.env).map (·.2)) us) (λ_ s'=>∃ Y' H',Inv X zB Y' H' s'/\Q Y' H') X.xe s
abbrev KN:=V->V->V->Hp->(Hp->Prop)->Prop
def NF (X:Cx) (t:KN):Prop :=
 ∀ (zB:Yd) (s:Yl) (Y:St) (H:Hp) (o i v:V) (ov iv u:Yu) (Q:Hp->Prop),Inv X zB Y H s->zf o ov->zf i iv->zf v u->t o i v H Q ->
  wpAny (model X.prog X.w) X.A (setItem ov iv u) (λ_ s'=>∃ H',Inv X zB Y H' s'/\Q H') X.xe s
abbrev TIp:=V->V->Hp->VK->Prop
def PIp (X:Cx) (op:Operator) (t:TIp):Prop :=
 ∀ (zB:Yd) (s:Yl) (Y:St) (H:Hp) (x y:V) (v u:Yu) (Q:VK),Inv X zB Y H s->zf x v->zf y u->t x y H Q ->
  wpAny (model X.prog X.w) X.A (inplaceOp op v u) (EP X zB Y Q) X.xe s
section
variable {X:Cx} {pos:Pos}
def Cq (i:Nat):TG:=λv Y H Q=>Q (Y.set i (some v)) H
def Ly {i:Nat} {x:Str} (hN:X.N.Nodup) (hi:X.N[i]?=some x) (hx:Loc X.env.scope x) (hf:X.fn x=true\/X.env.scope.names.lookup x=some .local:=by first|exact .inl rfl|exact .inr rfl|assumption):PG X (.Name x pos) (Cq i):=by
 intro zB s Y H v u Q I r h;calc wpAny_assign_Name (MZ I hN hi hx r (λs' I'=>⟨_,H,I',h⟩) hf)
def K9:TGs:=λvs Y H Q=>vs=[]/\Q Y H
def Gg (t:TG) (u:TGs):TGs:=λvs Y H Q=>∃ v r,vs=v::r/\t v Y H λY' H'=>u r Y' H' Q
def V7:PGs X [] K9:=by
 intro zB s Y H vs us Q I r h;let⟨e,h⟩:=h;subst e;ext r;calc assignInOrder_nil ⟨Y,H,I,h⟩
def Y9 {e:Expr} {es:Yi} {t:TG} {u:TGs} (h1:PG X e t) (h2:PGs X es u)
  (hs:(assignEach (e::es) X.env).map (·.2)=assign e X.env::(assignEach es X.env).map (·.2):=by rfl):PGs X (e::es) (Gg t u):=by
 intro zB s Y H vs us Q I r h;let⟨v,vr,e1,h⟩:=h;subst e1;cases r with
 |cons r rr=>
  rw[hs];refine assignInOrder_cons (thn (h1 zB s Y H _ _ _ I r h) λ_ s1 ⟨σ1,H1,I1,q1⟩=>?_);calc h2 zB s1 σ1 H1 _ _ Q I1 rr q1
def Kq (K:Yb) (n:Nat) (t:TGs):TG:=λv Y H Q=>∃ a xs,v=.ref a/\SqT K H a xs/\xs.length=n/\t xs Y H Q
def Ua {es:Yi} {k:Nat} {t:TGs} {n:Nat} (hc:X.calm=true) (h:PGs X es t)
  (hn:(assignEach es X.env).length=n:=by rfl) (hst:(assignEach es X.env).findIdx? (·.1)=none:=by rfl):PG X (.Tuple es k pos) (Kq X.K n t):=by
 intro zB s Y H v u Q I r hw;let⟨a,xs,e1,hq,hl,hw⟩:=hw;subst e1;ext r;let⟨its,rv,ht,hz⟩:=I.tuple hq;refine assign_Tuple_tuple (I.ok.hd hc) ht (by simp[hn,<-hl,rv.length]) hst λh' hx=>?_;let I1:Inv X zB Y H { s with heap:=h' }:=I.kept (t':=s.toks) λb o e=>hx b o (Ah (AI e)) e;calc h zB _ Y H xs _ Q I1 (~~~rv) hw
def YL (to ti:TE) (t:KN):TG:=λv Y H Q=>to Y H λo H1=>ti Y H1 λi H2=>t o i v H2 λH3=>Q Y H3
def bP {o i:Expr} {to ti:TE} {t:KN} (ho:PE X o to) (hi:PE X i ti) (hs:NF X t)
  (ha:∀ v,assign (.Subscript o i pos) X.env v=(do
   let ov <- holding [v] (eval o X.env);let iv <- holding [v,ov] (eval i X.env);standAt pos;holding [v,ov,iv] (setItem ov iv v);release [v,ov,iv] []):=by intro _;rfl):PG X (.Subscript o i pos) (YL to ti t):=by
 intro zB s Y H v u Q I r h;rw[ha];refine AA (BQ (thn (ho zB s Y H _ I h) λov s1 ⟨x,H1,I1,r1,q1⟩=>?_));refine AA (BQ (thn (hi zB s1 Y H1 _ I1 q1) λiv s2 ⟨y,H2,I2,r2,q2⟩=>?_));refine AA (wpAny_standAt (AA (BQ (thn (hs zB s2 Y H2 x y v ov iv u _ I2 r1 r2 r q2) λ_ s3 ⟨H3,I3,q3⟩=>?_))));calc wpAny_release ⟨Y,H3,I3,q3⟩
def Hf (te:TE) (g:TG):TS:=λD Y H=>te Y H λx H1=>g x Y H1 D.nx
def OC {tg e:Expr} {te:TE} {g:TG} (he:PE X e te) (hg:PG X tg g) (hs:swapsWithSole [tg] e pos.line X.env=pure false:=by rfl) (hw:swappedStores [tg] e X.env=pure none:=by rfl)
  (h1:(assignEach [tg] X.env).map (·.2)=[assign tg X.env]:=by rfl):PS X (.Assign [tg] e pos) (Hf te g):=by
 intro zB s Y H D I h;refine wpAny_Assign_stores (thn (he zB s Y H _ I h) λv s1 ⟨x,H1,I1,r1,q1⟩=>?_) hs hw;rw[h1];calc thn (hg zB s1 Y H1 x v _ I1 r1 q1) λ_ s2 q=>q
def Tt {i:Nat} {x:Str} {e:Expr} {te:TE} {pos':Pos} (hN:X.N.Nodup) (hi:X.N[i]?=some x) (hx:Loc X.env.scope x) (he:PE X e te) (hs:swapsWith e (some (.Name x pos')) pos.line X.env=pure false:=by rfl) (hf:X.fn x=true\/X.env.scope.names.lookup x=some .local:=by first|exact .inl rfl|exact .inr rfl|assumption) :
  PS X (.Assign [.Name x pos'] e pos) (Hf te (Cq i)):=by
 intro zB s Y H D I h;refine wpAny_Assign_Name (thn (he zB s Y H _ I h) λv s1 ⟨y,H1,I1,r1,q1⟩=>?_) hs;calc MZ I1 hN hi hx r1 (λs2 I2=>⟨_,H1,I2,q1⟩) hf
def Q9 (i:Nat) (te:TE) (ti:TIp):TS:=λD Y H=>∃ x,Y[i]?=some (some x)/\te Y H λy H1=>ti x y H1 λz H2=>D.nx (Y.set i (some z)) H2
def P9 {i:Nat} {x:Str} {e:Expr} {te:TE} {op:Operator} {ti:TIp} {pos':Pos} (hN:X.N.Nodup) (hi:X.N[i]?=some x) (hx:Loc X.env.scope x) (he:PE X e te) (ho:PIp X op ti) (hf:X.fn x=true\/X.env.scope.names.lookup x=some .local:=by first|exact .inl rfl|exact .inr rfl|assumption) :
  PS X (.AugAssign (.Name x pos') op e pos) (Q9 i te ti):=by
 intro zB s Y H D I h;let⟨v,e1,h⟩:=h;let⟨m,hn,hl⟩:=I.loc;let vis:Vis X.env.scope x:=by rcases hx with k|k;calc .inl k;exact .inr (.inl k)
 let⟨u,r,l⟩:=hl i x v hi e1 vis;refine wpAny_AugAssign_Name ?_;let go:wpAny (model X.prog X.w) X.A (eval e X.env) (λw s₂=>wpAny (model X.prog X.w) X.A (inplaceOp op u w) (λr s₃=>wpAny (model X.prog X.w) X.A (storeName X.env x r) (λ_=>SP X zB D .next) X.xe s₃) X.xe s₂) X.xe s:=by
  refine thn (he zB s Y H _ I h) λw s1 ⟨y,H1,I1,r1,q1⟩=>?_;refine thn (ho zB s1 Y H1 v y u w _ I1 r r1 q1) λz s2 ⟨zv,H2,I2,r2,q2⟩=>?_;exact MZ I2 hN hi hx r2 (λs3 I3=>⟨_,H2,I3,q2⟩) hf
 rcases l with ⟨hk,hm⟩|⟨hk,c,hc,hcell⟩
 .exact wpAny_loadName_local I.ok.kind hk hn hm go
 .rcases hk with hk|hk
  .exact wpAny_loadName_cell I.ok.kind hk hc hcell go
  .rcases hx with k|k
   .have:X.env.scope.names.lookup x=some .free:=hk;rw[k]at this;ext this
   .have:X.env.scope.names.lookup x=some .free:=hk;rw[k]at this;ext this
def ipI (f:Int->Int->Int):TIp:=λx y H Q=>∃ i j,x=.int i/\y=.int j/\Q (.int (f i j)) H
def Ze:PIp X .Add (ipI λi j=>i+j):=by
 intro zB s Y H x y v u Q I r1 r2 h;let⟨i,j,e1,e2,q⟩:=h;subst e1;subst e2;let⟨t,rfl⟩:=r1;let⟨t',rfl⟩:=r2;calc iadd_int ⟨.int _,H,I.tok _,⟨_,rfl⟩,q⟩
def jH:PIp X .Sub (ipI λi j=>i-j):=by
 intro zB s Y H x y v u Q I r1 r2 h;let⟨i,j,e1,e2,q⟩:=h;subst e1;subst e2;let⟨t,rfl⟩:=r1;let⟨t',rfl⟩:=r2;calc isub_int ⟨.int _,H,I.tok _,⟨_,rfl⟩,q⟩
def Np (c:TT) (tb:TS):TS:=λD Y H=>∃ W:Nat->St->Hp->Prop,(∃ m,W m Y H) /\ ∀ m Y H,W m Y H ->
 c Y H λb H1=>if b=true then ∃ N:St->Hp->Prop,(∀ Y' H',N Y' H' -> ∃ m',m'<m/\W m' Y' H')/\tb { D with nx:=N,ct:=N,bk:=D.nx } Y H1 else D.nx Y H1
def UJ {c:Expr} {body:Yy} {tc:TT} {tb:TS} (hp:PassesOwn (model X.prog X.w) X.A X.env X.xe) (hc:PT X c tc) (hb:PSs X body tb):PS X (.While c body [] pos) (Np tc tb):=by
 intro zB s Y H D I h;let⟨W,⟨m0,w0⟩,turn⟩:=h;refine wpAny_While (codeAny_whileLoop (λn s'=>∃ Y' H',Inv X zB Y' H' s'/\W n Y' H') ?_ m0 ⟨Y,H,I,w0⟩);rintro n s1 ⟨σ1,H1,I1,w1⟩;refine wpAny_passesOwn hp (thn (hc zB s1 σ1 H1 _ I1 (turn n σ1 H1 w1)) λb s2 ⟨H2,I2,q2⟩=>?_);cases b with
 |true=>
  let⟨N,hN,q2⟩:=q2;rw[AD rfl];refine wpAny_passesOwn hp (thn (hb zB s2 σ1 H2 _ I2 q2) λf s3 q3=>?_);cases f with
  |next=>
   let⟨σ3,H3,I3,n3⟩:=q3;let⟨m',hm,w3⟩:=hN σ3 H3 n3;calc ⟨m',hm,σ3,H3,I3,w3⟩
  |cont=>
   let⟨σ3,H3,I3,n3⟩:=q3;let⟨m',hm,w3⟩:=hN σ3 H3 n3;calc ⟨m',hm,σ3,H3,I3,w3⟩
  |brk=>calc q3
  |ret v=>calc q3
 |false=>
  rw[AE Au];calc wpAny_execs_nil ⟨σ1,H2,I2,q2⟩
end
structure It where
 go:Nat->Hp->Prop
 yld:Nat->Hp->V->Hp->Prop
 stop:Nat->Hp->Prop
def Bq (X:Cx) (zB:Yd) (H:Hp) (b:Yt):Prop :=
 H b=none/\b≠X.env.locals/\b∉X.fs/\(b∈X.ex\/⇑X.s₀<=b)/\(∀ x c,X.env.cells.lookup x=some c->c≠b) /\ ∀ p∈X.pn++zB,p.1≠b
def Inv.fpOk {X:Cx} {zB:Yd} {Y:St} {H H':Hp} {s:Yl} {b:Yt} (I:Inv X zB Y H s) (hb:⇑s<=b) (hn:H' b=none):Bq X zB H' b:=by
 refine ⟨hn,Ca (BC I.lt hb),I.nofs hb,.inr (Ao I.sz hb),λx c e z=>?_,λp hp z=>?_⟩
 .obtain ⟨v,q⟩:=I.cell x c e;exact absurd (BC q.lt (by rw[z];calc hb)) (BN _)
 .exact absurd (BC (AI (I.pin p hp).1) (by rw[z];calc hb)) (BN _)
structure Turn (P:Ym) (w:Yo) (K:Yb) (tg:Expr) (J:It) (fp:Yg) (it:Yt) (tn:Nat->Heap->Prop):Prop where
 mem:it∈fp
 obj:∀ i h,tn i h -> ∀ b∈fp,∃ o,h.get? b=some o /\ ∀ v,o.data≠.cell v
 keep:∀ i h h',tn i h->(∀ b∈fp,∀ o,h.get? b=some o->h'.get? b=some o)->tn i h'
 item:∀ (X:Cx),X.prog=P->X.w=w->X.K=K->X.calm=true -> ∀ (i:Nat) (zB:Yd) (s:Yl) (Y:St) (H:Hp) (E:Yc),Inv X zB Y H s->(∀ b∈fp,Bq X zB H b)->tn i s.heap->J.go i H ->
  wpAny (model P w) X.A (pyNext (.ref it)) (λr s1=>∃ u,r=some u /\
   wpAny (model P w) X.A (letOwnedTupleGo tg (.ref it) u) (λ_ s2=>∃ x H',Inv X zB Y H' s2/\zf x u/\J.yld i H x H'/\tn (i+1) s2.heap /\ ∀ b∈fp,H' b=none) E s1) E s
 done:∀ (X:Cx),X.prog=P->X.w=w->X.K=K->X.calm=true -> ∀ (i:Nat) (zB:Yd) (s:Yl) (Y:St) (H:Hp) (E:Yc),Inv X zB Y H s->(∀ b∈fp,Bq X zB H b)->tn i s.heap->J.stop i H ->
  wpAny (model P w) X.A (pyNext (.ref it)) (λr s1=>r=none/\Inv X zB Y H s1) E s
 self:∀ (A:Yn) (i:Nat) (s:Yl) (Q:Yc) (E:Yc),tn i s.heap->Q (.ref it) s->wpAny (model P w) A (pyIter (.ref it)) Q E s
abbrev TI:=St->Hp->(It->Hp->Prop)->Prop
def PIE (X:Cx) (zB:Yd) (Y:St) (tg:Expr) (R:It->Hp->Prop) (itv:Yu) (s2:Yl):Prop :=
 ∃ (it:Yt) (fp:Yg) (tn:Nat->Heap->Prop) (J:It) (H':Hp),itv=.ref it/\Inv X zB Y H' s2/\Turn X.prog X.w X.K tg J fp it tn/\tn 0 s2.heap/\(∀ b∈fp,Bq X zB H' b)/\R J H'
def PI (X:Cx) (tg iter:Expr) (wi:TI):Prop :=
  ∀ (zB:Yd) (s:Yl) (Y:St) (H:Hp) (R:It->Hp->Prop),Inv X zB Y H s->wi Y H R ->
    wpAny (model X.prog X.w) X.A (eval iter X.env) (λv s1=>wpAny (model X.prog X.w) X.A (pyIter v) (PIE X zB Y tg R) X.xe s1) X.xe s
def Iy {M:Model} {A:Yn} {E:Yc} {s:Yl} {tg:Expr} {it:Yt} {u:Yu} {o:Obj} {n:String} {vs:Yp} {Q:Unit->Shared->Prop} (ho:s.heap.get? it=some o) (hc:o.cls=.type n) (hd:o.data=.fields vs)
    (hn:["enumerate", "zip", "dict_itemiterator", "dict_reverseitemiterator", "odict_iterator", "itertools.zip_longest", "itertools.pairwise"].contains n=false) (hQ:Q Unit.unit s):wpAny M A (letOwnedTupleGo tg (.ref it) u) Q E s:=by
  erw[letOwnedTupleGo]
  cases tg <;> first
    |calc AB hQ
    | (cases u <;> first
        |calc AB hQ
        | (refine AA (wpAny_load ho ?_)
           rw[hc,hd];show wpAny M A (if (["enumerate", "zip", "dict_itemiterator", "dict_reverseitemiterator", "odict_iterator", "itertools.zip_longest", "itertools.pairwise"].contains n&&vs[0]?==some (rawInt _))=true then _ else _) Q E s;rw[AE (by intro h;rw[hn,Bool.false_and]at h;ext h)];calc AB hQ))
def Itl (K:Yb) (a:Yt):It :=
 ⟨λi H=>∃ xs x,SqL K H a xs/\xs[i]?=some x,λi H x H'=>H'=H /\ ∀ xs,SqL K H a xs->xs[i]?=some x,λi H=>∃ xs,SqL K H a xs/\xs.length<=i⟩
def Itt (K:Yb) (a:Yt):It :=
 ⟨λi H=>∃ xs x,SqT K H a xs/\xs[i]?=some x,λi H x H'=>H'=H /\ ∀ xs,SqT K H a xs->xs[i]?=some x,λi H=>∃ xs,SqT K H a xs/\xs.length<=i⟩
def Itr (lo:Int) (n:Nat):It:=⟨λi _=>i<n,λi H x H'=>H'=H/\x=.int (lo+i),λi _=>n<=i⟩
def SF {P:Ym} {w:Yo} {K:Yb} {tg:Expr} (a it:Yt):Turn P w K tg (Itl K a) [it] it (λi h=>h.IsListIter it a i) where
 mem:=by simp
 obj:=λi h st b hb=>by
  let e:b=it:=by simpa using hb
  subst e;let⟨o,e,c,d⟩:=st;exact ⟨o,e,λv z=>by rw[d]at z;ext z⟩
 keep:=λi h h' st k=>st.at λo e=>k it (by simp) o e;item:=by
  intro X hP hw hK hc i zB s Y H E I hf st hg;subst hP hw hK;let⟨xs,x,hq,hx⟩:=hg;let⟨its,rv,p,hz⟩:=I.list hq;let⟨u,hu,ru⟩:=rv.get hx;let⟨f0,f1,f2,f3,f4,f5⟩:=hf it (by simp);refine wpAny_pyNext_list_item st p.isList (x:=u) (~~~hu) λh' st' sb=>?_;let I1:Inv X zB Y H { s with heap:=h' }:=I.turned (t':=s.toks) (λb o hb e=>(sb.2 b hb).trans e) f0 f1 f3 f4 f5;let⟨o,e,c,d⟩:=id st';exact ⟨u,rfl,Iy (s:={ s with heap:=h' }) e c d () ⟨x,H,I1,ru,⟨rfl,λys hy=>by rw[I.list_inj hy hq];calc hx⟩,st',λb hb=>(hf b hb).1⟩⟩
 done:=by
  intro X hP hw hK hc i zB s Y H E I hf st hg;subst hP hw hK;let⟨xs,hq,hx⟩:=hg;let⟨its,rv,p,hz⟩:=I.list hq;let⟨f0,f1,f2,f3,f4,f5⟩:=hf it (by simp);let hl:=rv.length;exact wpAny_pyNext_list_end (I.ok.hd hc) st p.isList (by simp;omega) λh' eb=>⟨rfl,I.turned (t':=s.toks) (λb o hb e=>eb b o hb e) f0 f1 f3 f4 f5⟩
 self:=λ_ _ _ _ _ st h=>wpAny_pyIter_listiter st h
def Rw {P:Ym} {w:Yo} {K:Yb} {tg:Expr} (a it:Yt):Turn P w K tg (Itt K a) [it] it (λi h=>h.IsTupleIter it a i) where
 mem:=by simp
 obj:=λi h st b hb=>by
  let e:b=it:=by simpa using hb
  subst e;let⟨o,e,c,d⟩:=st;exact ⟨o,e,λv z=>by rw[d]at z;ext z⟩
 keep:=λi h h' st k=>st.at λo e=>k it (by simp) o e;item:=by
  intro X hP hw hK hc i zB s Y H E I hf st hg;subst hP hw hK;let⟨xs,x,hq,hx⟩:=hg;let⟨its,rv,p,hz⟩:=I.tuple hq;let⟨u,hu,ru⟩:=rv.get hx;let⟨f0,f1,f2,f3,f4,f5⟩:=hf it (by simp);refine wpAny_pyNext_tuple_item st (show s.heap.IsTuple a its.toArray from p) (x:=u) (~~~hu) λh' st' sb=>?_;let I1:Inv X zB Y H { s with heap:=h' }:=I.turned (t':=s.toks) (λb o hb e=>(sb.2 b hb).trans e) f0 f1 f3 f4 f5;let⟨o,e,c,d⟩:=id st';exact ⟨u,rfl,Iy (s:={ s with heap:=h' }) e c d () ⟨x,H,I1,ru,⟨rfl,λys hy=>by rw[I.tuple_inj hy hq];calc hx⟩,st',λb hb=>(hf b hb).1⟩⟩
 done:=by
  intro X hP hw hK hc i zB s Y H E I hf st hg;subst hP hw hK;let⟨xs,hq,hx⟩:=hg;let⟨its,rv,p,hz⟩:=I.tuple hq;let⟨f0,f1,f2,f3,f4,f5⟩:=hf it (by simp);let hl:=rv.length;exact wpAny_pyNext_tuple_end (I.ok.hd hc) st (show s.heap.IsTuple a its.toArray from p) (by simp;omega) λh' eb=>⟨rfl,I.turned (t':=s.toks) (λb o hb e=>eb b o hb e) f0 f1 f3 f4 f5⟩
 self:=λ_ _ _ _ _ st h=>wpAny_pyIter_tupleiter st h
def aP {P:Ym} {w:Yo} {K:Yb} {tg:Expr} (it:Yt) (lo:Int) (n:Nat):Turn P w K tg (Itr lo n) [it] it (λi h=>IsRangeIter h it (lo+(i:Nat)*1) ((n:Int)-(i:Nat)) 1) where
 mem:=by simp
 obj:=λi h st b hb=>by
  let e:b=it:=by simpa using hb
  subst e;exact ⟨_,st,λv z=>by
   let z':Data.fields _=Data.cell v:=z;ext z'⟩
 keep:=λi h h' st k=>k it (by simp) _ st;item:=by
  intro X hP hw hK hc i zB s Y H E I hf st hg;subst hP hw hK;let⟨f0,f1,f2,f3,f4,f5⟩:=hf it (by simp);let W:=Walks.range (prog:=X.prog) (w:=X.w) (I.ok.hd hc) it lo 1 n;refine W.item i s _ _ hg st λv h' tk hv st' kk=>?_;let⟨t,rfl⟩:=hv;let I1:Inv X zB Y H { s with heap:=h',toks:=tk }:=I.turned (λb o hb e=>kk b o (~~~hb) e) f0 f1 f3 f4 f5;refine ⟨_,rfl,Iy (s:={ s with heap:=h',toks:=tk }) (n := "range_iterator") st' rfl rfl () ⟨.int (lo+i),H,I1,⟨t,?_⟩,⟨rfl,rfl⟩,st',λb hb=>(hf b hb).1⟩⟩;rw[Int.mul_one]
 done:=by
  intro X hP hw hK hc i zB s Y H E I hf st hg;subst hP hw hK;let⟨f0,f1,f2,f3,f4,f5⟩:=hf it (by simp);exact wpAny_pyNext_range_end (I.ok.hd hc) st (by have:n<=i:=hg;omega) λh' eb=>⟨rfl,I.turned (t':=s.toks) (λb o hb e=>eb b o hb e) f0 f1 f3 f4 f5⟩
 self:=λ_ _ _ _ _ st h=>wpAny_pyIter_rangeiter st h
section
variable {X:Cx} {tg:Expr}
def Na {zB:Yd} {Y:St} {H:Hp} {s:Yl} {R:It->Hp->Prop} {E:Yc} {lo hi:Int} {t u v:Tok} {tk:Nat} (I:Inv X zB Y H s) (h1 : -(2 ^ 62)<=lo) (h2:lo<2 ^ 62) (h3 : -(2 ^ 62)<=hi) (h4:hi<2 ^ 62)
  (q:R (Itr lo (hi-lo).toNat) H):wpAny (model X.prog X.w) X.A (pyIter (.ref ⇑s)) (PIE X zB Y tg R) E { s with heap:=s.heap.push { cls:=.type "range", data:=.fields #[.int lo t,.int hi u,.int 1 v] },toks:=tk }:=by
 calc wpAny_pyIter_range (IsRange.new ..) (small_one h1 h2 h3 h4) ?_;let I1:Inv X zB Y H { s with heap:=s.heap.push { cls:=.type "range", data:=.fields #[.int lo t,.int hi u,.int 1 v] },toks:=tk }:=I.kept λb o e=>AH _ e
 refine ⟨(s.heap.push { cls:=.type "range", data:=.fields #[.int lo t,.int hi u,.int 1 v] }).objs.size,[(s.heap.push { cls:=.type "range", data:=.fields #[.int lo t,.int hi u,.int 1 v] }).objs.size],_,_,H,rfl,
  I1.kept (t':=tk) λb o e=>AH _ e,aP _ lo (hi-lo).toNat,?_,λb hb=>?_,q⟩
 .have e1:lo+((0:Nat):Int)*1=lo:=by simp
  let e2:(((hi-lo).toNat:Nat):Int)-((0:Nat):Int)=Builtin.Range.rangeSize lo hi 1:=by rw[rangeSize_one];split <;> omega
  show IsRangeIter _ _ (lo+((0:Nat):Int)*1) ((((hi-lo).toNat:Nat):Int)-((0:Nat):Int)) 1;rw[e1,e2];exact AL _ rfl
 .have e:b=(s.heap.push { cls:=.type "range", data:=.fields #[.int lo t,.int hi u,.int 1 v] }).objs.size:=by simpa using hb
  subst e;calc I1.fpOk (AF _) (I1.hok.fresh (AF _))
def Vw (ta:TA):TI:=λY H R=>ta Y H λvs H1=>∃ j:Int,vs=[.int j] /\ -(2 ^ 62)<=j/\j<2 ^ 62/\R (Itr 0 j.toNat) H1
def eQ (ta:TA):TI:=λY H R=>ta Y H λvs H1=>∃ i j:Int,vs=[.int i,.int j]/\(-(2 ^ 62)<=i/\i<2 ^ 62 /\ -(2 ^ 62)<=j/\j<2 ^ 62)/\R (Itr i (j-i).toNat) H1
def aV {a:Expr} {ta:TA} {p pos:Pos} (hg:Gl X "range") (hm:X.mg "range" = none) (ha:PA X [a] ta) (hs:starEach [a] X.env=[(false,eval a X.env)]:=by rfl):PI X tg (.Call (.Name "range" p) [a] [] pos) (Vw ta):=by
 intro zB s Y H R I h;refine Call_ (Ce I hg hm boot_range (PyProof.Rows.callWith_type1 (thn (ha pos zB s Y H _ I h) λus s1 ⟨vs,H1,I1,r1,q1⟩=>?_) hs rfl));let⟨j,e,q1,q2,q⟩:=q1;subst e;cases r1 with
 |cons r rr=>
  ext rr;let⟨t,rfl⟩:=r;calc call_range_1 (Na I1 () () q1 q2 (~~~q))
def iW {a b:Expr} {ta:TA} {p pos:Pos} (hg:Gl X "range") (hm:X.mg "range" = none) (ha:PA X [a,b] ta) (hs:starEach [a,b] X.env=[(false,eval a X.env),(false,eval b X.env)]:=by rfl) (hs2:starEach [b] X.env=[(false,eval b X.env)]:=by rfl) :
  PI X tg (.Call (.Name "range" p) [a,b] [] pos) (eQ ta):=by
 intro zB s Y H R I h;refine Call_ (Ce I hg hm boot_range (PyProof.Rows.callWith_type1 (thn (ha pos zB s Y H _ I h) λus s1 ⟨vs,H1,I1,r1,q1⟩=>?_) (by rw[hs,hs2]) (by rw[hs2];rfl)));let⟨i,j,e,⟨q1,q2,q3,q4⟩,q⟩:=q1;subst e;cases r1 with
 |cons r rr=>
  cases rr with
  |cons r' rr=>
   ext rr;let⟨t,rfl⟩:=r;let⟨t',rfl⟩:=r';calc call_range_2 (Na I1 q1 q2 q3 q4 q)
def PH (wi:TI) (g:TG) (tb:TS):TS:=λD Y H=>wi Y H λJ H1=>∃ W:Nat->Nat->St->Hp->Prop,(∃ m,W 0 m Y H1) /\ ∀ i m Y H,W i m Y H ->
 (J.stop i H/\D.nx Y H)\/(J.go i H /\ ∃ N:St->Hp->Prop,(∀ Y' H',N Y' H' -> ∃ m',m'<m/\W (i+1) m' Y' H') /\ ∀ x H',J.yld i H x H'->g x Y H' λσ2 H2=>tb { D with nx:=N,ct:=N,bk:=D.nx } σ2 H2)
def Fp (fp:Yg) (h:Heap):List (Addr × Obj):=fp.filterMap λb=>(h.get? b).map λo=>(b,o)
def FP {fp:Yg} {h:Heap} {b:Yt} {o:Obj} (hb:b∈fp) (e:h.get? b=some o):(b,o)∈Fp fp h:=List.mem_filterMap.mpr ⟨b,hb,by rw[e];rfl⟩
def Qa {fp:Yg} {h:Heap} {p:Addr × Obj} (hp:p∈Fp fp h):p.1∈fp/\h.get? p.1=some p.2:=by
 let⟨b,hb,e⟩:=List.mem_filterMap.mp hp;cases q:h.get? b with
 |none=>rw[q]at e;ext e
 |some o=>
  rw[q]at e;let e':(b,o)=p:=Bb e;subst e';calc ⟨hb,q⟩
def Inv.pinned {zB:Yd} {Y:St} {H:Hp} {s:Yl} {fp:Yg} (I:Inv X zB Y H s) (hf:∀ b∈fp,Bq X zB H b) (ho:∀ b∈fp,∃ o,s.heap.get? b=some o /\ ∀ v,o.data≠.cell v):Inv X (zB++Fp fp s.heap) Y H s :=
 I.pins_of λp hp=>(AR.mp hp).elim (λz=>I.pin p (BD _ z)) λz=>by
  let⟨hb,e⟩:=Qa z;let⟨f0,f1,f2,_⟩:=hf p.1 hb;let⟨o,e',d⟩:=ho p.1 hb;rw[e]at e';ext e';calc ⟨e,f0,f1,f2,d⟩
def Inv.unpinned {zB pl:Yd} {Y:St} {H:Hp} {s:Yl} (I:Inv X (zB++pl) Y H s):Inv X zB Y H s:=I.pins_of λp hp=>I.pin p (BD _ (CJ _ hp))
def aD {iter:Expr} {body:Yy} {wi:TI} {g:TG} {tb:TS} {pos:Pos} (hp:PassesOwn (model X.prog X.w) X.A X.env X.xe) (hc:X.calm=true) (hi:PI X tg iter wi) (hg:PG X tg g) (hb:PSs X body tb)
  (hs:∀ x,foldedSetIterable iter X.env x=pure x:=by intro _;rfl):PS X (.For tg iter body [] pos) (PH wi g tb):=by
 intro zB s Y H D I h;refine wpAny_For (thn (hi zB s Y H _ I h) λv s1 h1=>thn h1 λitv s2 h2=>?_) hs;let⟨it,fp,tn,J,H2,e,I2,T,st2,f2,W,⟨m0,w0⟩,turn⟩:=h2;subst e;let stat:∀ {H':Hp},(∀ b∈fp,H' b=none) -> ∀ b∈fp,Bq X zB H' b:=λhn b hb=>⟨hn b hb,(f2 b hb).2⟩;refine codeAny_forLoop_any (λn s'=>∃ i Y' H',Inv X zB Y' H' s'/\tn i s'.heap/\(∀ b∈fp,H' b=none)/\W i n Y' H') ?_ m0 ⟨0,Y,H2,I2,st2,λb hb=>(f2 b hb).1,w0⟩;rintro n s3 ⟨i,σ3,H3,I3,st3,fr3,w3⟩;rcases turn i n σ3 H3 w3 with ⟨stop,qn⟩|⟨go,N,hN,step⟩
 .refine wpAny_passesOwn hp (thn (T.done X rfl rfl rfl hc i zB s3 σ3 H3 X.xe I3 (stat fr3) st3 stop) λr s4 ⟨hr,I4⟩=>?_);subst hr;exact wpAny_execs_nil ⟨σ3,H3,I4,qn⟩
 .refine wpAny_passesOwn hp (thn (T.item X rfl rfl rfl hc i zB s3 σ3 H3 X.xe I3 (stat fr3) st3 go) λr s4 ⟨u,hr,h4⟩=>?_);subst hr;refine wpAny_passesOwn hp (thn h4 λ_ s5 ⟨x,H5,I5,r5,y5,st5,fr5⟩=>?_);let I5':=I5.pinned (stat fr5) (T.obj _ _ st5);refine wpAny_passesOwn hp (thn (hg _ s5 σ3 H5 x u _ I5' r5 (step x H5 y5)) λ_ s6 ⟨σ6,H6,I6,q6⟩=>?_);refine wpAny_passesOwn hp (thn (hb _ s6 σ6 H6 _ I6 q6) λf s7 q7=>?_);let again:∀ {σ7:St} {H7:Hp},Inv X (zB++Fp fp s5.heap) σ7 H7 s7->N σ7 H7 -> ∃ m,m<n /\ ∃ i Y' H',Inv X zB Y' H' s7/\tn i s7.heap/\(∀ b∈fp,H' b=none)/\W i m Y' H':=λ{σ7 H7} I7 n7=>by
   let⟨m',hm,w7⟩:=hN σ7 H7 n7;refine ⟨m',hm,i+1,σ7,H7,I7.unpinned,T.keep _ _ _ st5 λb hb o e=>(I7.pin (b,o) (BD _ (BD _ (FP hb e)))).1,λb hb=>?_,w7⟩;let⟨o,e,d⟩:=T.obj _ _ st5 b hb;exact (I7.pin (b,o) (BD _ (BD _ (FP hb e)))).2.1
  cases f with
  |next=>let⟨σ7,H7,I7,n7⟩:=q7;calc again I7 n7
  |cont=>let⟨σ7,H7,I7,n7⟩:=q7;calc again I7 n7
  |brk=>let⟨σ7,H7,I7,q7⟩:=q7;calc ⟨σ7,H7,I7.unpinned,q7⟩
  |ret v=>let⟨x7,σ7,H7,I7,r7,q7⟩:=q7;calc ⟨x7,σ7,H7,I7.unpinned,r7,q7⟩
end
abbrev R2:=V->V->Hp->VK->Prop
def OpR (X:Cx) (f:Y2) (r:R2):Prop :=
 ∀ (zB:Yd) (s:Yl) (Y:St) (H:Hp) (x y:V) (v u:Yu) (Q:VK),Inv X zB Y H s->zf x v->zf y u->r x y H Q ->
  wpAny (model X.prog X.w) X.A (f v u) (EP X zB Y Q) X.xe s
def UnR (X:Cx) (f:Value->Sem Value) (r:V->Hp->VK->Prop):Prop :=
 ∀ (zB:Yd) (s:Yl) (Y:St) (H:Hp) (x:V) (v:Yu) (Q:VK),Inv X zB Y H s->zf x v->r x H Q ->
  wpAny (model X.prog X.w) X.A (f v) (EP X zB Y Q) X.xe s
def CV (X:Cx) (f:Yu) (r:List V->Hp->VK->Prop):Prop :=
 ∀ (zB:Yd) (s:Yl) (Y:St) (H:Hp) (xs:List V) (us:Yf) (Q:VK),Inv X zB Y H s->zT xs us->r xs H Q ->
  wpAny (model X.prog X.w) X.A (call f us) (EP X zB Y Q) X.xe s
def tOp (r:R2) (ta tb:TE):TE:=λY H Q=>ta Y H λx H1=>tb Y H1 λy H2=>r x y H2 Q
def tUn (r:V->Hp->VK->Prop) (ta:TE):TE:=λY H Q=>ta Y H λx H1=>r x H1 Q
def rI (C:Int->Int->Prop) (g:Int->Int->V):R2:=λx y H Q=>∃ i j,x=.int i/\y=.int j/\C i j/\Q (g i j) H
def rI0 (g:Int->Int->V):R2:=λx y H Q=>∃ i j,x=.int i/\y=.int j/\Q (g i j) H
def rU (g:Int->V):V->Hp->VK->Prop:=λx H Q=>∃ i,x=.int i/\Q (g i) H
section
variable {X:Cx} {a b c:Expr} {ta tb tc:TE} {pos:Pos}
def Lj (ha:PE X a ta) (hb:PE X b tb) {zB:Yd} {s:Yl} {Y:St} {H:Hp} {R:V->V->Hp->Prop} (I:Inv X zB Y H s)
  (h:ta Y H λx H1=>tb Y H1 λy H2=>R x y H2) {Q:Yc} {f:Y2}
  (hf:∀ v u s2 x y H2,Inv X zB Y H2 s2->zf x v->zf y u->R x y H2->wpAny (model X.prog X.w) X.A (f v u) Q X.xe s2) :
  wpAny (model X.prog X.w) X.A (eval a X.env) (λv s₁=>wpAny (model X.prog X.w) X.A (eval b X.env) (λu s₂=>wpAny (model X.prog X.w) X.A (f v u) Q X.xe s₂) X.xe s₁) X.xe s:=by
 refine thn (ha zB s Y H _ I h) λv s1 ⟨x,H1,I1,r1,q1⟩=>?_;refine thn (hb zB s1 Y H1 _ I1 q1) λu s2 ⟨y,H2,I2,r2,q2⟩=>?_;calc hf v u s2 x y H2 I2 r1 r2 q2
def bY {op:Operator} {r:R2} (ho:OpR X (binaryOp op) r) (ha:PE X a ta) (hb:PE X b tb):PE X (.BinOp a op b pos) (tOp r ta tb):=by
 intro zB s Y H Q I h;calc wpAny_BinOp (Lj ha hb I h λv u s2 x y H2 I2 rx ry q=>ho zB s2 Y H2 x y v u Q I2 rx ry q)
def Wb {op:UnaryOp} {r:V->Hp->VK->Prop} (ho:UnR X (unaryOp op) r) (ha:PE X a ta):PE X (.UnaryOp op a pos) (tUn r ta):=by
 intro zB s Y H Q I h;calc UnaryOp_ (thn (ha zB s Y H _ I h) λv s1 ⟨x,H1,I1,r1,q1⟩=>ho zB s1 Y H1 x v Q I1 r1 q1)
def opI {f:Y2} {C:Int->Int->Prop} {g:Int->Int->Int}
  (rule:∀ (i j:Int) (t u:Tok) (s:Yl) (Q:Yc) (E:Yc),C i j->Q (.int (g i j) s.toks) { s with toks:=s.toks+1 }->wpAny (model X.prog X.w) X.A (f (.int i t) (.int j u)) Q E s) :
  OpR X f (rI C λi j=> .int (g i j)):=by
 intro zB s Y H x y v u Q I rx ry h;let⟨i,j,rfl,rfl,hc,q⟩:=h;let⟨t,rfl⟩:=rx;let⟨t',rfl⟩:=ry;calc rule i j t t' s _ _ hc ⟨.int (g i j),H,I.tok _,⟨_,rfl⟩,q⟩
def QP {f:Y2} {g:Int->Int->Int}
  (rule:∀ (i j:Int) (t u:Tok) (s:Yl) (Q:Yc) (E:Yc),Q (.int (g i j) s.toks) { s with toks:=s.toks+1 }->wpAny (model X.prog X.w) X.A (f (.int i t) (.int j u)) Q E s) :
  OpR X f (rI0 λi j=> .int (g i j)):=by
 intro zB s Y H x y v u Q I rx ry h;let⟨i,j,rfl,rfl,q⟩:=h;let⟨t,rfl⟩:=rx;let⟨t',rfl⟩:=ry;calc rule i j t t' s _ _ ⟨.int (g i j),H,I.tok _,⟨_,rfl⟩,q⟩
def Ji {f:Y2} {g:Int->Int->Bool}
  (rule:∀ (i j:Int) (t u:Tok) (s:Yl) (Q:Yc) (E:Yc),Q (.bool (g i j)) s->wpAny (model X.prog X.w) X.A (f (.int i t) (.int j u)) Q E s) :
  OpR X f (rI0 λi j=> .bl (g i j)):=by
 intro zB s Y H x y v u Q I rx ry h;let⟨i,j,rfl,rfl,q⟩:=h;let⟨t,rfl⟩:=rx;let⟨t',rfl⟩:=ry;calc rule i j t t' s _ _ ⟨.bl (g i j),H,I,rfl,q⟩
def cO (i j:Int):Prop:=0<j/\j<1073741824
def WN (i j:Int):Prop:=0<=j/\j<=1000000/\i.natAbs<2 ^ 64
def Kw (i j:Int):Prop:=(-(2 ^ 64)<i/\i<2 ^ 64)\/(-(2 ^ 64)<j/\j<2 ^ 64)
def Kw.ok {i j:Int} (h:Kw i j):IntMulOk i j:=by
 rcases h with ⟨h1,h2⟩|⟨h1,h2⟩
 .exact .of_left (intBits_le_64 h1 h2)
 .exact .of_right (intBits_le_64 h1 h2)
def Tz:OpR X (binaryOp .Add) (rI0 λi j=> .int (i+j)):=QP λ_ _ _ _ _ _ _ q=>add_int q
def X5:OpR X (binaryOp .Sub) (rI0 λi j=> .int (i-j)):=QP λ_ _ _ _ _ _ _ q=>sub_int q
def gO:OpR X (binaryOp .Mult) (rI Kw λi j=> .int (i*j)):=opI λ_ _ _ _ _ _ _ hc q=>mul_int q hc.ok
def aJ:OpR X (binaryOp .FloorDiv) (rI cO λi j=> .int (i / j)):=opI λi j _ _ _ _ _ hc q=>by
 let h1:(0:Int)<j:=hc.1;let h2:j<1073741824:=hc.2;calc floordiv_int () (by rw[Int.fdiv_eq_ediv_of_nonneg i ()];calc q) (.inl (PyProof.noPylong_small ()))
def fW:OpR X (binaryOp .Mod) (rI (λ_ j=>0<j) λi j=> .int (i % j)):=opI λi j _ _ _ _ _ hc q=>by
 let h1:(0:Int)<j:=hc;calc mod_int' () (by rw[Int.fmod_eq_emod_of_nonneg i ()];calc q)
def SV:OpR X (binaryOp .Pow) (rI WN λi j=> .int (i ^ j.toNat)):=opI λ_ _ _ _ _ _ _ hc q=>pow_int_small hc.1 hc.2.1 hc.2.2 q
def unI {f:Value->Sem Value} {g:Int->Int}
  (rule:∀ (i:Int) (t:Tok) (s:Yl) (Q:Yc) (E:Yc),Q (.int (g i) s.toks) { s with toks:=s.toks+1 }->wpAny (model X.prog X.w) X.A (f (.int i t)) Q E s) :
  UnR X f (rU λi=> .int (g i)):=by
 intro zB s Y H x v Q I rx h;let⟨i,rfl,q⟩:=h;let⟨t,rfl⟩:=rx;calc rule i t s _ _ ⟨.int (g i),H,I.tok _,⟨_,rfl⟩,q⟩
def Vg:UnR X (unaryOp .USub) (rU λi=> .int (-i)):=unI λ_ _ _ _ _ q=>neg_int q
end
def Jb:V->V->Bool
 |.non,.non=>true|.non,.int _=>true|.int _,.non=>true|.non,.bl _=>true|.bl _,.non=>true|.non,.str _=>true|.str _,.non=>true
 |.int _,.int _=>true|.bl _,.bl _=>true|.str _,.str _=>true|.byt _,.byt _=>true
 |.int _,.str _=>true|.str _,.int _=>true|.bl _,.str _=>true|.str _,.bl _=>true
 |_,_=>false
def rEq:R2:=λx y H Q=>Jb x y=true/\Q (.bl (decide (x=y))) H
def rNe:R2:=λx y H Q=>Jb x y=true/\Q (.bl (!decide (x=y))) H
def RC {i j:Int}:decide (V.int i=V.int j)=(i==j):=by
 rw[C9];simp
def NL {i j:Bool}:decide (V.bl i=V.bl j)=(i==j):=by
 rw[C9];simp
def RZ {i j:Str}:decide (V.str i=V.str j)=(i==j):=by
 rw[C9];simp
def Qk {i j:Array UInt8}:decide (V.byt i=V.byt j)=(i.toList==j.toList):=by
 rw[C9];ext i;ext j;simp
section
variable {X:Cx} {a b c:Expr} {ta tb tc:TE} {pos:Pos}
def zn {zB:Yd} {Y:St} {H:Hp} {s:Yl} {Q:VK} {k k':Bool} (I:Inv X zB Y H s) (q:Q (.bl k) H) (e:k=k'):EP X zB Y Q (.bool k') s:=by
 subst e;calc ⟨.bl k,H,I,rfl,q⟩
def NO:OpR X (compareOp .Eq) rEq:=by
 intro zB s Y H x y v u Q I rx ry h;let⟨hs,q⟩:=h;cases x with
 |non=>
  ext rx;cases y with
  |non=>ext ry;calc PySem.EqNone.eq_none_none (zn I q (by simp))
  |bl j=>ext ry;calc PySem.EqNone.eq_none_bool (zn I q (by simp))
  |int j=>let⟨t',rfl⟩:=ry;calc PySem.EqNone.eq_none_int (zn I q (by simp))
  |str j=>let⟨t',rfl⟩:=ry;calc PySem.EqNone.eq_none_str (zn I q (by simp))
  |_=>calc absurd (show false=true from hs) Au
 |bl i=>
  ext rx;cases y with
  |non=>ext ry;calc PySem.EqNone.eq_bool_none (zn I q (by simp))
  |bl j=>ext ry;calc eq_bool (zn I q NL)
  |str j=>let⟨t',rfl⟩:=ry;calc PySem.EqMixed.eq_bool_str (zn I q (by simp))
  |_=>calc absurd (show false=true from hs) Au
 |int i=>
  let⟨t,rfl⟩:=rx;cases y with
  |non=>ext ry;calc PySem.EqNone.eq_int_none (zn I q (by simp))
  |int j=>let⟨t',rfl⟩:=ry;calc eq_int (zn I q RC)
  |str j=>let⟨t',rfl⟩:=ry;calc PySem.EqMixed.eq_int_str (zn I q (by simp))
  |_=>calc absurd (show false=true from hs) Au
 |str i=>
  let⟨t,rfl⟩:=rx;cases y with
  |non=>ext ry;calc PySem.EqNone.eq_str_none (zn I q (by simp))
  |bl j=>ext ry;calc PySem.EqMixed.eq_str_bool (zn I q (by simp))
  |int j=>let⟨t',rfl⟩:=ry;calc PySem.EqMixed.eq_str_int (zn I q (by simp))
  |str j=>let⟨t',rfl⟩:=ry;calc eq_str (zn I q RZ)
  |_=>calc absurd (show false=true from hs) Au
 |byt i=>
  let⟨t,rfl⟩:=rx;cases y with
  |byt j=>let⟨t',rfl⟩:=ry;calc PySem.W.eq_bytes (zn I q Qk)
  |_=>calc absurd (show false=true from hs) Au
 |_=>cases y <;> calc absurd (show false=true from hs) Au
def R9:OpR X (compareOp .NotEq) rNe:=by
 intro zB s Y H x y v u Q I rx ry h;let⟨hs,q⟩:=h;cases x with
 |non=>
  ext rx;cases y with
  |non=>ext ry;calc PySem.EqNone.ne_none_none (zn I q (by simp))
  |bl j=>ext ry;calc PySem.EqNone.ne_none_bool (zn I q (by simp))
  |int j=>let⟨t',rfl⟩:=ry;calc PySem.EqNone.ne_none_int (zn I q (by simp))
  |str j=>let⟨t',rfl⟩:=ry;calc PySem.EqNone.ne_none_str (zn I q (by simp))
  |_=>calc absurd (show false=true from hs) Au
 |bl i=>
  ext rx;cases y with
  |non=>ext ry;calc PySem.EqNone.ne_bool_none (zn I q (by simp))
  |bl j=>ext ry;calc ne_bool (zn I q (BO not NL))
  |str j=>let⟨t',rfl⟩:=ry;calc PySem.EqMixed.ne_bool_str (zn I q (by simp))
  |_=>calc absurd (show false=true from hs) Au
 |int i=>
  let⟨t,rfl⟩:=rx;cases y with
  |non=>ext ry;calc PySem.EqNone.ne_int_none (zn I q (by simp))
  |int j=>let⟨t',rfl⟩:=ry;calc ne_int (zn I q (BO not RC))
  |str j=>let⟨t',rfl⟩:=ry;calc PySem.EqMixed.ne_int_str (zn I q (by simp))
  |_=>calc absurd (show false=true from hs) Au
 |str i=>
  let⟨t,rfl⟩:=rx;cases y with
  |non=>ext ry;calc PySem.EqNone.ne_str_none (zn I q (by simp))
  |bl j=>ext ry;calc PySem.EqMixed.ne_str_bool (zn I q (by simp))
  |int j=>let⟨t',rfl⟩:=ry;calc PySem.EqMixed.ne_str_int (zn I q (by simp))
  |str j=>let⟨t',rfl⟩:=ry;calc ne_str (zn I q (BO not RZ))
  |_=>calc absurd (show false=true from hs) Au
 |byt i=>
  let⟨t,rfl⟩:=rx;cases y with
  |byt j=>let⟨t',rfl⟩:=ry;calc PySem.W.ne_bytes (zn I q (BO not Qk))
  |_=>calc absurd (show false=true from hs) Au
 |_=>cases y <;> calc absurd (show false=true from hs) Au
def Kt:OpR X (compareOp .Lt) (rI0 λi j=> .bl (decide (i<j))):=Ji λ_ _ _ _ _ _ _ q=>lt_int q
def VE:OpR X (compareOp .LtE) (rI0 λi j=> .bl (decide (i<=j))):=Ji λ_ _ _ _ _ _ _ q=>le_int q
def Xm:OpR X (compareOp .Gt) (rI0 λi j=> .bl (decide (j<i))):=Ji λ_ _ _ _ _ _ _ q=>gt_int q
def bW:OpR X (compareOp .GtE) (rI0 λi j=> .bl (decide (j<=i))):=Ji λ_ _ _ _ _ _ _ q=>ge_int q
def OpR.or {f:Y2} {r r':R2} (h:OpR X f r) (h':OpR X f r'):OpR X f (λx y H Q=>r x y H Q\/r' x y H Q):=by
 intro zB s Y H x y v u Q I rx ry q;rcases q with q|q
 .exact h zB s Y H x y v u Q I rx ry q
 .exact h' zB s Y H x y v u Q I rx ry q
def Ec (b:Expr) {op:CmpOp} (h:op≠.In:=by decide) (h2:op≠.NotIn:=by decide):behindInMarks op b=false:=by
 let e1:(op==CmpOp.In)=false:=by cases op <;> first|rfl|exact absurd rfl h
 let e2:(op==CmpOp.NotIn)=false:=by cases op <;> first|rfl|exact absurd rfl h2
 cases b <;> simp[behindInMarks,e1,e2]
def VH {op:CmpOp} {r:R2} (ho:OpR X (compareOp op) r) (ha:PE X a ta) (hb:PE X b tb) (hm:behindInMarks op b=false):PE X (.Compare a [op] [b] pos) (tOp r ta tb):=by
 intro zB s Y H Q I h;calc wpAny_Compare1 (Lj ha hb I h λv u s2 x y H2 I2 rx ry q=>ho zB s2 Y H2 x y v u Q I2 rx ry q) hm
def JI (t:TE):TT:=λY H Q=>t Y H λx H'=>∃ k,x=.bl k/\Q k H'
def UM {op:CmpOp} {r:R2} (ho:OpR X (compareOp op) r) (ha:PE X a ta) (hb:PE X b tb) (hm:behindInMarks op b=false):PT X (.Compare a [op] [b] pos) (JI (tOp r ta tb)):=by
 intro zB s Y H Q I h;refine wpAny_isTrue_Compare1 (thn (ha zB s Y H _ I h) λv s1 ⟨x,H1,I1,r1,q1⟩=>thn (hb zB s1 Y H1 _ I1 q1) λu s2 ⟨y,H2,I2,r2,q2⟩=>
  thn (ho zB s2 Y H2 x y v u _ I2 r1 r2 q2) λc s3 ⟨z,H3,I3,r3,k,e,q3⟩=>?_) hm
 subst e;ext r3;calc E7 ⟨H3,I3,q3⟩
def OX (r r':R2) (ta tb tc:TE):TE:=λY H Q=>ta Y H λx H1=>tb Y H1 λy H2=>r x y H2 λz H3=>∃ k,z=.bl k /\
 (if k=true then tc Y H3 λw' H4=>r' y w' H4 Q else Q (.bl false) H3)
def Sa {op op':CmpOp} {r r':R2} (ho:OpR X (compareOp op) r) (ho':OpR X (compareOp op') r') (ha:PE X a ta) (hb:PE X b tb) (hc:PE X c tc)
  (hm:lastMarks [op,op'] [b,c]=false:=by with_unfolding_all rfl):PE X (.Compare a [op,op'] [b,c] pos) (OX r r' ta tb tc):=by
 intro zB s Y H Q I h;refine Compare_chain (thn (ha zB s Y H _ I h) λv s1 ⟨x,H1,I1,r1,q1⟩=>chain_link (thn (hb zB s1 Y H1 _ I1 q1) λu s2 ⟨y,H2,I2,r2,q2⟩=>
  thn (ho zB s2 Y H2 x y v u _ I2 r1 r2 q2) λd s3 ⟨z,H3,I3,r3,k,e,q3⟩=>?_)) hm
 subst e;ext r3;calc E7 ?_;cases k with
 |false=>calc ite_ff ⟨.bl false,H3,I3,rfl,q3⟩
 |true=>calc ite_tt (chain_last (thn (hc zB s3 Y H3 _ I3 q3) λw' s4 ⟨z',H4,I4,r4,q4⟩=>ho' zB s4 Y H4 y z' u w' Q I4 r2 r4 q4))
def Hk:(sizeLine:Nat)<2 ^ 63:=by rw[sizeLine_eq];decide
def EX {x:V} {us:Yf} (r:zT [x] us):∃ u,us=[u]/\zf x u:=by
 cases r with
 |cons r1 r2=>ext r2;calc ⟨_,rfl,r1⟩
def fI {x y:V} {us:Yf} (r:zT [x,y] us):∃ u w',us=[u,w']/\zf x u/\zf y w':=by
 cases r with
 |cons r1 r2=>
  cases r2 with
  |cons r3 r4=>ext r4;calc ⟨_,_,rfl,r1,r3⟩
def VJ:CV X (.builtin "abs") (λxs H Q=>∃ i,xs=[.int i]/\Q (.int (if i<0 then -i else i)) H):=by
 intro zB s Y H xs us Q I r h;let⟨i,rfl,q⟩:=h;let⟨u,rfl,t,rfl⟩:=EX r;calc call_abs_int λu tk=>⟨.int (if i<0 then -i else i),H,I.tok _,⟨_,rfl⟩,q⟩
def cN (hc:X.calm=true):CV X (.builtin "max") (λxs H Q=>∃ i j,xs=[.int i,.int j]/\Q (.int (if j>i then j else i)) H):=by
 intro zB s Y H xs us Q I r h;let⟨i,j,rfl,q⟩:=h;let⟨u,w',rfl,⟨t,rfl⟩,⟨t',rfl⟩⟩:=fI r;refine max_two_ints (I.ok.hd hc) λh' tk k=>⟨_,H,I.kept k,?_,q⟩;by_cases hj:j>i
 .rw[AD hj,AD hj];exact ⟨_,rfl⟩
 .rw[AE hj,AE hj];calc ⟨_,rfl⟩
end
structure ObjM (h:Heap) (x dx C:Yt) (mA:Yh):Prop where
 obj:h.get? x=some (PySem.W.instObj C dx)
 ns:h.Ns1 dx mA
 ne:dx≠x
def fV {h:Heap} {dx:Yt} {mA:Yh} (n:h.Ns1 dx mA):∃ od,h.get? dx=some od /\ ∀ name,PySem.W.lookIn name od=some (mA name):=by
 let⟨o,es,ep,ho,hd,hk,_,hm⟩:=n;refine ⟨o,ho,λname=>?_⟩;let e:=hm name;erw[nsFind,findBy]at e;rw[<-Array.find?_toList]at e;erw[PySem.W.lookIn];rw[hd];dsimp only;split
 .rename_i y q;rw[q]at e;exact BO some e
 .rename_i q;rw[q]at e;let a:es.toList.any (·.refKey)=false:=by
   rw[List.any_eq_false];intro y hy;let⟨z,t,hkey⟩:=hk y (Array.mem_toList_iff.mp hy);simp[DictEntry.refKey,hkey]
  let a':¬ es.toList.any (·.refKey)=true:=by rw[a];exact Au
  rw[AE a'];calc BO some e
def ObjM.look {h:Heap} {x dx C:Yt} {mA:Yh} (I:ObjM h x dx C mA):∃ od,PySem.W.InstAt h x (PySem.W.instObj C dx) C (some od) /\ ∀ name,PySem.W.lookIn name od=some (mA name) :=
 let ⟨od,ho,hl⟩:=fV I.ns
 ⟨od,⟨I.obj,rfl,rfl,ho⟩,hl⟩
def Dp.some_of {v:V} {o:Option Value} (r:Dp (some v) o):∃ u,o=some u/\zf v u:=by
 cases o with
 |none=>calc (show False from r).elim
 |some u=>calc ⟨u,rfl,r⟩
section
variable {P:Ym} {w:Yo} {H H':Hp} {h h':Heap} {a C dx:Yt} {fs fs':List (Str × V)}
def Sl (hok:HOk P w H h) (e:H a=some (.ins C dx fs)):∃ mA,ObjM h a dx C mA/\(∀ f,Dp (fs.lookup f) (mA f))/\PySem.Within mA (fs.map (·.1))/\fs.length<=1000/\H dx=some (.own a):=by
 let⟨d,z,ne,ob,mA,n,r,q⟩:=(show Am P w H h a (.ins C dx fs)from hok a _ e);calc ⟨mA,⟨ob,n,ne⟩,r,q,z,d⟩
end
structure Cls (K:Yb) (C:Yt):Prop where
 pg:PySem.W.plainGet K C Str.empty=true
 hd:PySem.W.hasDictIn K C=true
 po:PySem.W.plainOver K C=true
 sa:PySem.W.findIn K (.ref C) "__setattr__" = some (some (.builtin "object.__setattr__"))
def Cls.get {K:Yb} {C:Yt} (c:Cls K C) (f:Str):PySem.W.plainGet K C f=true:=c.pg
section
variable {X:Cx} {zB:Yd} {Y:St} {H:Hp} {s:Yl} {A:Yn} {E:Yc} {Q:Yc} {c:Yu} {b:Bool}
set_option genInjectivity true in
inductive TyOf (K:Yb) (H:Hp):V->Value->Prop where
 |non:TyOf K H .non (.type "NoneType")
 |bl (x:Bool):TyOf K H (.bl x) (.type "bool")
 |int (i:Int):TyOf K H (.int i) (.type "int")
 |str (x:Str):TyOf K H (.str x) (.type "str")
 |flt (x:UInt64):TyOf K H (.flt x) (.type "float")
 |lst {a:Addr} {xs:List V} (e:H a=some (.lst xs)):TyOf K H (.ref a) (.type "list")
 |frz {a:Addr} {o:Obj} {xs:List V} (e:H a=some (.frz o (.lst xs))):TyOf K H (.ref a) (.type "list")
 |tup {a:Addr} {xs:List V} (e:H a=some (.tup xs)):TyOf K H (.ref a) (.type "tuple")
 |dK {a:Addr} {kvs:List (Key × V)} (e:H a=some (.dK kvs)):TyOf K H (.ref a) (.type "dict")
 |dT {a:Addr} {kvs:List (List Key × V)} (e:H a=some (.dT kvs)):TyOf K H (.ref a) (.type "dict")
 |ins {a C dx:Addr} {fs:List (Str × V)} (e:H a=some (.ins C dx fs)) (cl:Cls K C) (ha:PySem.W.findIn K (.ref C) "__class__" = some (some (.builtin "object.__class__")))
   (hn:PySem.W.specialIn K (.builtin "object.__class__") "__get__" = some (some (.builtin "getset_descriptor.__get__"))) (htk:PySem.W.takesIn K (.builtin "object.__class__")=some true)
   (hm:PySem.W.mroIn K C (.type "object")=some true):TyOf K H (.ref a) (.ref C)
def eZ {x:V} {u t:Yu} (I:Inv X zB Y H s) (rx:zf x u) (ty:TyOf X.K H x t) (e:PySem.W.kitOne X.K t c=some b) (h:∀ tk,Q (.bool b) { s with toks:=tk }) :
  wpAny (model X.prog X.w) A (call (.builtin "isinstance") [u,c]) Q E s:=by
 cases ty with
 |non=>cases (show u=Value.none from rx);exact Di PySem.W.kitx_none I.kIn True.intro e (λz=>nomatch z) h
 |bl y=>cases (show u=Value.bool y from rx);exact Di PySem.W.kitx_bool I.kIn True.intro e (λz=>nomatch z) h
 |int i=>let⟨t,q⟩:=(show ∃ t,u=Value.int i t from rx);ext q;exact Di PySem.W.kitx_int I.kIn True.intro e (λz=>nomatch z) h
 |str y=>let⟨t,q⟩:=(show ∃ t,u=Value.str y t from rx);ext q;exact Di PySem.W.kitx_str I.kIn True.intro e (λz=>nomatch z) h
 |flt y=>let⟨t,q⟩:=(show ∃ t,u=Value.float y t from rx);ext q;exact Di PySem.W.kitx_float I.kIn True.intro e (λz=>nomatch z) h
 | @lst a xs ea=>
  cases (show u=Value.ref a from rx);let⟨_,_,n,_,h1⟩:=(show Am X.prog X.w H s.heap a (.lst xs)from I.hok a _ ea);exact Di PySem.W.kitx_list I.kIn ⟨_,h1,rfl⟩ e (λz=>nomatch z) h
 | @frz a ob xs ea=>
  cases (show u=Value.ref a from rx);let⟨_,_,_,n,_,h1⟩:=(show Am X.prog X.w H s.heap a (.frz ob (.lst xs))from I.hok a _ ea);exact Di PySem.W.kitx_list I.kIn ⟨_,h1,rfl⟩ e (λz=>nomatch z) h
 | @tup a xs ea=>
  cases (show u=Value.ref a from rx);let⟨_,_,_,p⟩:=(show Am X.prog X.w H s.heap a (.tup xs)from I.hok a _ ea);let⟨o,h1,h2,_⟩:=p;exact Di PySem.W.kitx_tuple I.kIn ⟨o,h1,h2⟩ e (λz=>nomatch z) h
 | @dK a kvs ea=>
  cases (show u=Value.ref a from rx);let⟨_,_,vs,_,p⟩:=(show Am X.prog X.w H s.heap a (.dK kvs)from I.hok a _ ea);let⟨o,es,ep,h1,h2,_⟩:=p;exact Di PySem.W.kitx_dict I.kIn ⟨o,h1,h2.1⟩ e (λz=>nomatch z) h
 | @dT a kvs ea=>
  cases (show u=Value.ref a from rx);let⟨_,_,xs,_,o,es,ep,h1,h2,_⟩:=(show Am X.prog X.w H s.heap a (.dT kvs)from I.hok a _ ea);exact Di PySem.W.kitx_dict I.kIn ⟨o,h1,h2.1⟩ e (λz=>nomatch z) h
 | @ins a C dx fs ea cl ha hn htk hm=>
  cases (show u=Value.ref a from rx);let⟨mA,O,_⟩:=Sl I.hok ea;let⟨od,J,_⟩:=O.look;calc Di (PySem.W.kitx_own (cl.get _) cl.hd ha hn htk hm) I.kIn J e (λz=>nomatch z) h
end
structure Room (k:Nat) (A:Yn):Prop where
 hd:A.handled=none
 dp:A.depth+3*k+5<recursionLimit
 un:A.units+16*k+200<cLine
def Room.mono {j k:Nat} {A:Yn} (r:Room k A) (h:j<=k):Room j A:=⟨r.hd,by have:=r.dp;omega,by have:=r.un;omega⟩
def Room.deeper {k:Nat} {A:Yn} (r:Room (k+1) A) (env:Env):Room k (A.deeper env) :=
 ⟨r.hd,by have:=r.dp;show A.depth+1+3*k+5<_;omega,by have:=r.un;show A.units+3+16*k+200<_;omega⟩
def Room.depth {k:Nat} {A:Yn} (r:Room k A):A.depth<recursionLimit:=by have:=r.dp;omega
def Room.units {k:Nat} {A:Yn} (r:Room k A):A.units+64<cLine:=by have:=r.un;omega
def Room.units0 {k:Nat} {A:Yn} (r:Room k A):A.units<cLine:=by have:=r.un;omega
def Zs:TA:=λ_ H Q=>Q [] H
def Wd (ta:TE) (tr:TA):TA:=λY H Q=>ta Y H λx H1=>tr Y H1 λxs H2=>Q (x::xs) H2
section
variable {X:Cx} {e:Expr} {es:Yi} {te:TE} {t:TA} {pos:Pos}
def Hs:PA X [] Zs:=λ_ _ _ _ H Q I h=>Fi ⟨[],H,I,.nil,h⟩
def G5 (ha:PE X e te) (hr:PA X es t) (hs:starEach (e::es) X.env=(false,eval e X.env)::starEach es X.env:=by rfl):PA X (e::es) (Wd te t):=by
 intro pos zB s Y H Q I h;rw[hs];show wpAny _ _ (spliced ((false,eval e X.env)::backTo pos (starEach es X.env))) _ _ s;refine E6 (thn (ha zB s Y H _ I h) λu s1 ⟨x,H1,I1,r1,q1⟩=>?_);calc thn (hr pos zB s1 Y H1 _ I1 q1) λus s2 ⟨xs,H2,I2,r2,q2⟩=>⟨x::xs,H2,I2,.cons r1 r2,q2⟩
def YC (t:TA):TE:=λY H Q=>t Y H λxs H1=>xs.length<=sizeLine /\ ∀ p,H1 p=none->Q (.ref p) (upd H1 p (.tup xs))
def dD (t:TA):TE:=λY H Q=>t Y H λxs H1=>xs.length<=sizeLine /\ ∀ p,H1 p=none->Q (.ref p) (upd H1 p (.lst xs))
def bQ {x1} (h:PA X es t):PE X (.Tuple es x1 pos) (YC t):=by
 intro zB s Y H Q I hq;refine wpAny_Tuple_spliced (thn (h pos zB s Y H _ I hq) λus s1 ⟨xs,H1,I1,r,z,q⟩=>⟨by rw[<-r.length];calc z,?_⟩);let hf:H1 ⇑s1=none:=I1.hok.fresh (AF _);refine ⟨.ref ⇑s1,upd H1 ⇑s1 (.tup xs),I1.laid (t':=s1.toks) (λb u e=>AH _ e) (AF _) ?_,rfl,q _ hf⟩;calc ⟨z,us,r,⟨_,AL _ rfl,rfl,⟨_,rfl⟩,rfl⟩⟩
def Zj (h:PA X es t):PE X (.List es pos) (dD t):=by
 intro zB s Y H Q I hq;refine wpAny_List_spliced (thn (h pos zB s Y H _ I hq) λus s1 ⟨xs,H1,I1,r,z,q⟩=>⟨by rw[<-r.length];calc z,?_⟩);let hf:H1 ⇑s1=none:=I1.hok.fresh (AF _);refine ⟨.ref ⇑s1,upd H1 ⇑s1 (.lst xs),I1.laid (t':=s1.toks) (λb u e=>AH _ e) (AF _) ?_,rfl,q _ hf⟩;calc ⟨z,us,0,r,AL _ rfl⟩
end
abbrev Sp:=List V->Hp->VK->XK->Prop
abbrev CXT:=List Env->Hp->Shared->XK->Value->Shared->Prop
structure Env0 (P:Ym) (w:Yo) (K:Yb) (mg:Yh) (base:Heap) (A:Yn) (outer:List Env) (s:Yl) (H:Hp):Prop where
 frames:A.frames=some outer
 mod:Mod K mg base
 bs:∀ b o,base.get? b=some o->s.heap.get? b=some o/\H b=none
 bsz:base.objs.size<=⇑s
 funs:s.heap.FunFrames base outer
 frf:∀ b∈frs outer,H b=none
 hok:HOk P w H s.heap
 bare:AllBare s.gens
def CE (outer:List Env) (P:Ym) (w:Yo) (H:Hp) (s:Yl) (Q:VK) (u:Yu) (s':Yl):Prop :=
 ∃ v H',s'.os=s.os/\AllBare s'.gens/\Un (frs outer) [] H H' s.heap s'.heap/\HOk P w H' s'.heap/\zf v u/\Q v H'
def CR (CX:CXT) (outer:List Env) (P:Ym) (w:Yo) (H:Hp) (s:Yl) (Q:VK) (E:XK) (r:Result) (s':Yl):Prop :=
 match r with
 |.ok (.ret u)=>CE outer P w H s Q u s'
 |.ok _=>False
 |.error e=>CX outer H s E e s'
structure FnOk (P:Ym) (w:Yo) (K:Yb) (mg:Yh) (base:Heap) (CX:CXT) (k:Nat) (f:Yt) (fd:Yz) (ps:Yk) (sp:Sp):Prop where
 len:∀ vs H Q E,sp vs H Q E->vs.length=ps.length
 run:∀ (A:Yn) (outer:List Env) (s:Yl) (H:Hp) (args:Args) (us:Yf) (vs:List V) (Q:VK) (E:XK),Room k A->Env0 P w K mg base A outer s H->BindsTo s fd args (ps.zip us)->zT vs us->sp vs H Q E ->
  codeAny (model P w) A (.call (.ref f) args) (CR CX outer P w H s Q E) s
def FnOk.imp {P:Ym} {w:Yo} {K:Yb} {mg:Yh} {base:Heap} {CX:CXT} {k:Nat} {f:Yt} {fd:Yz} {ps:Yk} {sp sp':Sp} (F:FnOk P w K mg base CX k f fd ps sp)
  (h:∀ vs H Q E,sp' vs H Q E->sp vs H Q E):FnOk P w K mg base CX k f fd ps sp' :=
 ⟨λvs H Q E q=>F.len vs H Q E (h _ _ _ _ q),λA outer s H args us vs Q E hr he hb hv hs=>F.run A outer s H args us vs Q E hr he hb hv (h _ _ _ _ hs)⟩
section
variable {X:Cx} {zB:Yd} {Y:St} {H:Hp} {s s':Yl}
def Inv.env0 (I:Inv X zB Y H s):Env0 X.prog X.w X.K X.mg X.base X.A X.stack s H :=
 ⟨I.ok.frames,I.ok.mod,I.bs,Ao I.ok.bsz I.sz,I.stack,I.stkFree,I.hok,I.bare⟩
def Inv.after {Q:VK} {u:Yu} (I:Inv X zB Y H s) (h:CE X.stack X.prog X.w H s Q u s'):EP X zB Y Q u s':=by
 let⟨v,H',os,bare,un,hok,r,q⟩:=h;let⟨hh,g,d,t,os'⟩:=s';obtain rfl:os'=s.os:=os;calc ⟨v,H',I.call (h':=hh) (g':=g) (d':=d) (t':=t) (ch:=[]) un hok bare (λb z=>absurd z (by simp)),r,q⟩
end
def i8 (sp:Sp) (dvs:List V) (E:XK) (t:TA):TE:=λY H Q=>t Y H λvs H1=>sp (vs++dvs) H1 Q E
def GF (K:Yb) (fd:Yz) (ps:Yk) (ds:Yf):Prop :=
 ∀ (s:Yl) (us:Yf),K.In s.heap->(us++ds).length=ps.length->BindsTo s fd ⟨us,[]⟩ (ps.zip (us++ds))
def GF.all {K:Yb} {fd:Yz} {ps:Yk} (h:∀ us:List Value,us.length=ps.length->bindArgs fd ⟨us,[]⟩=pure (ps.zip us)):GF K fd ps []:=λs us _ hl=>by
 rw[DO]at hl ⊢;calc .of_eq (h us hl)
def Kf (CX:CXT) (X:Cx) (E:XK):Prop:=∀ (zB:Yd) (Y:St) (H:Hp) (s:Yl) (e:Yu) (s':Yl),Inv X zB Y H s->CX X.stack H s E e s'->X.xe e s'
section
variable {X:Cx} {CX:CXT} {k:Nat} {f C:Yt} {fd:Yz} {ps:Yk} {sp:Sp} {dvs:List V} {ds:Yf} {E:XK} {x m:Str} {p pos apos:Pos} {e o:Expr} {es:Yi} {ta:TE} {t:TA}
def fJ {zB:Yd} {Y:St} {H:Hp} {s:Yl} {Q:VK} {us:Yf} {vs:List V} (F:FnOk X.prog X.w X.K X.mg X.base CX k f fd ps sp) (hr:Room k X.A) (hb:GF X.K fd ps ds) (hd:zT dvs ds) (hx:Kf CX X E)
  (I:Inv X zB Y H s) (r:zT vs us) (h:sp (vs++dvs) H Q E):wpAny (model X.prog X.w) X.A (call (.ref f) us) (EP X zB Y Q) X.xe s:=by
 let r2:zT (vs++dvs) (us++ds):=r.append hd;let hl:(us++ds).length=ps.length:=by rw[<-r2.length];exact F.len _ _ _ _ h
 refine wpAny_call (codeAny_mono (F.run X.A X.stack s H ⟨us,[]⟩ (us++ds) (vs++dvs) Q E hr I.env0 (hb s us I.kIn hl) r2 h) λr s' hq=>?_);cases r with
 |error e=>calc hx zB Y H s e s' I hq
 |ok fl=>
  cases fl with
  |ret u=>calc I.after hq
  |next=>calc False.elim hq
  |brk=>calc False.elim hq
  |cont=>calc False.elim hq
def Xa (F:FnOk X.prog X.w X.K X.mg X.base CX k f fd ps sp) (hr:Room k X.A) (hg:Gl X x) (hm:X.mg x=some (.ref f)) (hk:PySem.W.keepIn X.K (.ref f)=true) (hb:GF X.K fd ps ds) (hd:zT dvs ds) (hx:Kf CX X E)
  (ha:PA X (e::es) t) (hdb:(x==("__debug__" : Str))=false:=by decide) (he:starEach (e::es) X.env=(false,eval e X.env)::starEach es X.env:=by rfl) (hpl:(backTo pos (starEach es X.env)).any (·.1)=false:=by rfl) :
  PE X (.Call (.Name x p) (e::es) [] pos) (i8 sp dvs E t):=by
 intro zB s Y H Q I h;calc ER (gG I hg hm ?_ hdb);refine PySem.W.callWith_K (h₀:=X.base) I.ok.mod.kin hk (thn (ha pos zB s Y H _ I h) λus s1 ⟨vs,H1,I1,r,q⟩=>⟨I1.kIn,?_⟩) he hpl;calc fJ F hr hb hd hx I1 r q
end
structure FnScope (N P:Yk) (sc:Y0):Prop where
 kind:sc.kind=.function
 co:sc.isCoroutine=false
 gen:sc.isGenerator=false
 nd:N.Nodup
 pre:N.take P.length=P
 par:∀ x∈P,sc.names.lookup x=some .local\/sc.names.lookup x=some .cell
 nofree:∀ y∈sc.names,y.2≠.free
theorem Ob {kindOf:Str->Option NameKind} {x:Str}:∀ {binds:List (Str × Value)} {m:Yh},(∀ v,(x,v)∉binds)->bindL kindOf binds m x=m x
 |[],_,_=>rfl
 | (n,v)::r,m,h=>by
  erw[bindL];rw[Ob λw hw=>h w (BF _ hw)];split
  .have:x≠n:=by rintro rfl;exact h v Ax
   simp[this]
  .rfl
theorem QU {kindOf:Str->Option NameKind} {x:Str}:∀ {binds:List (Str × Value)} {m:Yh},(∀ v,(x,v)∉binds)->bindC kindOf binds m x=m x
 |[],_,_=>rfl
 | (n,v)::r,m,h=>by
  erw[bindC];rw[QU λw hw=>h w (BF _ hw)];split
  .rfl
  .have:x≠n:=by rintro rfl;exact h v Ax
   simp[this]
theorem Qc {kindOf:Str->Option NameKind} {x:Str} {v:Yu}:∀ {P:Yk} {vs:Yf} {i:Nat} {m:Yh},P.Nodup->P[i]?=some x->vs[i]?=some v->kindOf x=some .local ->
  bindL kindOf (P.zip vs) m x=some v
 |[],_,_,_,_,h,_,_=>by simp at h
 |_::_,[],_,_,_,_,h,_=>by simp at h
 |p::P,w::vs,0,m,nd,h1,h2,hk=>by
  simp at h1 h2;subst h1;subst h2;show bindL kindOf ((p,w)::P.zip vs) m p=_;erw[bindL];rw[Ob λv hv=>(List.nodup_cons.mp nd).1 (List.of_mem_zip hv).1,AD hk];simp
 |p::P,w::vs,i+1,m,nd,h1,h2,hk=>by
  show bindL kindOf ((p,w)::P.zip vs) m x=_;erw[bindL];calc Qc (i:=i) (List.nodup_cons.mp nd).2 (~~~h1) (~~~h2) hk
theorem Qr {kindOf:Str->Option NameKind} {x:Str} {v:Yu}:∀ {P:Yk} {vs:Yf} {i:Nat} {m:Yh},P.Nodup->P[i]?=some x->vs[i]?=some v->kindOf x≠some .local ->
  bindC kindOf (P.zip vs) m x=some v
 |[],_,_,_,_,h,_,_=>by simp at h
 |_::_,[],_,_,_,_,h,_=>by simp at h
 |p::P,w::vs,0,m,nd,h1,h2,hk=>by
  simp at h1 h2;subst h1;subst h2;show bindC kindOf ((p,w)::P.zip vs) m p=_;erw[bindC];rw[QU λv hv=>(List.nodup_cons.mp nd).1 (List.of_mem_zip hv).1,AE hk];simp
 |p::P,w::vs,i+1,m,nd,h1,h2,hk=>by
  show bindC kindOf ((p,w)::P.zip vs) m x=_;erw[bindC];calc Qr (i:=i) (List.nodup_cons.mp nd).2 (~~~h1) (~~~h2) hk
def start (N:Yk) (vs:List V):St:=vs.map some++List.replicate (N.length-vs.length) none
def GU (CX:CXT) (P:Ym) (w:Yo) (K:Yb) (mg:Yh) (base:Heap) (N:Yk) (qual:Str) (scope:Y0) (f:Yt) (cd:Yu) (A:Yn) (outer:List Env) (s:Yl) (H:Hp) (E:XK):Cx where
 prog:=P
 w:=w
 K:=K
 mg:=mg
 base:=base
 A:=A.deeper (envOfC qual scope ⇑s f cd)
 N:=N
 s₀:=s
 H₀:=H
 env:=envOfC qual scope ⇑s f cd
 outer:=outer
 stack:=envOfC qual scope ⇑s f cd::outer
 ex:=[]
 calm:=true
 fn:=λ_=>true
 pn:=[]
 xe:=λe s'=>wpAny (model P w) (A.deeper (envOfC qual scope ⇑s f cd)) (leaving (envOfC qual scope ⇑s f cd) e) (λ_ s''=>CX outer H s E e s'') (λe' s''=>CX outer H s E e' s'') s'
def Me {sc:Y0} {n:Nat} {x:Str} (h:sc.names.lookup x=some .cell):∃ c,(cellsFrom n sc.names []).lookup x=some c:=by
 let q:=PySem.W.cellsFrom_some sc.names n [] (.inl h);calc Option.isSome_iff_exists.mp q
def Rc {CX:CXT} {P:Ym} {w:Yo} {K:Yb} {mg:Yh} {base:Heap} {N ps:Yk} {qual:Str} {scope:Y0} {f:Yt} {cd:Yu} {A:Yn} {outer:List Env} {s s1:Yl} {H:Hp} {E:XK} {us:Yf} {vs:List V}
  (S:FnScope N ps scope) (hd:A.handled=none) (e0:Env0 P w K mg base A outer s H) (hl:vs.length=ps.length) (r:zT vs us)
  (x:InCallC s ⇑s (bindL (envOfC qual scope ⇑s f cd).kindOf (ps.zip us) λ_=>none) (cellsFrom (⇑s+1) scope.names []) (bindC (envOfC qual scope ⇑s f cd).kindOf (ps.zip us) λ_=>none) s1) :
  Inv (GU CX P w K mg base N qual scope f cd A outer s H E) [] (start N vs) H s1:=by
 let hpl:ps.length<=N.length:=by have:=BO List.length S.pre;rw[Bg]at this;omega
 let⟨h1,tk,rfl,hk⟩:=x.done;let noA:∀ b:Addr,b∉(GU CX P w K mg base N qual scope f cd A outer s H E).ex:=λb z=>absurd (show b∈([]:List Addr)from z) (by simp)
 refine ⟨⟨e0.mod,S.kind,rfl,rfl,AF _,λy z c h1 h2=>?_,λy hy=>?_,λy c _ h=>?_,λ_=>hd,Around.frames_deeper e0.frames,.inr ⟨rfl,rfl⟩,λb z=>absurd z (noA b),e0.bs,e0.bsz,λb _ _=>noA b,λb z=>absurd z (noA b),e0.funs,e0.frf⟩,
  rfl,e0.bare,Un.kept hk,⟨_,x.toInCall.ns,λi y v h1 h2 h3=>?_⟩,λy c h=>⟨_,x.cell y c h⟩,e0.hok.fresh (AF _),λy c h=>?_,λp hp=>absurd (show p∈([]:List (Addr × Obj))from hp) (by simp),e0.hok.kept hk,?_⟩
 .exact name_of_addr x.apart (C3 h1) (C3 h2)
 .have hy:scope.names.lookup y=some .cell\/scope.names.lookup y=some .free:=hy;rcases hy with hy|hy
  .exact Me hy
  .exact absurd rfl (S.nofree _ (C3 hy))
 .exact DV (x.above y c (C3 h))
 .have hi:i<vs.length:=by
   erw[start]at h2;by_cases hi:i<vs.length
   .exact hi
   .rw[Ee (~~~hi)]at h2;rw[List.getElem?_replicate]at h2;split at h2 <;> ext h2
  let ha:vs[i]?=some v:=by
   erw[start]at h2;rw[Bf (~~~hi),AW]at h2;cases e:vs[i]? with
   |none=>rw[e]at h2;ext h2
   |some a=>rw[e]at h2;ext h2;rfl
  let⟨u,hu,rv⟩:=r.get ha;let hp:ps[i]?=some y:=by
   rw[<-S.pre,List.getElem?_take_of_lt ()];exact h1
  let ndP:ps.Nodup:=by rw[<-S.pre];exact S.nd.sublist (List.take_sublist _ _)
  calc ⟨u,rv,?_⟩;rcases S.par y (CM hp)with k|k
  .exact .inl ⟨k,Qc ndP hp hu k⟩
  .obtain ⟨c,e⟩:=Me (n:=⇑s+1) k;calc .inr ⟨.inl k,c,e,?_⟩;let q:=x.cell y c e;rw[Qr ndP hp hu (by show scope.names.lookup y≠_;rw[k];decide)]at q;exact q
 .exact e0.hok.fresh (DV (x.above y c (C3 h)))
 .unfold start;show _=N.length;rw[AV,AG,List.length_replicate];omega
def cE {CX:CXT} {P:Ym} {w:Yo} {K:Yb} {mg:Yh} {base:Heap} {k:Nat} {f:Yt} {name qual:Str} {params:Arguments} {body:Yy} {scope:Y0} {dV kV doc pm cdv ct oc:Yu} {an od:Option Addr}
  {osl:Array (Option Value)} {N ps:Yk} {sp:Sp} (lk:K.lookup f=some ⟨oc,od,.func (PySem.W.fnOf name qual params body scope dV kV doc pm an cdv ct),osl⟩) (hcd:PySem.W.codeIn K cdv qual=true) (S:FnScope N ps scope)
  (len:∀ vs H Q E,sp vs H Q E->vs.length=ps.length)
  (hbody:∀ (A:Yn) (outer:List Env) (s:Yl) (H:Hp) (vs:List V) (Q:VK) (E:XK),Room k (A.deeper (envOfC qual scope ⇑s f cdv))->sp vs H Q E ->
   ∃ t,PSs (GU CX P w K mg base N qual scope f cdv A outer s H E) body t/\t { nx:=λ_ H'=>Q .non H',rt:=Q } (start N vs) H) :
  FnOk P w K mg base CX (k+1) f (PySem.W.fnOf name qual params body scope dV kV doc pm an cdv ct) ps sp:=by
 refine ⟨len,λA outer s H args us vs Q E hr e0 hb r hsp=>?_⟩;let hl:=len _ _ _ _ hsp;let KX:K.In s.heap:=e0.mod.kin.keeps λb o e=>(e0.bs b o e).1;let lim:s.heap.NoLimit:=e0.mod.nolimit.keeps λb o e=>(e0.bs b o e).1;let hkind:∀ y∈ps.zip us,scope.names.lookup y.1=some .local\/(scope.names.lookup y.1=some .cell/\((cellsFrom (⇑s+1) scope.names []).lookup y.1).isSome=true):=λ⟨n,v⟩ hy=>by
  rcases S.par n (List.of_mem_zip hy).1 with q|q
  .exact .inl q
  .exact .inr ⟨q,PySem.W.cellsFrom_some _ _ _ (.inl q)⟩
 refine codeAny_call_function hr.depth (KX _ _ lk) rfl S.co S.gen rfl (PySem.W.codeRec_of KX hcd) (hb _ _ _ _ ?_);refine wpAny_newFunctionEnv_cells S.kind hkind λenv he s1 x=>?_;subst he;refine ⟨lim.keeps x.toInCall.keep,codeAny_func ?_⟩;let⟨t,ht,hq⟩:=hbody A outer s H vs Q E (hr.deeper _) hsp;let I:Inv (GU CX P w K mg base N qual scope f cdv A outer s H E) [] (start N vs) H s1:=Rc S hr.hd e0 hl r x;refine An (ht [] s1 (start N vs) H _ I hq) (λfl s' hs=>?_) λe s' hs=>hs;let fin:∀ {Y':St} {H':Hp} {v:V} {u:Yu},Inv (GU CX P w K mg base N qual scope f cdv A outer s H E) [] Y' H' s'->zf v u->Q v H'->CE outer P w H s Q u s' :=
  λ{Y' H' v u} J rv q=>⟨v,H',J.os,J.bare,J.base,J.hok,rv,q⟩
 cases fl with
 |ret u=>
  let⟨v,Y',H',J,rv,q⟩:=hs;calc fin J rv q
 |next=>
  let⟨Y',H',J,q⟩:=hs;calc fin (v:=V.non) (u:=Value.none) J rfl q
 |brk=>
  let⟨_,_,_,q⟩:=hs;calc False.elim q
 |cont=>
  let⟨_,_,_,q⟩:=hs;calc False.elim q
section
variable {X:Cx} {x:Str} {p pos:Pos} {e:Expr} {es:Yi} {t:TA} {id T:String} {r:List V->Hp->VK->Prop}
def tCB (r:List V->Hp->VK->Prop) (t:TA):TE:=λY H Q=>t Y H λvs H1=>r vs H1 Q
def Ot (hc:CV X (.builtin id) r) (hg:Gl X x) (hm:X.mg x=none) (hv:bootBuiltins x=some (.builtin id)) (ha:PA X (e::es) t) (hn:x ≠ "__name__" := by decide) (hdb:(x==("__debug__" : Str))=false:=by decide)
  (he:starEach (e::es) X.env=(false,eval e X.env)::starEach es X.env:=by rfl) (hpl:(backTo pos (starEach es X.env)).any (·.1)=false:=by rfl):PE X (.Call (.Name x p) (e::es) [] pos) (tCB r t):=by
 intro zB s Y H Q I h;calc ER (Ce I hg hm hv ?_ hn hdb);calc PyProof.Rows.callWith_builtin1 (thn (ha pos zB s Y H _ I h) λus s1 ⟨vs,H1,I1,r1,q1⟩=>hc zB s1 Y H1 vs us Q I1 r1 q1) he hpl
def LK (hc:CV X (.type T) r) (hg:Gl X x) (hm:X.mg x=none) (hv:bootBuiltins x=some (.type T)) (ha:PA X (e::es) t) (hn:x ≠ "__name__" := by decide) (hdb:(x==("__debug__" : Str))=false:=by decide)
  (he:starEach (e::es) X.env=(false,eval e X.env)::starEach es X.env:=by rfl) (hpl:(backTo pos (starEach es X.env)).any (·.1)=false:=by rfl):PE X (.Call (.Name x p) (e::es) [] pos) (tCB r t):=by
 intro zB s Y H Q I h;calc ER (Ce I hg hm hv ?_ hn hdb);calc PyProof.Rows.callWith_type1 (thn (ha pos zB s Y H _ I h) λus s1 ⟨vs,H1,I1,r1,q1⟩=>hc zB s1 Y H1 vs us Q I1 r1 q1) he hpl
end
end L2
namespace HT
open PySem PyProof.Rows
section
variable {prog:Ym} {w:Yo} {A:Yn} {E:Yc} {s:Yl}
def Va {t b:Yt} {vs ws:Yf} {Q:Yc} (ht:IsTup s.heap t vs.toArray) (hb:IsTup s.heap b ws.toArray) (hv:vs≠[])
  (h1:ws=[]->Q (.ref t) s) (h2:ws≠[]->Q (.ref ⇑s) { s with heap:=s.heap.push { cls:=.type "tuple", data:=.seq (vs++ws).toArray } })
  (hsz:vs.length+ws.length<=sizeLine):wpAny (model prog w) A (binaryOp .Add (.ref t) (.ref b)) Q E s:=by
 let⟨⟨cls,dd,data,sl⟩,ho,hc,n,hd⟩:=id ht;let⟨⟨cls2,dd2,data2,sl2⟩,ho2,hc2,n2,hd2⟩:=id hb;simp only at hc hd hc2 hd2;subst hc hd hc2 hd2;let e:vs.toArray++ws.toArray=(vs++ws).toArray:=by simp
 by_cases hw:ws=[]
 .exact concat_meets ⟨_,ho,rfl⟩ ⟨_,ho2,rfl⟩ noFill_tuple_add seq_tuple_add PySem.F.slot_tuple_add PySem.F.entry_tuple_add (PySem.F.args_tuple_add_2 _ _)
   (tuple_addW1 t b vs.toArray ws.toArray n n2 dd dd2 sl sl2 (~~~hv) (by simp[hw])) ⟨ho,ho2,h1 hw⟩
 .refine concat_meets ⟨_,ho,rfl⟩ ⟨_,ho2,rfl⟩ noFill_tuple_add seq_tuple_add PySem.F.slot_tuple_add PySem.F.entry_tuple_add (PySem.F.args_tuple_add_2 _ _)
   (tuple_addW2 t b vs.toArray ws.toArray n n2 dd dd2 sl sl2 (~~~hv) (~~~hw) (by rw[AO,AO];calc hsz)) ⟨ho,ho2,?_⟩
  rw[e];calc h2 hw
def sIx (n d:Nat):Option Int->Nat
 |none=>d
 |some v=>if v<0 then (v+(n:Int)).toNat else min v.toNat n
def JL (n d k:Nat):sIx n d (some (k:Int))=min k n:=by
 show (if (k:Int)<0 then ((k:Int)+(n:Int)).toNat else min (k:Int).toNat n)=min k n;rw[AE (),Bc]
def f9 (n d:Nat) (hd:d<=n) (o:Ys):sIx n d o<=n:=by
 cases o with
 |none=>calc hd
 |some v=>
  show (if v<0 then (v+(n:Int)).toNat else min v.toNat n)<=n;by_cases hv:v<0
  .rw[AD hv];omega
  .rw[AE hv];calc Nat.min_le_right _ _
def Ou (v:Int) (n d:Nat):(if v<0 then max (v+(n:Int)) 0 else min v (n:Int))=((sIx n d (some v):Nat):Int):=by
 show (if v<0 then max (v+(n:Int)) 0 else min v (n:Int))=(((if v<0 then (v+(n:Int)).toNat else min v.toNat n):Nat):Int);by_cases hv:v<0
 .simp only[AD hv];omega
 .simp only[AE hv];omega
def aW (lo hi:Ys) (n:Nat):Builtin.Slice.sliceAdjust lo hi 1 (n:Int)=(((sIx n 0 lo:Nat):Int),((sIx n n hi:Nat):Int)):=by
 let h1:¬ ((1:Int)<0):=()
 erw[Builtin.Slice.sliceAdjust];simp only[h1,B6];refine Prod.ext ?_ ?_
 .cases lo with
  |none=>rfl
  |some v=>exact Ou v n 0
 .cases hi with
  |none=>rfl
  |some v=>calc Ou v n n
def ZV (i j:Nat):Builtin.Slice.slicePlaces (i:Int) (j:Int) 1=j-i:=by
 erw[Builtin.Slice.slicePlaces];let h1:(1:Int)>0:=()
 simp only[h1,if_true,Int.ediv_one];split <;> omega
def PN {v:Yu} {o:Ys} {Q:Option Int->Shared->Prop} (p:IsPart v o) (h:Q o s):wpAny (model prog w) A (Builtin.Slice.slicePartIndex v) Q E s:=by
 cases p with
 |none=>calc slicePart_none h
 |int i t=>calc slicePart_int h
def O7 {sl:Yt} {vl vu:Yu} {lo hi:Ys} {n:Nat} {Q:Int × Int × Nat->Shared->Prop} (hs:s.heap.IsSliceOf sl vl vu .none) (pl:IsPart vl lo) (pu:IsPart vu hi)
  (h:Q (((sIx n 0 lo:Nat):Int),1,sIx n n hi-sIx n 0 lo) s):wpAny (model prog w) A (Builtin.Slice.sliceApplied (.ref sl) (pure (n:Int))) Q E s:=by
 let⟨os,hos,hcs,hds⟩:=id hs;erw[Builtin.Slice.sliceApplied,Builtin.Slice.sliceFields];calc AA (AA (Ad hos hds (x:=vl) rfl (AA (Ad hos hds (x:=vu) rfl (AA (Ad hos hds (x:=.none) rfl (AB ?_)))))));calc AA (slicePart_none ?_);show wpAny _ _ (if ((1:Int)==0)=true then _ else _) _ _ s;rw[AE ()];calc AA (PN pl (AA (PN pu (AA (AB ?_)))));show wpAny _ _ (match Builtin.Slice.sliceAdjust lo hi 1 (n:Int) with|(lo,hi)=>pure (lo,(1:Int),Builtin.Slice.slicePlaces lo hi 1)) _ _ s;rw[aW lo hi n];show wpAny _ _ (pure (((sIx n 0 lo:Nat):Int),(1:Int),Builtin.Slice.slicePlaces ((sIx n 0 lo:Nat):Int) ((sIx n n hi:Nat):Int) 1)) _ _ s;rw[ZV];calc AB h
def S2 (xs:Yp) (i k:Nat):((List.range k).filterMap λ(m:Nat)=>xs[((i:Int)+(m:Int)*1).toNat]?).toArray=((xs.toList.drop i).take k).toArray:=by
 let e:(λ(m:Nat)=>xs[((i:Int)+(m:Int)*1).toNat]?)=λm=>xs[i+m]?:=by
  funext m;have:((i:Int)+(m:Int)*1).toNat=i+m:=()
  rw[this]
 rw[e];have:=pick_run xs i k;rw[List.filterMap_map]at this;let e2:((λx=>xs[x]?)∘λx=>i+x)=λm=>xs[i+m]?:=rfl;rw[e2]at this;rw[this]
def To {t sl:Yt} {items:Yp} {vl vu:Yu} {lo hi:Ys} {Q:Yc} (ht:IsTup s.heap t items) (hs:s.heap.IsSliceOf sl vl vu .none) (pl:IsPart vl lo) (pu:IsPart vu hi)
  (hw:¬ (sIx items.size 0 lo=0/\sIx items.size items.size hi=items.size))
  (h:Q (.ref ⇑s) { s with heap:=s.heap.push { cls:=.type "tuple", data:=.seq ((items.toList.drop (sIx items.size 0 lo)).take (sIx items.size items.size hi-sIx items.size 0 lo)).toArray } })
  (hsz:items.size<=sizeLine):wpAny (model prog w) A (getItem (.ref t) (.ref sl)) Q E s:=by
 let htake:sizeOk (.seq ((items.toList.drop (sIx items.size 0 lo)).take (sIx items.size items.size hi-sIx items.size 0 lo)).toArray):=by
  show ((items.toList.drop (sIx items.size 0 lo)).take (sIx items.size items.size hi-sIx items.size 0 lo)).toArray.size<=sizeLine;rw[AO,Bg,Dh,BU];omega
 let hj:sIx items.size items.size hi<=items.size:=f9 _ _ (AF _) hi;let⟨os,hos,hcs,hds⟩:=id hs;let hTs:s.TypeIs (.ref sl) "slice" := ⟨os,hos,hcs⟩;erw[getItem];try with_reducible refine BQ ?_
 first|refine AA (AB ?_)|skip
 refine AA (wpAny_sequenceKey ht.typeIs () ?_)
 refine AA (CA (name:=Str.ofString "__getitem__") ht.typeIs Dy
  (BI Dy ht.typeIs entry_tuple_getitem ?_ (args_tuple_getitem _ _)))
 show wpAny _ _ (Builtin.Tuple.tupleItemsOf (.ref t) >>= _) _ _ s;refine AA (tupleItemsOf_ ht ?_);refine AA (Co hTs ?_);rw[AD ()];refine AA (O7 hs pl pu ?_);let hno:¬ ((((sIx items.size 0 lo:Nat):Int)==0&&(1:Int)==1&&(sIx items.size items.size hi-sIx items.size 0 lo)==items.size)=true):=by
  intro q;rw[BE,BE]at q;let q1:((sIx items.size 0 lo:Nat):Int)=0:=eq_of_beq q.1.1;let q2:sIx items.size items.size hi-sIx items.size 0 lo=items.size:=eq_of_beq q.2;exact hw ⟨(),()⟩
 show wpAny _ _ (if (((sIx items.size 0 lo:Nat):Int)==0&&(1:Int)==1&&(sIx items.size items.size hi-sIx items.size 0 lo)==items.size)=true then _ else _) _ _ s;rw[AE hno,S2]
 first
  |calc AA (m:=Builtin.Tuple.tupleExact _) (A9 (AB ⟨_,rfl,AB h⟩) htake)
  |calc AA (m:=Builtin.Tuple.tupleExact _) (A9 (AA (AB (AB ⟨_,rfl,AB h⟩))) htake)
  |calc AA (AA (m:=Builtin.Tuple.tupleExact _) (A9 (AB (AB ⟨_,rfl,AB h⟩)) htake))
  |calc AA (AA (m:=Builtin.Tuple.tupleExact _) (A9 (AB ⟨_,rfl,AB h⟩) htake))
end
end HT
namespace L2
abbrev TO:=St->Hp->(Option Int->Hp->Prop)->Prop
def PO (X:Cx) (e:Option Expr) (t:TO):Prop :=
 ∀ (zB:Yd) (s:Yl) (Y:St) (H:Hp) (Q:Option Int->Hp->Prop),Inv X zB Y H s->t Y H Q ->
  wpAny (model X.prog X.w) X.A (evalPart e X.env) (λu s'=>∃ o H',Inv X zB Y H' s'/\IsPart u o/\Q o H') X.xe s
def VF:TO:=λ_ H Q=>Q none H
def XG (t:TE):TO:=λY H Q=>t Y H λx H1=>∃ i,x=.int i/\Q (some i) H1
section
variable {X:Cx} {e:Expr} {te:TE} {lo hi:Option Expr} {tl th:TO} {pos p2:Pos}
def Rb:PO X none VF:=by
 intro zB s Y H Q I h;rw[evalPart_none];calc AB ⟨none,H,I,.none,h⟩
def XI (h:PE X e te):PO X (some e) (XG te):=by
 intro zB s Y H Q I hw;rw[evalPart_some];refine thn (h zB s Y H _ I hw) λu s1 ⟨x,H1,I1,r1,q1⟩=>?_;let⟨i,rfl,q⟩:=q1;let⟨t,rfl⟩:=r1;calc ⟨some i,H1,I1,.int i t,q⟩
def SlR (X:Cx) (r:V->Option Int->Option Int->Hp->VK->Prop):Prop :=
 ∀ (zB:Yd) (s:Yl) (Y:St) (H:Hp) (x:V) (v vl vu:Yu) (lo hi:Ys) (sl:Yt) (Q:VK),Inv X zB Y H s->zf x v->s.heap.IsSliceOf sl vl vu .none->IsPart vl lo->IsPart vu hi->r x lo hi H Q ->
  ∃ T id,typeLookup (.type T) "__getitem__" = pure (some (.builtin id))/\s.TypeIs v T/\wpAny (model X.prog X.w) X.A (getItem v (.ref sl)) (EP X zB Y Q) X.xe s
def SlR.or {r r':V->Option Int->Option Int->Hp->VK->Prop} (h:SlR X r) (h':SlR X r'):SlR X (λx lo hi H Q=>r x lo hi H Q\/r' x lo hi H Q):=by
 intro zB s Y H x v vl vu lo hi sl Q I rx hs pl pu q;rcases q with q|q
 .exact h zB s Y H x v vl vu lo hi sl Q I rx hs pl pu q
 .exact h' zB s Y H x v vl vu lo hi sl Q I rx hs pl pu q
def tSl (r:V->Option Int->Option Int->Hp->VK->Prop) (te:TE) (tl th:TO):TE:=λY H Q=>te Y H λx H1=>tl Y H1 λl H2=>th Y H2 λu H3=>r x l u H3 Q
def cF {r:V->Option Int->Option Int->Hp->VK->Prop} (hr:SlR X r) (he:PE X e te) (hl:PO X lo tl) (hu:PO X hi th):PE X (.Subscript e (.Slice lo hi none p2) pos) (tSl r te tl th):=by
 intro zB s Y H Q I h;refine Subscript_ (thn (he zB s Y H _ I h) λv s1 ⟨x,H1,I1,r1,q1⟩=>?_);refine wpAny_Slice (thn (hl zB s1 Y H1 _ I1 q1) λvl s2 ⟨l,H2,I2,pl,q2⟩=>thn (hu zB s2 Y H2 _ I2 q2) λvu s3 ⟨u,H3,I3,pu,q3⟩=>?_);rw[evalPart_none];calc AB ?_;let I4:Inv X zB Y H3 { s3 with heap:=s3.heap.push { cls:=.type "slice", data:=.fields #[vl,vu,.none] } }:=I3.kept (t':=s3.toks) λb ob q=>AH _ q;let⟨T,id,hT,ht,hg⟩:=hr zB { s3 with heap:=s3.heap.push { cls:=.type "slice", data:=.fields #[vl,vu,.none] } } Y H3 x v vl vu l u ⇑s3 Q I4 r1 (Heap.IsSliceOf.new ..) pl pu q3;show wpAny (model X.prog X.w) X.A (subscriptTail e (.Slice lo hi none p2) v (.ref ⇑s3)) (EP X zB Y Q) X.xe { s3 with heap:=s3.heap.push { cls:=.type "slice", data:=.fields #[vl,vu,.none] } };calc tail_any (ops:=[.ref ⇑s3,v]) ht hT hg (by with_unfolding_all rfl)
def FK (xs:List V) (lo hi:Ys):List V:=(xs.drop (HT.sIx xs.length 0 lo)).take (HT.sIx xs.length xs.length hi-HT.sIx xs.length 0 lo)
def Nl (xs:List V) (lo hi:Ys):(FK xs lo hi).length<=xs.length:=by
 erw[FK];rw[Bg,Dh];omega
def Zy (K:Yb):V->Option Int->Option Int->Hp->VK->Prop:=λx lo hi H Q=>∃ a xs,x=.ref a/\SqT K H a xs /\
 ¬ (HT.sIx xs.length 0 lo=0/\HT.sIx xs.length xs.length hi=xs.length) /\ ∀ p,H p=none->Q (.ref p) (upd H p (.tup (FK xs lo hi)))
def bR:SlR X (Zy X.K):=by
 intro zB s Y H x v vl vu lo hi sl Q I rx hs pl pu h;let⟨a,xs,rfl,hx,hw,q⟩:=h;ext rx;let⟨its,r,ht,hz⟩:=I.tuple hx;let hlen:its.toArray.size=xs.length:=by rw[AO];exact r.length.symm
 calc ⟨"tuple", _,Dy.lookup,ht.typeIs,?_⟩;calc HT.To ht hs pl pu (by rw[hlen];calc hw) ?_ (by rw[hlen];calc hz);rw[hlen];refine ⟨.ref ⇑s,_,I.laid (t':=s.toks) (o:=.tup (FK xs lo hi)) (λb ob q=>AH _ q) (AF _) ?_,rfl,q _ (I.hok.fresh (AF _))⟩;calc ⟨Ao (Nl xs lo hi) hz,_,(r.drop (HT.sIx xs.length 0 lo)).take (HT.sIx xs.length xs.length hi-HT.sIx xs.length 0 lo),C4.new _ _⟩
def Nu (K:Yb):R2:=λx y H Q=>∃ a b xs ys,x=.ref a/\y=.ref b/\SqT K H a xs/\SqT K H b ys/\xs≠[]/\xs.length+ys.length<=sizeLine /\
 (ys=[]->Q (.ref a) H)/\(ys≠[] -> ∀ p,H p=none->Q (.ref p) (upd H p (.tup (xs++ys))))
def zT.nil_iff {xs:List V} {us:Yf} (r:zT xs us):us=[] ↔ xs=[]:=by
 cases r with
 |nil=>simp
 |cons _ _=>simp
def bG:OpR X (binaryOp .Add) (Nu X.K):=by
 intro zB s Y H x y v u Q I rx ry h;let⟨a,b,xs,ys,rfl,rfl,ha,hb,hx,hz,q1,q2⟩:=h;ext rx;ext ry;let⟨its,r1,p1,_⟩:=I.tuple ha;let⟨its2,r2,p2,_⟩:=I.tuple hb;refine HT.Va p1 p2 (λz=>hx (r1.nil_iff.mp z)) (λz=>⟨.ref a,H,I,rfl,q1 (r2.nil_iff.mp z)⟩) (λz=>?_) (by rw[<-r1.length,<-r2.length];calc hz);refine ⟨.ref ⇑s,_,I.laid (t':=s.toks) (o:=.tup (xs++ys)) (λb ob q=>AH _ q) (AF _) ?_,rfl,q2 (λw=>z (r2.nil_iff.mpr w)) _ (I.hok.fresh (AF _))⟩;calc ⟨by rw[AV];calc hz,_,r1.append r2,C4.new _ _⟩
end
def ixN (n:Nat) (i:Int):Option Nat:=if 0<=i then (if i<n then some i.toNat else none) else if -(n:Int)<=i then some (i+n).toNat else none
def atI {α:Type} (xs:List α) (i:Int):Option α:=(ixN xs.length i).bind λj=>xs[j]?
def K1 {n:Nat} {i:Int} {j:Nat} (h:ixN n i=some j):seqIndex? i n=some j/\j<n /\ -(n:Int)<=i/\i<n:=by
 erw[ixN]at h;by_cases h0:0<=i
 .rw[AD h0]at h;by_cases h1:i<n
  .rw[AD h1]at h;let e:i.toNat=j:=Bb h;exact ⟨by rw[seqIndex_of h0 h1,e],(),(),h1⟩
  .rw[AE h1]at h;ext h
 .rw[AE h0]at h;by_cases h1 : -(n:Int)<=i
  .rw[AD h1]at h;let e:(i+n).toNat=j:=Bb h;exact ⟨by rw[seqIndex_neg () h1,e],(),h1,()⟩
  .rw[AE h1]at h;ext h
def MS {α:Type} {xs:List α} {i:Int} {v:α} (h:atI xs i=some v):∃ j,seqIndex? i xs.length=some j/\xs[j]?=some v/\j<xs.length /\ -(xs.length:Int)<=i/\i<xs.length:=by
 erw[atI]at h;cases e:ixN xs.length i with
 |none=>rw[e]at h;ext h
 |some j=>
  rw[e]at h;let⟨h1,h2,h3,h4⟩:=K1 e;calc ⟨j,h1,h,h2,h3,h4⟩
def HR {α:Type} {xs:List α} {j:Nat} {v:α} (h:xs[j]?=some v):atI xs (j:Int)=some v:=by
 let hj:j<xs.length:=(AK.mp h).1;let e:ixN xs.length (j:Int)=some j:=by
  erw[ixN];rw[AD (),AD ()];simp
 erw[atI];rw[e];calc h
def OS (b:Expr):Prop:=∀ o i,subscripted b false o i=operate [o,i] (getItem o i)
def IxR (X:Cx) (r:R2):Prop :=
 ∀ (value slice:Expr) (zB:Yd) (s:Yl) (Y:St) (H:Hp) (x y:V) (v u:Yu) (Q:VK),Inv X zB Y H s->zf x v->zf y u->r x y H Q ->
  subscripted slice false v u=operate [v,u] (getItem v u)->wpAny (model X.prog X.w) X.A (subscriptTail value slice v u) (EP X zB Y Q) X.xe s
def MtR (X:Cx) (id:String) (r:V->List V->Hp->VK->Prop):Prop :=
 ∀ (zB:Yd) (s:Yl) (Y:St) (H:Hp) (x:V) (xs:List V) (v:Yu) (us:Yf) (Q:VK),Inv X zB Y H s->zf x v->zT xs us->r x xs H Q ->
  wpAny (model X.prog X.w) X.A (call (.builtin id) (v::us)) (EP X zB Y Q) X.xe s
section
variable {X:Cx} {a b:Expr} {ta tb:TE} {pos:Pos}
def IxR.or {r r':R2} (h:IxR X r) (h':IxR X r'):IxR X (λx y H Q=>r x y H Q\/r' x y H Q):=by
 intro value slice zB s Y H x y v u Q I rx ry q hs;rcases q with q|q
 .exact h value slice zB s Y H x y v u Q I rx ry q hs
 .exact h' value slice zB s Y H x y v u Q I rx ry q hs
def Uv {r:R2} (hr:IxR X r) (ha:PE X a ta) (hb:PE X b tb) (hs:OS b):PE X (.Subscript a b pos) (tOp r ta tb):=by
 intro zB s Y H Q I h;calc Subscript_ (Lj ha hb I h λv u s2 x y H2 I2 rx ry q=>hr a b zB s2 Y H2 x y v u Q I2 rx ry q (hs _ _))
def QL (K:Yb):R2:=λx y H Q=>∃ p xs i v,x=.ref p/\y=.int i/\SqL K H p xs/\atI xs i=some v/\Q v H
def Nz (K:Yb):R2:=λx y H Q=>∃ p xs i v,x=.ref p/\y=.int i/\SqT K H p xs/\atI xs i=some v/\Q v H
def P6:R2:=λx y H Q=>∃ z i c,x=.str z/\y=.int i/\z.length<=sizeLine/\atI z.cps.toList i=some c/\Q (.str ⟨#[c]⟩) H
def VI:IxR X (QL X.K):=by
 intro value slice zB s Y H x y v u Q I rx ry h hs;let⟨p,xs,i,z,rfl,rfl,hq,he,q⟩:=h;ext rx;let⟨t,rfl⟩:=ry;let⟨its,r,pl,hz⟩:=I.list hq;let⟨j,h1,h2,h3,h4,h5⟩:=MS he;let⟨w,ew,rw'⟩:=r.get h2;let hl:=r.length;let hn:=Hk;let fin:EP X zB Y Q w s:=⟨z,H,I,rw',q⟩;by_cases h0:0<=i
 .have hj:i.toNat=j:=by
   rw[seqIndex_of h0 h5]at h1;exact Bb h1
  exact item_listR pl.isList h0 () (by rw[hj];simpa using ew) fin hs
 .have hj:(i+(its.toArray.size:Int)).toNat=j:=by
   rw[seqIndex_neg () h4]at h1;rw[AO,<-hl];exact Bb h1
  exact subscriptTail_builtinR (x:=w) pl.isList.typeIs slot_list_getitem.lookup
   (wpAny_getItem_list_neg (Q:=λr s'=>r=w/\EP X zB Y Q r s') pl.isList () (by rw[AO] <;> omega) () (by rw[hj];simpa using ew) ⟨rfl,fin⟩) hs
def WX:IxR X (Nz X.K):=by
 intro value slice zB s Y H x y v u Q I rx ry h hs;let⟨p,xs,i,z,rfl,rfl,hq,he,q⟩:=h;ext rx;let⟨t,rfl⟩:=ry;let⟨its,r,pl,hz⟩:=I.tuple hq;let⟨j,h1,h2,h3,h4,h5⟩:=MS he;let⟨w,ew,rw'⟩:=r.get h2;let hl:=r.length;let hn:=Hk;let fin:EP X zB Y Q w s:=⟨z,H,I,rw',q⟩
 exact subscriptTail_builtinR (x:=w) pl.typeIs slot_tuple_getitem.lookup
  (getItem_tuple (j:=j) (Q:=λr s'=>r=w/\EP X zB Y Q r s') pl () () (by rw[AO,<-hl];calc h1) (~~~ew) ⟨rfl,fin⟩) hs
def Zp:IxR X P6:=by
 intro value slice zB s Y H x y v u Q I rx ry h hs;let⟨z,i,c,rfl,rfl,hz,he,q⟩:=h;let⟨t,rfl⟩:=rx;let⟨t',rfl⟩:=ry;let⟨j,h1,h2,h3,h4,h5⟩:=MS he;let hl:z.cps.toList.length=z.length:=by simp[Str.length]
 rw[hl]at h1 h4 h5;let hn:=Hk;exact tail_any (typeIs_str s z t) slot_str_getitem.lookup (getItem_str (c:=c) (by
  let e1:decide (i < -(2 ^ 63:Int))=false:=Al ();let e2:decide (i≥2 ^ 63)=false:=Al ();rw[e1,e2,Bool.or_false]) (by rw[h1];simpa using h2) ⟨.str ⟨#[c]⟩,H,I.tok _,⟨_,rfl⟩,q⟩) hs
def rIx (K:Yb):R2:=λx y H Q=>QL K x y H Q\/Nz K x y H Q\/P6 x y H Q
def YD:IxR X (rIx X.K):=VI.or (WX.or Zp)
def Xn (its:List Value) (n j:Nat) (u:Value):Obj.mapSeq (·.setIfInBounds j u) { cls:=.type "list", data:=.seq its.toArray n }={ cls:=.type "list", data:=.seq (its.set j u).toArray n }:=by
 simp[Obj.mapSeq]
def Inv.lst {zB:Yd} {Y:St} {H:Hp} {s:Yl} {p:Yt} {xs:List V} (I:Inv X zB Y H s) (h:H p=some (.lst xs)) :
  ∃ (its:List Value) (n:Nat),zT xs its/\s.heap.get? p=some { cls:=.type "list", data:=.seq its.toArray n }/\xs.length<=sizeLine:=by
 let⟨z,its,n,r,e⟩:=I.hok p _ h;calc ⟨its,n,r,e,z⟩
def Inv.lstUpd {zB:Yd} {Y:St} {H:Hp} {s:Yl} {p:Yt} {xs ys:List V} {its its':Yf} {n n':Nat} {f:Obj->Obj} (I:Inv X zB Y H s) (h:H p=some (.lst xs))
  (ho:s.heap.get? p=some { cls:=.type "list", data:=.seq its.toArray n }) (hf:f { cls:=.type "list", data:=.seq its.toArray n }={ cls:=.type "list", data:=.seq its'.toArray n' }) (r:zT ys its') (hz:ys.length<=sizeLine) (t:Nat) :
  Inv X zB Y (upd H p (.lst ys)) { s with heap:=s.heap.update p f,toks:=t }:=by
 let e:(s.heap.update p f).get? p=some { cls:=.type "list", data:=.seq its'.toArray n' }:=by
  rw[Cu f ho (by rw[hf] <;> rfl),hf]
 refine I.write (x:=p) (e:=p) (by rw[h];trivial) (.inl rfl) (λb u hb q=>(Cz _ _ (Ne.symm hb)).trans q) ⟨_,e⟩ ?_;calc ⟨hz,its',n',r,e⟩
def fS:V->V->V->Hp->(Hp->Prop)->Prop:=λo i v H Q=>∃ p xs k j,o=.ref p/\i=.int k/\H p=some (.lst xs)/\ixN xs.length k=some j/\Q (upd H p (.lst (xs.set j v)))
def eK:NF X fS:=by
 intro zB s Y H o i v ov iv u Q I ro ri rv h;let⟨p,xs,k,j,rfl,rfl,hp,hj,q⟩:=h;ext ro;let⟨t,rfl⟩:=ri;let⟨its,n,r,ho,hz⟩:=I.lst hp;let⟨h1,h2,h3,h4⟩:=K1 hj;let hl:=r.length;let hn:=Hk;let I':Inv X zB Y (upd H p (.lst (xs.set j v))) { s with heap:=s.heap.update p (Obj.mapSeq (·.setIfInBounds j u)) } :=
  I.lstUpd hp ho (Xn its n j u) (r.set rv j) (by rw[C1];calc hz) s.toks
 by_cases h0:0<=k
 .have hk:k.toNat=j:=by
   rw[seqIndex_of h0 h4]at h1;exact Bb h1
  exact PySem.W.ki_setAt ho h0 () (by rw[AO,<-hl];calc h4) (by rw[hk];calc ⟨_,I',q⟩)
 .have hk:(k+(its.toArray.size:Int)).toNat=j:=by
   rw[seqIndex_neg () h3]at h1;rw[AO,<-hl];exact Bb h1
  calc PySem.W.ki_setBack ho () (by rw[AO,<-hl];calc h3) () (by rw[hk];calc ⟨_,I',q⟩)
def UT (lo hi:Ys) (n:Nat):(sliceBounds lo hi none n).1=((HT.sIx n 0 lo:Nat):Int)/\(sliceBounds lo hi none n).2.1=((HT.sIx n n hi:Nat):Int)/\(sliceBounds lo hi none n).2.2=1:=by
 refine ⟨?_,?_,rfl⟩
 .cases lo with
  |none=>simp[sliceBounds,HT.sIx]
  |some i=>
   simp only[sliceBounds,HT.sIx,Option.getD_none,show (1:Int)>0 by decide,if_true];by_cases h:i<0
   .simp only[h,if_true] <;> omega
   .simp only[h,B6] <;> omega
 .cases hi with
  |none=>simp[sliceBounds,HT.sIx]
  |some i=>
   simp only[sliceBounds,HT.sIx,Option.getD_none,show (1:Int)>0 by decide,if_true];by_cases h:i<0
   .simp only[h,if_true] <;> omega
   .simp only[h,B6] <;> omega
def YR (its:Yf) (lo hi:Ys):slicePick its.toArray lo hi none=((its.drop (HT.sIx its.length 0 lo)).take (HT.sIx its.length its.length hi-HT.sIx its.length 0 lo)).toArray:=by
 let⟨h1,h2,h3⟩:=UT lo hi its.toArray.size;erw[slicePick];rw[h1,h2,h3];simp only[sliceRange_one,pick_run,AO] <;> rfl
def XY (K:Yb):V->Option Int->Option Int->Hp->VK->Prop:=λx lo hi H Q=>∃ a xs,x=.ref a/\SqL K H a xs /\ ∀ p,H p=none->Q (.ref p) (upd H p (.lst (FK xs lo hi)))
def Rk:SlR X (XY X.K):=by
 intro zB s Y H x v vl vu lo hi sl Q I rx hs pl pu h;let⟨a,xs,rfl,hx,q⟩:=h;ext rx;let⟨its,r,ht,hz⟩:=I.list hx;let hlen:=r.length;calc ⟨"list", _,slot_list_getitem.lookup,ht.isList.typeIs,?_⟩;refine wpAny_getItem_list_slice ht.isList hs pl pu .none (by simp) ?_ (by rw[AO] <;> omega);rw[YR,<-hlen];refine ⟨.ref ⇑s,_,I.laid (t':=s.toks) (o:=.lst (FK xs lo hi)) (λb ob q=>AH _ q) (AF _) ?_,rfl,q _ (I.hok.fresh (AF _))⟩;calc ⟨Ao (Nl xs lo hi) hz,_,0,(r.drop (HT.sIx xs.length 0 lo)).take (HT.sIx xs.length xs.length hi-HT.sIx xs.length 0 lo),AL _ rfl⟩
def Ei:V->Bool
 |.non=>true
 |.bl _=>true
 |.int _=>true
 |.str _=>true
 |_=>false
def eqV:V->V->Bool
 |.non,.non=>true
 |.bl a,.bl b=>a==b
 |.bl a,.int b=>(if a then 1 else 0)==b
 |.int a,.bl b=>a==(if b then 1 else 0)
 |.int a,.int b=>a==b
 |.str a,.str b=>a==b
 |_,_=>false
def jF {A:Yn} {s:Yl} {y x:V} {u v:Yu} (ry:zf y u) (rx:zf x v) (fy:Ei y=true) (fx:Ei x=true):SeqAt.EqAt A s u v (eqV y x):=by
 cases y with
 |non=>
  ext ry;cases x with
  |non=>ext rx;calc SeqAt.EqAt.same _
  |bl b=>ext rx;calc SeqAt.EqAt.none_bool b
  |int b=>let⟨t,rfl⟩:=rx;calc SeqAt.EqAt.none_int b t
  |str b=>let⟨t,rfl⟩:=rx;calc SeqAt.EqAt.none_str b t
  |_=>calc absurd (show false=true from fx) Au
 |bl a=>
  ext ry;cases x with
  |non=>ext rx;calc SeqAt.EqAt.bool_none a
  |bl b=>ext rx;calc SeqAt.EqAt.bool_bool a b
  |int b=>let⟨t,rfl⟩:=rx;calc SeqAt.EqAt.bool_int a b t
  |str b=>let⟨t,rfl⟩:=rx;calc SeqAt.EqAt.bool_str a b t
  |_=>calc absurd (show false=true from fx) Au
 |int a=>
  let⟨t',rfl⟩:=ry;cases x with
  |non=>ext rx;calc SeqAt.EqAt.int_none a t'
  |bl b=>ext rx;calc SeqAt.EqAt.int_bool a t' b
  |int b=>let⟨t,rfl⟩:=rx;calc SeqAt.EqAt.int_int a t' b t
  |str b=>let⟨t,rfl⟩:=rx;calc SeqAt.EqAt.int_str a t' b t
  |_=>calc absurd (show false=true from fx) Au
 |str a=>
  let⟨t',rfl⟩:=ry;cases x with
  |non=>ext rx;calc SeqAt.EqAt.str_none a t'
  |bl b=>ext rx;calc SeqAt.EqAt.str_bool a t' b
  |int b=>let⟨t,rfl⟩:=rx;calc SeqAt.EqAt.str_int a t' b t
  |str b=>let⟨t,rfl⟩:=rx;calc SeqAt.EqAt.str_str a t' b t
  |_=>calc absurd (show false=true from fx) Au
 |_=>calc absurd (show false=true from fy) Au
def eqU (x:V) (u:Yu):Bool:=match u with
 |.none=>eqV .non x
 |.bool b=>eqV (.bl b) x
 |.int i _=>eqV (.int i) x
 |.str z _=>eqV (.str z) x
 |_=>false
def NY {x y:V} {u:Yu} (r:zf y u) (f:Ei y=true):eqU x u=eqV y x:=by
 cases y with
 |non=>ext r;rfl
 |bl b=>ext r;rfl
 |int i=>let⟨t,rfl⟩:=r;rfl
 |str z=>let⟨t,rfl⟩:=r;rfl
 |_=>calc absurd (show false=true from f) Au
theorem Hw {x:V}:∀ {xs:List V} {us:Yf},zT xs us->xs.all Ei=true->us.any (eqU x)=xs.any λy=>eqV y x
 |_,_,.nil,_=>rfl
 |y::xs,u::us,.cons r t,f=>by
  rw[List.all_cons,BE]at f;rw[List.any_cons,List.any_cons,NY r f.1,Hw t f.2]
theorem Ir {A:Yn} {s:Yl} {x:V} {v:Yu} (rx:zf x v) (fx:Ei x=true):∀ {xs:List V} {us:Yf},zT xs us->xs.all Ei=true -> ∀ u∈us,SeqAt.EqAt A s u v (eqU x u)
 |_,_,.nil,_=>λu hu=>by ext hu
 |y::xs,u::us,.cons r t,f=>λu' hu=>by
  rw[List.all_cons,BE]at f;rcases AJ.mp hu with rfl|hu
  .rw[NY r f.1];exact jF r rx f.1 fx
  .exact Ir rx fx t f.2 u' hu
def inV (x:V) (xs:List V):Bool:=xs.any λy=>eqV y x
def rIn (K:Yb) (neg:Bool):R2:=λx y H Q=>∃ p xs,y=.ref p/\(SqL K H p xs\/SqT K H p xs)/\Ei x=true/\xs.all Ei=true/\Q (.bl (if neg then !inV x xs else inV x xs)) H
def OL:OpR X (compareOp .In) (rIn X.K false):=by
 intro zB s Y H x y v u Q I rx ry h;let⟨p,xs,rfl,hq,fx,fs,q⟩:=h;ext ry;rcases hq with hq|hq
 .obtain ⟨its,r,pl,hz⟩:=I.list hq;refine SeqAt.in_listAt (eqU x) pl.isList (λw hw=>Ir rx fx r fs w (~~~hw)) ⟨.bl _,H,I,rfl,?_⟩;rw[show its.toArray.any (eqU x)=its.any (eqU x) by simp,Hw r fs];exact q
 .obtain ⟨its,r,pl,hz⟩:=I.tuple hq;refine SeqAt.in_tupleAt (eqU x) pl (λw hw=>Ir rx fx r fs w (~~~hw)) ⟨.bl _,H,I,rfl,?_⟩;rw[show its.toArray.any (eqU x)=its.any (eqU x) by simp,Hw r fs];calc q
def fZ:OpR X (compareOp .NotIn) (rIn X.K true):=by
 intro zB s Y H x y v u Q I rx ry h;let⟨p,xs,rfl,hq,fx,fs,q⟩:=h;ext ry;rcases hq with hq|hq
 .obtain ⟨its,r,pl,hz⟩:=I.list hq;refine SeqAt.notIn_listAt (eqU x) pl.isList (λw hw=>Ir rx fx r fs w (~~~hw)) ⟨.bl _,H,I,rfl,?_⟩;rw[show its.toArray.any (eqU x)=its.any (eqU x) by simp,Hw r fs];exact q
 .obtain ⟨its,r,pl,hz⟩:=I.tuple hq;refine SeqAt.notIn_tupleAt (eqU x) pl (λw hw=>Ir rx fx r fs w (~~~hw)) ⟨.bl _,H,I,rfl,?_⟩;rw[show its.toArray.any (eqU x)=its.any (eqU x) by simp,Hw r fs];calc q
def eE:CV X (.builtin "len") (λxs H Q=>∃ p ys,xs=[.ref p]/\(SqL X.K H p ys\/SqT X.K H p ys)/\Q (.int ys.length) H):=by
 intro zB s Y H xs us Q I r h;let⟨p,ys,rfl,hq,q⟩:=h;let⟨u,rfl,rx⟩:=EX r;ext rx;let hn:=Hk;rcases hq with hq|hq
 .obtain ⟨its,r',pl,hz⟩:=I.list hq;let hlen:=r'.length;exact Calls.call_len_list pl.isList (by simp only[AO] <;> omega) ⟨.int ys.length,H,I.tok _,⟨s.toks+1,by rw[AO,hlen]⟩,q⟩
 .obtain ⟨its,r',pl,hz⟩:=I.tuple hq;let hlen:=r'.length;exact len_tuple pl (by simp only[AO] <;> omega) ⟨.int ys.length,H,I.tok _,⟨s.toks+1,by rw[AO,hlen]⟩,q⟩
def Zu:CV X (.type "list") (λxs H Q=>∃ p ys,xs=[.ref p]/\(SqL X.K H p ys\/SqT X.K H p ys) /\ ∀ l,H l=none->Q (.ref l) (upd H l (.lst ys))):=by
 intro zB s Y H xs us Q I r h;let⟨p,ys,rfl,hq,q⟩:=h;let⟨u,rfl,rx⟩:=EX r;ext rx
 let fin:∀ (its:Yf),zT ys its->ys.length<=sizeLine -> ∀ (h':Heap) (c':Nat),(∀ b o',s.heap.get? b=some o'->h'.get? b=some o') ->
   h'.get? ⇑s=some { cls:=.type "list", dict:=none,data:=.seq its.toArray c',slots:=#[] }->EP X zB Y Q (.ref ⇑s) { s with heap:=h' }:=λits r' hz h' c' kp e=>
  ⟨.ref ⇑s,_,I.laid (t':=s.toks) kp (AF _) (show Am X.prog X.w _ h' _ (.lst ys)from ⟨hz,its,c',r',e⟩),rfl,q _ (I.hok.fresh (AF _))⟩
 rcases hq with hq|hq
 .obtain ⟨its,r',pl,hz⟩:=I.list hq;let hlen:=r'.length;let⟨o,ho,hc,n,hd⟩:=pl.isList;exact call_list_seq p (.inl rfl) ho hc hd (λh' c' kp e=>fin its r' hz h' c' kp e) (by simp only[AO] <;> omega)
 .obtain ⟨its,r',pl,hz⟩:=I.tuple hq;let hlen:=r'.length;let⟨o,ho,hc,n,hd⟩:=pl;exact call_list_seq p (.inr rfl) ho hc hd (λh' c' kp e=>fin its r' hz h' c' kp e) (by simp only[AO] <;> omega)
def Vp:CV X (.type "tuple") (λxs H Q=>∃ p ys,xs=[.ref p]/\((SqL X.K H p ys /\ ∀ l,H l=none->Q (.ref l) (upd H l (.tup ys)))\/(SqT X.K H p ys/\Q (.ref p) H))):=by
 intro zB s Y H xs us Q I r h;let⟨p,ys,rfl,h⟩:=h;let⟨u,rfl,rx⟩:=EX r;ext rx;rcases h with ⟨hq,q⟩|⟨hq,q⟩
 .obtain ⟨its,r',pl,hz⟩:=I.list hq;let hlen:=r'.length;refine call_tuple_list pl.isList (λh' kp=>?_) (by simp only[AO] <;> omega);let I1:Inv X zB Y H { s with heap:=h' }:=I.kept (t':=s.toks) kp;let I2:Inv X zB Y (upd H h'.objs.size (.tup ys)) { s with heap:=h'.push { cls:=.type "tuple", data:=.seq its.toArray } } :=
   I1.laid (t':=s.toks) (λb o e=>AH _ e) (AF _) (show Am X.prog X.w _ _ _ (.tup ys)from ⟨hz,its,r',C4.new _ _⟩)
  exact ⟨.ref h'.objs.size,_,I2,rfl,q _ (I1.hok.fresh (AF _))⟩
 .obtain ⟨its,r',pl,hz⟩:=I.tuple hq;calc call_tuple_same pl ⟨.ref p,H,I,rfl,q⟩
def tyV (K:Yb) (T:String) (x:V) (H:Hp):Prop:=match x with
 |.str _=>T = "str"
 |.int _=>T = "int"
 |.ref p=>(T = "list" /\ ∃ xs,SqL K H p xs)\/(T = "tuple" /\ ((∃ o,K.lookup p=some o/\o.cls=.type "tuple" /\ o.dict=none) \/ ∃ xs,H p=some (.tup xs))) \/
   (T = "dict" /\ ((∃ kvs,H p=some (.dK kvs)) \/ ∃ kvs,H p=some (.dT kvs)))\/(T = "set" /\ ∃ S n,H p=some (.set S n))
 |_=>False
def Wg {zB:Yd} {Y:St} {H:Hp} {s:Yl} {T:String} {x:V} {v:Yu} (I:Inv X zB Y H s) (r:zf x v) (ty:tyV X.K T x H) :
  s.TypeIs v T /\ ∀ a,v=.ref a -> ∃ ob,s.heap.get? a=some ob/\ob.dict=none:=by
 cases x with
 |str z=>
  let⟨t,rfl⟩:=r;cases (show T = "str" from ty);exact ⟨typeIs_str s z t,λ_ e=>nomatch e⟩
 |int i=>
  let⟨t,rfl⟩:=r;cases (show T = "int" from ty);exact ⟨typeIs_int s i t,λ_ e=>nomatch e⟩
 |ref p=>
  ext r;rcases ty with ⟨rfl,xs,hq⟩|⟨rfl,⟨o,hk,hc,hd⟩|⟨xs,hq⟩⟩|⟨rfl,hk⟩|⟨rfl,S,n,hk⟩
  .obtain ⟨its,_,pl,_⟩:=I.list hq;refine ⟨pl.isList.typeIs,λa e=>?_⟩;ext e;let⟨o,n,e,c,hd,_⟩:=pl;exact ⟨o,e,hd⟩
  .refine ⟨⟨o,I.kIn p o hk,hc⟩,λa e=>?_⟩;ext e;exact ⟨o,I.kIn _ o hk,hd⟩
  .obtain ⟨_,its,_,o,e,c,_,hd⟩:=I.hok p _ hq;refine ⟨⟨o,e,c⟩,λa e2=>?_⟩;ext e2;exact ⟨o,e,hd⟩
  .have z:∃ o,s.heap.get? p=some o/\o.ExactDict:=by
    rcases hk with ⟨kvs,hk⟩|⟨kvs,hk⟩
    .obtain ⟨_,_,_,_,o,_,_,e,ex,_⟩:=I.hok p _ hk;exact ⟨o,e,ex⟩
    .obtain ⟨_,_,_,_,o,_,_,e,ex,_⟩:=I.hok p _ hk;exact ⟨o,e,ex⟩
   let⟨o,e,ex⟩:=z;refine ⟨⟨o,e,ex.1⟩,λa e2=>?_⟩;ext e2;exact ⟨o,e,ex.2.1⟩
  .obtain ⟨o,_,_,_,e,ex,_⟩:=I.hok p _ hk;refine ⟨⟨o,e,ex.1⟩,λa e2=>?_⟩;ext e2;calc ⟨o,e,ex.2.1⟩
 |_=>calc False.elim ty
def tBM (K:Yb) (T:String) (r:V->List V->Hp->VK->Prop) (to:TE) (t:TA):TE:=λY H Q=>to Y H λx H1=>tyV K T x H1/\t Y H1 λxs H2=>r x xs H2 Q
variable {o e:Expr} {es:Yi} {to:TE} {t:TA} {name:Str} {apos cpos:Pos} {T id:String} {r:V->List V->Hp->VK->Prop}
def Kr (pa:PlainAttrs T) (slot:Slot T name id) (hty:typeOf (.builtin id)=pure (.type "method_descriptor")) (hm:MtR X id r) (ho:PE X o to) (ha:PA X (e::es) t)
  (hbase:attributeBase o name X.env (eval o X.env)=eval o X.env:=by rfl)
  (hfew:((backTo cpos (starEach (e::es) X.env)).all (λx=> !x.1)&&(backToKw cpos (keywordEach [] X.env)).all (λx=>x.1.isSome)
   && decide ((e::es).length+([]:List Keyword).length+(if ([]:List Keyword).isEmpty then 0 else 1)<30))=true:=by rfl)
  (hline:(apos.endLine==cpos.line)=true:=by rfl) (hs:starEach (e::es) X.env=(false,eval e X.env)::starEach es X.env:=by rfl) (hplain:(backTo cpos (starEach es X.env)).any (·.1)=false:=by rfl) :
  PE X (.Call (.Attribute o name apos) (e::es) [] cpos) (tBM X.K T r to t):=by
 intro zB s Y H Q I h;refine wpAny_Call_method_late hbase hfew hline rfl (thn (ho zB s Y H _ I h) λv s1 ⟨x,H1,I1,r1,ty,q1⟩=>?_);let⟨h1,h2⟩:=Wg I1 r1 ty;calc ⟨T,id,pa,slot,hty,h1,h2,?_⟩;let hA:=ha cpos zB s1 Y H1 _ I1 q1;rw[hs]at hA ⊢;refine Calls.callWith_builtin (by show (false||(backTo cpos (starEach es X.env)).any (·.1))=false;rw[hplain] <;> rfl) (Calls.evalArgs_plain ?_);calc thn hA λus s2 ⟨vs,H2,I2,r2,q2⟩=>hm zB s2 Y H2 x vs v us Q I2 r1 r2 q2
end
def MtM (X:Cx) (id:String) (r:V->List V->Hp->VK->Prop):Prop :=
 ∀ (zB:Yd) (s:Yl) (Y:St) (H:Hp) (x:V) (xs:List V) (v:Yu) (us:Yf) (Q:VK),Inv X zB Y H s->zf x v->zT xs us->r x xs H Q ->
  wpAny (model X.prog X.w) X.A (call (.builtin id) (v::us)) (EP X zB Y Q) X.xe s
def zT.one:∀ {x:V} {us:Yf},zT [x] us -> ∃ u,us=[u]/\zf x u:=by rintro x _ (_|⟨r,_|_⟩);exact⟨_,rfl,r⟩
def zT.eraseIdx:∀ {xs:List V} {us:Yf} (i:Nat),zT xs us->zT (xs.eraseIdx i) (us.eraseIdx i)
 |_,_,_,.nil=> .nil
 |_,_,0,.cons _ t=>t
 |_,_,i+1,.cons r t=> .cons r (zT.eraseIdx i t)
def zT.reverse {xs:List V} {us:Yf} (h:zT xs us):zT xs.reverse us.reverse:=by
 induction h with
 |nil=>calc .nil
 |cons r t ih=>rw[List.reverse_cons,List.reverse_cons];calc zT.append ih (.cons r .nil)
def zT.rep {xs:List V} {us:Yf} (h:zT xs us):∀ k:Nat,zT (List.replicate k xs).flatten (List.replicate k us).flatten
 |0=> .nil
 |k+1=>by
  rw[Ew,Ew,Fm,Fm];calc zT.append h (zT.rep h k)
theorem Oa {α:Type}:∀ (l:List α) (i:Nat),(l.eraseIdx i).length<=l.length
 |[],_=>AF _
 |_::_,0=>CQ _
 |_::r,i+1=>Nat.succ_le_succ (Oa r i)
theorem MQ (its:Yf):∀ (k:Nat) (acc:Yf),
  List.foldl (λx1 x2=>x1++x2) acc.toArray (List.replicate k its.toArray)=(acc++(List.replicate k its).flatten).toArray
 |0,acc=>by simp
 |k+1,acc=>by
  let e:acc.toArray++its.toArray=(acc++its).toArray:=by simp
  let e2:(acc++its)++(List.replicate k its).flatten=acc++(List.replicate (k+1) its).flatten:=by
   rw[Ew,Fm,CI]
  rw[<-e2,<-MQ its k (acc++its),<-e,Ew,List.foldl_cons]
section
variable {X:Cx} {zB:Yd} {Y:St} {H:Hp} {s:Yl} {l b:Yt} {xs ys zs:List V}
def Inv.lset {its its':Yf} {n:Nat} {f:Array Value->Array Value} {t':Nat} (I:Inv X zB Y H s) (hH:H l=some (.lst xs))
  (e:s.heap.get? l=some { cls:=.type "list", data:=.seq its.toArray n }) (hf:f its.toArray=its'.toArray) (hv:zT ys its') (hz:ys.length<=sizeLine) :
  Inv X zB Y (upd H l (.lst ys)) { s with heap:=s.heap.update l (Obj.mapSeq f),toks:=t' }:=by
 let q:=PySem.IsL.update e f;rw[hf]at q;refine I.write (x:=l) (e:=l) (by rw[hH];calc trivial) (.inl rfl) (λb' u hb hu=>(Cz s.heap (Obj.mapSeq f) (Ne.symm hb)).trans hu) ⟨_,q⟩ ?_;calc ⟨hz,its',_,hv,q⟩
def Inv.lnew {its:Yf} {t':Nat} (I:Inv X zB Y H s) (hv:zT ys its) (hz:ys.length<=sizeLine) :
  Inv X zB Y (upd H ⇑s (.lst ys)) { s with heap:=s.heap.push { cls:=.type "list", data:=.seq its.toArray },toks:=t' } :=
 I.laid (λ_ _ q=>AH _ q) (AF _) ⟨hz,its,0,hv,AL _ rfl⟩
def Inv.fresh (I:Inv X zB Y H s):H ⇑s=none:=I.hok.fresh (AF _)
def Inv.lstM (I:Inv X zB Y H s) (hH:H l=some (.lst xs)):xs.length<=sizeLine /\ ∃ (its:List Value) (n:Nat),zT xs its/\xs.length=its.length/\s.heap.get? l=some { cls:=.type "list", data:=.seq its.toArray n }:=by
 let⟨z,its,n,r,e⟩:=I.hok l _ hH;calc ⟨z,its,n,r,r.length,e⟩
def Ph {n:Nat} (h:n<=sizeLine):Builtin.List.listTooLong n=false:=by
 erw[Builtin.List.listTooLong];calc Al ()
end
section
variable {X:Cx}
def QM:V->List V->Hp->VK->Prop:=λx vs H Q=>∃ l xs y,x=.ref l/\vs=[y]/\H l=some (.lst xs)/\xs.length<sizeLine/\Q .non (upd H l (.lst (xs++[y])))
def Vy:MtM X "list.append" QM:=by
 intro zB s Y H x vs v us Q I rx rv h;let⟨l,xs,y,rfl,rfl,hH,hz,q⟩:=h;ext rx;let⟨u,rfl,ru⟩:=rv.one;let⟨z,its,n,r,hl,e⟩:=I.lstM hH;calc call_meets F.slot_list_append ⟨_,e,rfl⟩ F.entry_list_append (F.args_list_append_2 _ _) (PySem.list_append l its.toArray n u (by rw[AO];omega)) ⟨e,?_⟩;calc ⟨.non,_,I.lset (its':=its++[u]) hH e (by simp) (r.append (.cons ru .nil)) ?_,rfl,q⟩;rw[AV,List.length_singleton];omega
def NI:V->List V->Hp->VK->Prop:=λx vs H Q=>∃ l b xs zs,x=.ref l/\vs=[.ref b]/\H l=some (.lst xs)/\H b=some (.lst zs)/\xs.length+zs.length<=sizeLine/\Q .non (upd H l (.lst (xs++zs)))
def So:MtM X "list.extend" NI:=by
 intro zB s Y H x vs v us Q I rx rv h;let⟨l,b,xs,zs,rfl,rfl,hH,hB,hz,q⟩:=h;ext rx;let⟨u,rfl,ru⟩:=rv.one;ext ru;let⟨z,its,n,r,hl,e⟩:=I.lstM hH;let⟨z2,its2,n2,r2,hl2,e2⟩:=I.lstM hB;let hsz:its.toArray.size+its2.toArray.size<=sizeLine:=by rw[AO,AO];omega
 let hlong:¬ (!its.toArray.isEmpty&&Builtin.List.listTooLong (its.toArray.size+its2.toArray.size))=true:=by
  rw[Ph hsz,Bool.and_false];exact Au
 refine call_meets F.slot_list_extend ⟨_,e,rfl⟩ F.entry_list_extend (F.args_list_extend_2 _ _)
  (AutoSeq1.list_extend_list_list_0 l its.toArray n b its2.toArray n2 hlong (by rw[AO];omega) ()) ⟨e,e2,?_⟩
 calc ⟨.non,_,I.lset (its':=its++its2) hH e (by simp) (r.append r2) ?_,rfl,q⟩;rw[AV];omega
def Nh:V->List V->Hp->VK->Prop:=λx vs H Q=>∃ l xs i k y,x=.ref l/\vs=[.int i]/\H l=some (.lst xs) /\ -(2 ^ 63)<=i/\i<2 ^ 63/\seqIndex? i xs.length=some k/\xs[k]?=some y/\Q y (upd H l (.lst (xs.eraseIdx k)))
def gC:MtM X "list.pop" Nh:=by
 intro zB s Y H x vs v us Q I rx rv h;let⟨l,xs,i,k,y,rfl,rfl,hH,h1,h2,hk,hy,q⟩:=h;ext rx;let⟨u,rfl,ru⟩:=rv.one;let⟨t,rfl⟩:=ru;let⟨z,its,n,r,hl,e⟩:=I.lstM hH;let⟨w,hw,rw'⟩:=r.get hy
 refine call_meets F.slot_list_pop ⟨_,e,rfl⟩ F.entry_list_pop (F.args_list_pop_2 _ _)
  (MeetsSeq.list_pop_at l its.toArray n i t k w (fitsIndex_both h1 h2) (by rw[AO,<-hl];calc hk) (by rw[<-Bo];calc hw) (by rw[AO];omega)) ⟨e,?_⟩
 refine ⟨y,_,I.lset (its':=its.eraseIdx k) hH e ?_ (r.eraseIdx k) ?_,rw',q⟩
 .show its.toArray.eraseIdxIfInBounds k=(its.eraseIdx k).toArray;rw[List.eraseIdxIfInBounds_toArray]
 .have:=Oa xs k;omega
def QH:R2:=λx y H Q=>∃ l b xs zs,x=.ref l/\y=.ref b/\H l=some (.lst xs)/\H b=some (.lst zs)/\xs.length+zs.length<=sizeLine /\ ∀ p,H p=none->Q (.ref p) (upd H p (.lst (xs++zs)))
def Wu:OpR X (binaryOp .Add) QH:=by
 intro zB s Y H x y v u Q I rx ry h;let⟨l,b,xs,zs,rfl,rfl,hH,hB,hz,q⟩:=h;ext rx;ext ry;let⟨z,its,n,r,hl,e⟩:=I.lstM hH;let⟨z2,its2,n2,r2,hl2,e2⟩:=I.lstM hB;calc PySem.P.add_list e e2 ?_ (by rw[AO,AO];omega);let ea:its.toArray++its2.toArray=(its++its2).toArray:=by simp
 rw[ea];calc ⟨.ref _,_,I.lnew (t':=s.toks) (r.append r2) (by rw[AV];omega),rfl,q _ I.fresh⟩
def RM:R2:=λx y H Q=>∃ l k xs,x=.ref l/\y=.int k/\H l=some (.lst xs) /\ -(2 ^ 63)<=k/\k<2 ^ 63/\xs.length*k.toNat<=sizeLine /\
 ∀ p,H p=none->Q (.ref p) (upd H p (.lst (List.replicate k.toNat xs).flatten))
def MR {α:Type} (xs:List α) (k:Nat):(List.replicate k xs).flatten.length=k*xs.length:=by
 induction k with
 |zero=>simp
 |succ k ih=>rw[Ew,Fm,AV,ih,Nat.succ_mul,Nat.add_comm]
def cS:OpR X (binaryOp .Mult) RM:=by
 intro zB s Y H x y v u Q I rx ry h;let⟨l,k,xs,rfl,rfl,hH,h1,h2,hz,q⟩:=h;ext rx;let⟨t,rfl⟩:=ry;let⟨z,its,n,r,hl,e⟩:=I.lstM hH;let hlen:its.toArray.size*k.toNat<=sizeLine:=by rw[AO,<-hl];exact hz
 let hcap:¬ its.toArray.size*k.toNat>(2 ^ 63-1) / 8:=by
  have:(sizeLine:Nat)<=(2 ^ 63-1) / 8:=()
  omega
 let hfit:¬ (!Builtin.List.listFitsIndex k)=true:=by
  rw[fitsIndex_both h1 h2];exact Au
 let hlong:¬ Builtin.List.listTooLong (its.toArray.size*k.toNat)=true:=by
  rw[Ph hlen];exact Au
 let hnew:List.foldl (λx1 x2=>x1++x2) #[] (List.replicate (if its.toArray.isEmpty=true then 0 else k.toNat) its.toArray)=(List.replicate k.toNat its).flatten.toArray:=by
  let f0:∀ m:Nat,List.foldl (λx1 x2=>x1++x2) #[] (List.replicate m its.toArray)=(List.replicate m its).flatten.toArray:=λm=>by
   have:=MQ its m [];rw[List.nil_append]at this;exact this
  rw[f0];cases its with
  |nil=>simp
  |cons a r'=>rw[AE (by simp)]
 refine wpAny_binaryOp_repeat_ref (T := "list") (U := "int") () ⟨_,e,rfl⟩ (λs'=>typeIs_int s' k t) noFill_list_mul F.fills_int_mul F.slot_int_rmul repeat_list F.slot_int_index.lookup
  (call_meets F.slot_int_rmul (typeIs_int s k t) F.entry_int_rmul (F.args_int_rmul_2 _ _) (int___rmul___int_list k t l its.toArray n)
   ⟨e,rfl,⟨_,e,rfl⟩,call_meets F.slot_list_mul ⟨_,e,rfl⟩ F.entry_list_mul (F.args_list_mul_2 _ _) (AutoListH.list___mul___list_int_3 l its.toArray n k t hfit hcap hlong) ⟨e,?_⟩⟩)
 rw[hnew];calc ⟨.ref _,_,I.lnew (t':=s.toks) (r.rep k.toNat) (by rw[MR,Nat.mul_comm];calc hz),rfl,q _ I.fresh⟩
end
end L2
namespace Att
open PySem PySem.W PySem.Calls PyProof.Rows
def bB {P:Params} {h:Heap}:∀ (ns:Ye) (vs:Yf),WellAll P h vs (ns.map WData.int)->IntsAre vs ns:=by
 intro ns;induction ns with
 |nil=>
  intro vs w;rw[List.map_nil]at w;ext w;calc .nil
 |cons n ns ih=>
  intro vs w;rw[Ag]at w;cases w with
  |cons a b=>
   ext a;calc .cons _ _ (ih _ b)
def Rm {l:OpenLaw} {n:Nat} (hn:l.most=some n) {P:Params} {h:Heap} {args:List WData} {vals:Yf}
  (hpre:l.row.toRowW.claim.pre args=true) (hwl:WellAll P h vals args) :
  ∃ a vs ns,vals=[Value.ref a]/\args=[WData.list (ns.map WData.int)]/\h.get? a=some { cls:=.type "list", data:=.seq vs.toArray }/\IntsAre vs ns/\ns.length<=n:=by
 let hsh:WShape.hasAll [] args [.list .int]=true:=(pre_splitW hpre).1;let hc:l.pre.holds [] { args:=args }=true:=(pre_splitW hpre).2;let⟨d,r,rfl,h1,h2⟩:=hasAllW_cons hsh;obtain rfl:=hasAllW_nil h2;let⟨xs,rfl,h3⟩:=hasW_list h1;let⟨ns,rfl⟩:=items_int h3;let hlen:ns.length<=n:=by
  erw[OpenLaw.pre]at hc;let h4:(WTm.not (.lt (.lit (.int (n:Int))) (.len (.arg 0)))).holds [] { args:=[.list (ns.map .int)] }=true:=by
   let h4:=(holds_andW hc).1;rw[hn]at h4;exact h4
  let h5:=condW_of h4 (w_not (w_lt w_lit (w_len_list (w_arg rfl))));rw[AG]at h5;refine Nat.le_of_not_lt λq=>?_;let q':(n:Int)<((ns.length:Nat):Int):=()
  first
   | (rw[BB q']at h5;calc absurd h5 ())
   | (simp at h5;omega)
 cases hwl with
 |cons w1 w2=>
  ext w2;cases w1 with
  |list ho hall=>calc ⟨_,_,ns,rfl,rfl,ho,bB ns _ hall,hlen⟩
def bC (l:OpenLaw) (args:List WData):l.row.toRowW.claim.post args (.bool true) args=true :=
 postW_of (r:=l.row.toRowW) (X:=(true==true))
  (show WShape.has [] (.bool true) .bool=true by first|rfl|decide|simp[WShape.has,WShape.arms,WShape.armsAll])
  (show (WTm.eq .res (.lit (.bool true))).value [] { args:=args,res:=some (.bool true),after:=args }=some (.bool (true==true))from w_eq_bool (w_res rfl) w_lit) rfl
def iY {l:OpenLaw} {n:Nat} {q:Ym} {loose:Yk} {XP:(Str->Option Value)->Heap->Prop} {YP:World->Heap->Prop} {d:DefRec}
  (hn:l.most=some n) (hdf:d.params.defaults=[])
  (call:∀ (w:Yo) (s₀ s₁:Yl) (mg mb:Yh) (fa:Yt) (o:Obj) (pm cd doc:Yu) (a:Yt) (vs:Yf) (ns:Ye),
   Ground q loose [] XP w s₀ mg mb s₁.heap->YP w s₁.heap ->
   s₁.heap.get? fa=some o->o.data=.func (docDef d.name d.params d.body d.scope pm cd doc)->s₁.heap.CodeRec cd d.name->mg d.name=some (.ref fa) ->
   s₁.heap.get? a=some { cls:=.type "list", data:=.seq vs.toArray }->IntsAre vs ns->ns.length<=n->s₁.gens = #[] ->
   codeAny (model l.prog w) callerA (.call (.ref fa) ⟨[.ref a],[]⟩) (λr s'=>r=.ok (.ret (.bool true))/\OldK s₁.heap s'.heap/\s'.os=s₁.os/\AllBare s'.gens) s₁) :
  WalkO q loose XP YP l.row.toRowW d [] (λf vs=>PySem.call f vs):=by
 intro w s₀ s₁ mg mb G YY fa o pm cd doc dV kV ho hd hcd hD hmg hg args vals as hpre hlay hrd hwl hlo;obtain rfl:dV=.none:=Dflts.none hD hdf;obtain rfl:kV=.none:=Dflts.noKw hD;let⟨a,vs,ns,rfl,rfl,hobj,hints,hlen⟩:=Rm hn hpre hwl;refine enter_call (codeAny_mono (call w s₀ s₁ mg mb fa o pm cd doc a vs ns G YY ho (fd_plain hd) hcd hmg hobj hints hlen hg) λr s' hq=>?_);let⟨rfl,h2,h3,h4⟩:=hq;calc ⟨.inl ⟨.bool true,.bool true,[],rfl,λ_=>rfl,.bool true,bC l _,λ_=>⟨List.Pairwise.nil,λ_ hm=>(nomatch hm)⟩⟩,h2,h3,h4⟩
end Att
namespace L2
theorem OY:∀ {vs:Yf} {ns:Ye},IntsAre vs ns->zT (ns.map V.int) vs
 |_,_,.nil=> .nil
 |_,_,.cons n t h=> .cons ⟨t,rfl⟩ (OY h)
def Jr (H:Hp):Prop:=∀ b,H b=none \/ ∃ o xs,H b=some (.frz o (.lst xs))
def fX {P:Ym} {w:Yo} {K:Yb} {mg mb:Yh} {CX:CXT} {k:Nat} {fa a:Yt} {fd:Yz} {x:Str} {sp:Sp} {s₁:Yl} {vs:Yf} {ns:Ye}
  (KX:K.In s₁.heap) (hns:s₁.heap.Ns mainGlobals mg) (hb:s₁.heap.Ns builtinsNs mb) (hbb:∀ x:Str,x ≠ "__name__" -> mb x=bootBuiltins x) (hlim:s₁.heap.NoLimit) (hbm:BMn mg s₁.heap) (hg:s₁.gens = #[])
  (ha:s₁.heap.get? a=some { cls:=.type "list", data:=.seq vs.toArray }) (hi:IntsAre vs ns) (hl:ns.length<=sizeLine) (hr:Room k callerA)
  (F:∀ base:Heap,K.In base->base.Ns mainGlobals mg->FnOk P w K mg base CX k fa fd [x] sp) (hbind:∀ (s:Yl) (u:Yu),BindsTo s fd ⟨[u],[]⟩ [(x,u)])
  (hsp:∀ H:Hp,Jr H->SqL K H a (ns.map V.int)->sp [.ref a] H (λv _=>v=.bl true) λ_ _ _=>False)
  (hCX:∀ H e s',CX [] H s₁ (λ_ _ _=>False) e s'->False) :
  codeAny (model P w) callerA (.call (.ref fa) ⟨[.ref a],[]⟩) (λr s'=>r=.ok (.ret (.bool true))/\OldK s₁.heap s'.heap/\s'.os=s₁.os/\AllBare s'.gens) s₁:=by
 let rv:=OY hi;let lenV:=hi.length
 let core:∀ H:Hp,Jr H->SqL K H a (ns.map V.int)->HOk P w H s₁.heap->(∀ b,H b≠none->b=a)->(H a≠none->K.lookup a=none) ->
   codeAny (model P w) callerA (.call (.ref fa) ⟨[.ref a],[]⟩) (λr s'=>r=.ok (.ret (.bool true))/\OldK s₁.heap s'.heap/\s'.os=s₁.os/\AllBare s'.gens) s₁:=by
  intro H hO hS hok hA hK;let base_of:∀ {b:Yt} {o:Obj},s₁.heap.get? b=some o->H b=none->(D3 s₁.heap H).get? b=some o:=λe n=>iE e n;let noA:∀ {b:Yt} {o:Obj} {es:Array DictEntry} {ep:Nat},s₁.heap.get? b=some o->o.data=.dict es ep->H b=none:=λ{b o es ep} e d=>by
   cases q:H b with
   |none=>rfl
   |some u=>
    let e':b=a:=hA b (by rw[q];simp);subst e';rw[ha]at e;ext e;let d':Data.seq vs.toArray _=Data.dict es ep:=d;ext d'
  let nsK:∀ {b:Yt} {m:Yh},s₁.heap.Ns b m->(D3 s₁.heap H).Ns b m:=λ{b m} ⟨o,es,ep,e,d,r⟩=>⟨o,es,ep,base_of e (noA e d),d,r⟩;let hKb:K.In (D3 s₁.heap H):=λb o e=>base_of (KX b o e) (by
   cases q:H b with
   |none=>rfl
   |some u=>
    let e':b=a:=hA b (by rw[q];simp);subst e';rw[hK (by rw[q];simp)]at e;ext e)
  let bmK:BMn mg (D3 s₁.heap H):=by
   let⟨bm,ob,b1,b2,b3,b4⟩:=hbm;calc ⟨bm,ob,b1,b2,base_of b3 ?_,b4⟩;cases q:H bm with
   |none=>rfl
   |some u=>
    let e':bm=a:=hA bm (by rw[q];simp);subst e';rw[ha]at b3;ext b3;cases b4.2.2
  let hM:Mod K mg (D3 s₁.heap H):=⟨hKb,nsK hns,⟨mb,nsK hb,hbb⟩,let ⟨mc,h1,h2⟩:=hlim;⟨mc,nsK h1,h2⟩,bmK⟩;let e0:Env0 P w K mg (D3 s₁.heap H) callerA [] s₁ H:=⟨rfl,hM,λb o e=>Tc e,Nat.le_of_eq (Vz _ _),trivial,λb hb=>absurd (show b∈([]:List Addr)from hb) (by simp),hok,.of_eq hg⟩;refine codeAny_mono ((F _ hKb (nsK hns)).run callerA [] s₁ H ⟨[.ref a],[]⟩ [.ref a] [.ref a] _ _ hr e0 (hbind s₁ (.ref a)) (.cons rfl .nil) (hsp H hO hS)) λr s' h=>?_;cases r with
  |error e=>calc (hCX H e s' h).elim
  |ok fl=>
   cases fl with
   |next=>calc False.elim h
   |brk=>calc False.elim h
   |cont=>calc False.elim h
   |ret u=>
    let⟨v,H',os,bare,un,hok',r',q⟩:=h;let q':v=.bl true:=q;subst q';obtain rfl:u=Value.bool true:=r';refine ⟨rfl,OldK.of_keep λb o e=>?_,os,bare⟩;cases q:H b with
    |none=>calc un.keep b o e q (by intro z;calc absurd (show b∈([]:List Addr)from z) (by simp)) (by simp)
    |some u=>
     rcases hO b with z|⟨ob,xs,z⟩
     .rw[q]at z;ext z
     .have z2:=un.frzs b ob _ z;let⟨e1,_⟩:=hok b _ z;let⟨e2,_⟩:=hok' b _ z2;rw[e]at e1;ext e1;exact e2
 cases hk:K.lookup a with
 |some o=>
  let e:=KX a o hk;rw[ha]at e;ext e;refine core (λ_=>none) (λ_=> .inl rfl) (.inr ⟨_,vs.toArray,_,hk,rfl,rfl,rfl,by rw[AO,lenV];calc hl,by simpa using rv⟩) (λb u z=>by have z':(none:Option HO)=some u:=z;ext z') (λb z=>absurd rfl z) λz=>absurd rfl z
 |none=>
  refine core (λb=>if b=a then some (.frz { cls:=.type "list", data:=.seq vs.toArray } (.lst (ns.map V.int))) else none) (λb=>?_) (.inl (.inr ⟨{ cls:=.type "list", data:=.seq vs.toArray },AD rfl⟩)) (λb u z=>?_) (λb z=>?_) λ_=>hk
  .by_cases hb:b=a
   .exact .inr ⟨_,_,AD hb⟩
   .exact .inl (AE hb)
  .by_cases hb:b=a
   .have z':=(AD hb).symm.trans z;ext z';subst hb;exact ⟨ha,by rw[AG];calc hl,vs,_,rv,ha⟩
   .have z':=(AE hb).symm.trans z;ext z'
  .by_cases hb:b=a
   .exact hb
   .exact absurd (AE hb) z
def ZU {l:PySem.W.OpenLaw} {n k:Nat} {q:Ym} {loose:Yk} {XP:(Str->Option Value)->Heap->Prop} {YP:World->Heap->Prop} {d:DefRec} {K:Params->PySem.W.Frag} {CX:World->CXT} {sp:World->Sp} {x:Str}
  (hn:l.most=some n) (hn2:n<=sizeLine) (hdf:d.params.defaults=[]) (hr:Room k callerA)
  (hY:∀ (w:Yo) (h:Heap),YP w h->(K w.params).In h)
  (F:∀ (w:Yo) (mg:Yh) (fa:Yt) (h:Heap),(K w.params).In h->h.Ns mainGlobals mg->mg d.name=some (.ref fa) ->
   ∃ fd:FuncData,(∀ (s:Yl) (u:Yu),BindsTo s fd ⟨[u],[]⟩ [(x,u)]) /\
    ∀ base:Heap,(K w.params).In base->base.Ns mainGlobals mg->FnOk l.prog w (K w.params) mg base (CX w) k fa fd [x] (sp w))
  (hsp:∀ (w:Yo) (H:Hp) (a:Yt) (ns:Ye),ns.length<=n->Jr H->SqL (K w.params) H a (ns.map V.int)->sp w [.ref a] H (λv _=>v=.bl true) λ_ _ _=>False)
  (hCX:∀ (w:Yo) (H:Hp) (s:Yl) (e:Yu) (s':Yl),CX w [] H s (λ_ _ _=>False) e s'->False) :
  PySem.W.WalkO q loose XP YP l.row.toRowW d [] (λf vs=>PySem.call f vs):=by
 refine Att.iY hn hdf λw s₀ s₁ mg mb fa o pm cd doc a vs ns G YY ho hd hcd hmg hobj hints hlen hg=>?_;let KX:=hY w _ YY;let⟨fd,hb,hF⟩:=F w mg fa _ KX G.T.g hmg;calc fX KX G.T.g G.T.b G.T.builtins G.T.nolimit G.T.bmain hg hobj hints (Ao hlen hn2) hr hF hb (λH hO hS=>hsp w H a ns hlen hO hS) λH e s'=>hCX w H s₁ e s'
def G9 (s:Stmt):Arguments:=match s with
 |.FunctionDef _ a _ _ _ _ _ _ _ _=>a
 |_=>{ posonlyargs:=[],args:=[],vararg:=none,kwonlyargs:=[],kw_defaults:=[],kwarg:=none,defaults:=[] }
def Fo (s:Stmt):List Stmt:=match s with
 |.FunctionDef _ _ b _ _ _ _ _ _ _=>b
 |_=>[]
def zV (s:Stmt):Scope:=match s with
 |.FunctionDef _ _ _ _ _ _ sc _ _ _=>sc
 |_=>{ kind:=.function,names:=[],isGenerator:=false,isCoroutine:=false }
abbrev CX0:CXT:=λ_ _ _ _ _ _=>False
abbrev E0:XK:=λ_ _ _=>False
def T8 {X:Cx}:Kf CX0 X E0:=λ_ _ _ _ _ _ _ h=>h.elim
structure Fun (K:Yb) (x qual:Str) (st:Stmt) (f:Yt) (fd:Yz):Prop where
 ex:∃ (oc:Yu) (od:Option Addr) (kV doc pm:Yu) (an:Option Addr) (cdv ct:Yu) (osl:Array (Option Value)),
  fd=PySem.W.fnOf x qual (G9 st) (Fo st) (zV st) .none kV doc pm an cdv ct/\K.lookup f=some ⟨oc,od,.func fd,osl⟩/\PySem.W.codeIn K cdv qual=true
 kp:PySem.W.keepIn K (.ref f)=true
section
variable {P:Ym} {w:Yo} {K:Yb} {mg:Yh} {base:Heap}
def Fun.ok {x qual:Str} {st:Stmt} {f:Yt} {fd:Yz} {N ps:Yk} {k:Nat} {sp:Sp} (F:Fun K x qual st f fd) (S:FnScope N ps (zV st)) (len:∀ vs H Q E,sp vs H Q E->vs.length=ps.length)
  (hbody:∀ (cdv:Yu) (A:Yn) (outer:List Env) (s:Yl) (H:Hp) (vs:List V) (Q:VK) (E:XK),Room k (A.deeper (envOfC qual (zV st) ⇑s f cdv))->sp vs H Q E ->
   ∃ t,PSs (GU CX0 P w K mg base N qual (zV st) f cdv A outer s H E).nox (Fo st) t/\t { nx:=λ_ H'=>Q .non H',rt:=Q } (start N vs) H):FnOk P w K mg base CX0 (k+1) f fd ps sp:=by
 let⟨oc,od,kV,doc,pm,an,cdv,ct,osl,rfl,lk,hcd⟩:=F.ex;refine cE lk hcd S len λA outer s H vs Q E hr hsp=>?_;let⟨t,h,q⟩:=hbody cdv A outer s H vs Q E hr hsp;calc ⟨t,h.nox,q⟩
def Fun.binds {x qual:Str} {st:Stmt} {f:Yt} {fd:Yz} {ps:Yk} (F:Fun K x qual st f fd)
  (h:∀ (kV doc pm:Yu) (an:Option Addr) (cdv ct:Yu) (us:Yf),us.length=ps.length->bindArgs (PySem.W.fnOf x qual (G9 st) (Fo st) (zV st) .none kV doc pm an cdv ct) ⟨us,[]⟩=pure (ps.zip us)):GF K fd ps []:=by
 let⟨oc,od,kV,doc,pm,an,cdv,ct,osl,rfl,lk,hcd⟩:=F.ex;calc .all (h kV doc pm an cdv ct)
def OP {x qual:Str} {st:Stmt} {f:Yt} {oc:Yu} {od an:Option Addr} {osl:Array (Option Value)} {kV doc pm cdv ct:Yu} (l:K.lookup f=some ⟨oc,od,.func (PySem.W.fnOf x qual (G9 st) (Fo st) (zV st) .none kV doc pm an cdv ct),osl⟩)
  (c:PySem.W.codeIn K cdv qual=true) (k:PySem.W.keepIn K (.ref f)=true):Fun K x qual st f (PySem.W.fnOf x qual (G9 st) (Fo st) (zV st) .none kV doc pm an cdv ct):=⟨⟨oc,od,kV,doc,pm,an,cdv,ct,osl,rfl,l,c⟩,k⟩
end
def J8 {A:Yn} {k:Nat} (hr:Room k A):A.units+1<cLine:=En (Nat.add_le_add_left (by decide:1<=64) _) hr.units
section
variable {X:Cx}
def pv (i:Nat) {x:Str} {pos:Pos} (hN:X.N[i]?=some x:=by rfl) (hv:Vis X.env.scope x:=by first|exact Or.inl rfl|exact Or.inr (Or.inl rfl)|exact Or.inr (Or.inr rfl)) (hd:(x==("__debug__" : Str))=false:=by decide)
  (hcd:(x==("__classdict__" : Str))=false:=by decide):PE X (.Name x pos) (Ld i):=Ul hN hv hd hcd
end
def EG {A B:Prop} (h:B):if false=true then A else B:=by
 rw[AE Au];calc h
def EC {A B:Prop} (h:A):if true=true then A else B:=by
 rw[AD rfl];calc h
section
variable {κ:Type} [DecidableEq κ]
def B7 (kvs:List (κ × V)) (k:κ):Option V:=(kvs.find? λkv=>decide (kv.1=k)).map (·.2)
def Be (kvs:List (κ × V)) (k:κ) (v:V):List (κ × V) :=
 if (kvs.any λkv=>decide (kv.1=k))=true then kvs.map (λkv=>if kv.1=k then (kv.1,v) else kv) else kvs++[(k,v)]
def KA {p:κ × V} {r:List (κ × V)} {k:κ} (e:p.1=k):B7 (p::r) k=some p.2:=by simp[B7,EZ,e]
def JX {p:κ × V} {r:List (κ × V)} {k:κ} (e:¬ p.1=k):B7 (p::r) k=B7 r k:=by simp[B7,EZ,e]
theorem OT (k:κ):∀ kvs:List (κ × V),(kvs.any λkv=>decide (kv.1=k))=(B7 kvs k).isSome
 |[]=>rfl
 |p::r=>by
  rw[List.any_cons];by_cases e:p.1=k
  .simp only[KA e,BB e,Bool.true_or,Option.isSome_some]
  .rw[JX e,Al e,Bool.false_or];calc OT k r
def IG (kvs:List (κ × V)) (k:κ) (v:V):(Be kvs k v).length<=kvs.length+1:=by
 erw[Be];split
 .rw[AG];omega
 .rw[AV,C0,DY];omega
def Dp.isSome_eq (r:Dp o u):o.isSome=u.isSome:=by
 cases o with
 |none=>cases u with
  |none=>rfl
  |some _=>calc (show False from r).elim
 |some _=>cases u with
  |none=>calc (show False from r).elim
  |some _=>rfl
def KV.val {kvs:List (κ × V)} {vs:List (κ × Value)} (r:KV kvs vs) (k:κ):Dp (B7 kvs k) (valueAt vs k):=by
 erw[KV]at r;induction r with
 |nil=>calc True.intro
 | @cons p q ps qs h t ih=>
  let⟨h1,h2⟩:=h;by_cases e:p.1=k
  .have e':q.1=k:=h1.symm.trans e;let b:valueAt (q::qs) k=some q.2:=by simp[valueAt,EZ,e']
   rw[KA e,b];exact h2
  .have e':¬ q.1=k:=λz=>e (h1.trans z);let b:valueAt (q::qs) k=valueAt qs k:=by simp[valueAt,EZ,e']
   rw[JX e,b];calc ih
def KV.any (r:KV kvs vs) (k:κ):(kvs.any λkv=>decide (kv.1=k))=vs.any λkv=>decide (kv.1=k):=by
 erw[KV]at r;induction r with
 |nil=>rfl
 |cons h t ih=>rw[List.any_cons,List.any_cons,ih,h.1]
def KV.repl (r:KV kvs vs) (k:κ) (ry:zf y u) :
  KV (kvs.map λkv=>if kv.1=k then (kv.1,y) else kv) (vs.map λkv=>if kv.1=k then (kv.1,u) else kv):=by
 unfold KV at r ⊢;induction r with
 |nil=>calc .nil
 | @cons p q ps qs h t ih=>
  rw[Ag,Ag];calc .cons ?_ ih;let⟨h1,h2⟩:=h;by_cases e:p.1=k
  .rw[AD e,AD (h1.symm.trans e)];exact ⟨h1,ry⟩
  .rw[AE e,AE (λz=>e (h1.trans z))];calc ⟨h1,h2⟩
def KV.put (r:KV kvs vs) (k:κ) (ry:zf y u):KV (Be kvs k y) (stored vs k u):=by
 erw[Be,stored];rw[r.any k];by_cases e:(vs.any λkv=>decide (kv.1=k))=true
 .rw[AD e,AD e];exact r.repl k ry
 .rw[AE e,AE e];calc Paired.snoc r ⟨rfl,ry⟩
def KV.length (r:KV kvs vs):kvs.length=vs.length:=Paired.length r
end
def F3 (r:zf (kV k) u):(B8 P w).is k u=true:=by
 cases k with
 |inl i=>let⟨t,e⟩:=(show ∃ t,u=Value.int i t from r);subst e;calc UB P w i t
 |inr x=>let⟨t,e⟩:=(show ∃ t,u=Value.str x t from r);subst e;calc X1 P w x t
theorem OA:∀ {ks:List Key} {us:Yf},zT (ks.map kV) us->ItemsAre (B8 P w) ks us
 |[],_,r=>by rw[List.map_nil]at r;ext r;calc .nil
 |k::ks,_,r=>by
  rw[Ag]at r;cases r with
  |cons h t=>calc .cons (F3 h) (OA t)
abbrev KT (H:Hp):List (List Key × V)->List (List Key × Addr × Value)->Prop:=Paired λp q=>p.1=q.1/\H q.2.1=some (.tup (p.1.map kV))/\zf p.2 q.2.2
def KT.val {H:Hp} {kvs:List (List Key × V)} {xs:List (List Key × Addr × Value)} (r:KT H kvs xs) (k:List Key):Dp (B7 kvs k) ((atKey xs k).map (·.2)):=by
 induction r with
 |nil=>calc True.intro
 | @cons p q ps qs h t ih=>
  let⟨h1,_,h2⟩:=h;by_cases e:p.1=k
  .have e':q.1=k:=h1.symm.trans e;let b:atKey (q::qs) k=some q.2:=by simp[atKey,EZ,e']
   rw[KA e,b];exact h2
  .have e':¬ q.1=k:=λz=>e (h1.trans z);let b:atKey (q::qs) k=atKey qs k:=by simp[atKey,EZ,e']
   rw[JX e,b];calc ih
def KT.repl (r:KT H kvs xs) (k:List Key) (ry:zf y u) :
  KT H (kvs.map λkv=>if kv.1=k then (kv.1,y) else kv) (xs.map (putAt k u)):=by
 induction r with
 |nil=>calc .nil
 | @cons p q ps qs h t ih=>
  rw[Ag,Ag];calc .cons ?_ ih;let⟨h1,h2,h3⟩:=h;erw[putAt];by_cases e:p.1=k
  .rw[AD e,AD (h1.symm.trans e)];exact ⟨h1,h2,ry⟩
  .rw[AE e,AE (λz=>e (h1.trans z))];calc ⟨h1,h2,h3⟩
def KT.put (r:KT H kvs xs) (k:List Key) (hb:H b=some (.tup (k.map kV))) (ry:zf y u) :
  KT H (Be kvs k y) (storedH xs k b u):=by
 let e:(kvs.any λkv=>decide (kv.1=k))=(atKey xs k).isSome:=by
  rw[OT,(r.val k).isSome_eq,Option.isSome_map]
 erw[Be,storedH];rw[e];by_cases q:(atKey xs k).isSome=true
 .rw[AD q,AD q];exact r.repl k ry
 .rw[AE q,AE q];calc Paired.snoc r ⟨rfl,hb,ry⟩
def KT.keeps (r:KT H kvs xs) (ht:∀ b ys,H b=some (.tup ys)->H' b=some (.tup ys)):KT H' kvs xs :=
 Paired.mapP r λ_ _ z=>⟨z.1,ht _ _ z.2.1,z.2.2⟩
section
variable {P:Ym} {w:Yo} {H:Hp} {h:Heap} {a:Yt}
def Po (ok:HOk P w H h) (e:Rd H a u):Am P w H h a u:=e.ok ok
def G2 (ok:HOk P w H h) (e:Rd H a (.dK kvs)):kvs.length<=sizeLine/\(a==sysModules)=false /\ ∃ vs,KV kvs vs/\h.DictOf (B8 P w) a vs :=
 show Am P w H h a (.dK kvs)from Po ok e
def ME (ok:HOk P w H h) (e:H a=some (.dK kvs)):kvs.length<=sizeLine/\(a==sysModules)=false /\ ∃ vs,KV kvs vs/\h.DictOf (B8 P w) a vs:=G2 ok (.inl e)
def Gb (ok:HOk P w H h) (e:H a=some (.tup (ks.map kV))):(tupleKind (B8 P w)).is h ks a:=by
 let⟨_,its,r,o,h1,h2,⟨n,h3⟩,_⟩:=(show Am P w H h a (.tup (ks.map kV))from ok a _ e);calc ⟨o,its.toArray,n,h1,h2,h3,by simpa using OA r⟩
def Gr (ok:HOk P w H h) (e:Rd H a (.dT kvs)):kvs.length<=sizeLine/\(a==sysModules)=false /\
  ∃ xs,KT H kvs xs/\h.DictOfH (tupleKind (B8 P w)) a xs:=by
 let⟨z,y,xs,r,o,es,ep,h1,h2,h3,h4,h5⟩:=(show Am P w H h a (.dT kvs)from Po ok e);refine ⟨z,y,xs,r,o,es,ep,h1,h2,h3,h4,λx hx=>?_,h5⟩;let all:∀ {l:List (List Key × V)} {m:List (List Key × Addr × Value)},KT H l m -> ∀ x∈m,(tupleKind (B8 P w)).is h x.1 x.2.1:=by
  intro l m q;induction q with
  |nil=>intro x hx;calc nomatch hx
  | @cons p q ps qs hq t ih=>
   intro x hx;rcases AJ.mp hx with e|hx
   .subst e;exact Gb ok (by rw[<-hq.1];calc hq.2.1)
   .exact ih x hx
 calc all r x hx
def Qv (ok:HOk P w H h) (e:H a=some (.dT kvs)):kvs.length<=sizeLine/\(a==sysModules)=false /\
  ∃ xs,KT H kvs xs/\h.DictOfH (tupleKind (B8 P w)) a xs:=Gr ok (.inl e)
end
def CD (H:Hp) (a:Yt) (y:V) (r:Option V):Prop :=
 (∃ kvs k,Rd H a (.dK kvs)/\y=kV k/\r=B7 kvs k) \/ ∃ kvs k b,Rd H a (.dT kvs)/\y=.ref b/\H b=some (.tup (k.map kV))/\r=B7 kvs k
def Cy (H:Hp) (a:Yt) (y v:V) (H':Hp):Prop :=
 (∃ kvs k,H a=some (.dK kvs)/\y=kV k/\kvs.length<sizeLine/\H'=upd H a (.dK (Be kvs k v))) \/
 ∃ kvs k b,H a=some (.dT kvs)/\y=.ref b/\H b=some (.tup (k.map kV))/\kvs.length<sizeLine/\H'=upd H a (.dT (Be kvs k v))
theorem CD.k {H:Hp} {a:Yt} {kvs:List (Key × V)} {k:Key} (e:H a=some (.dK kvs)):CD H a (kV k) (B7 kvs k):=.inl ⟨kvs,k,.inl e,rfl,rfl⟩
def CD.t {k:List Key} (e:H a=some (.dT kvs)) (eb:H b=some (.tup (k.map kV))):CD H a (.ref b) (B7 kvs k):=.inr ⟨kvs,k,b,.inl e,rfl,eb,rfl⟩
theorem Cy.k {H:Hp} {a:Yt} {kvs:List (Key × V)} {k:Key} {v:V} (e:H a=some (.dK kvs)) (hl:kvs.length<sizeLine):Cy H a (kV k) v (upd H a (.dK (Be kvs k v))):=.inl ⟨kvs,k,e,rfl,hl,rfl⟩
def Cy.t {kvs:List (List Key × V)} {k:List Key} (e:H a=some (.dT kvs)) (eb:H b=some (.tup (k.map kV))) (hl:kvs.length<sizeLine) :
  Cy H a (.ref b) v (upd H a (.dT (Be kvs k v))):=.inr ⟨kvs,k,b,e,rfl,eb,hl,rfl⟩
section
variable {X:Cx} {zB:Yd} {Y:St} {H:Hp} {s:Yl} {a:Yt} {y v:V} {u r:Yu} {o:Option V} {A:Yn} {E:Yc}
def Inv.big (I:Inv X zB Y H s):sysModules<⇑s:=by
 let h:mainGlobals<⇑s:=(I.mod.glob.keeps I.bk).lt;calc Nat.lt_trans () h
def fP (hu:A.units+1<cLine) (I:Inv X zB Y H s) (g:CD H a y (some v)) (ry:zf y u) (h:∀ w' s',Inv X zB Y H s'->zf v w'->Q w' s') :
  wpAny (model X.prog X.w) A (getItem (.ref a) u) Q E s:=by
 rcases g with ⟨kvs,k,e,ey,l⟩|⟨kvs,k,b,e,ey,eb,l⟩
 .subst ey;let⟨z,hd,vs,rel,dd⟩:=G2 I.hok e;let⟨w',hw,rw'⟩:=Dp.some_of (by rw[l];calc rel.val k);exact wpAny_getItem_of (F3 ry) dd.mapOf hw (h w' _ (I.tok _) rw')
 .subst ey;cases (show u=Value.ref b from ry);let⟨z,hd,xs,rel,dd⟩:=Gr I.hok e;let⟨w',hw,rw'⟩:=Dp.some_of (by rw[l];calc rel.val k);let⟨p,hp,hp2⟩:=Option.map_eq_some_iff.mp hw;calc wpAny_getItem_heap (tupleKind_room_in1 hu) (Gb I.hok eb) dd hp ?_;rw[hp2];calc h w' _ (I.tok _) rw'
def SS (hu:A.units+1<cLine) (I:Inv X zB Y H s) (g:CD H a y o) (ry:zf y u) (h:∀ s',Inv X zB Y H s'->Q (.bool o.isSome) s') :
  wpAny (model X.prog X.w) A (compareOp .In u (.ref a)) Q E s:=by
 rcases g with ⟨kvs,k,e,ey,l⟩|⟨kvs,k,b,e,ey,eb,l⟩
 .subst ey;let⟨z,hd,vs,rel,dd⟩:=G2 I.hok e;calc wpAny_in_of (F3 ry) hd dd.mapOf ?_;rw[<-(rel.val k).isSome_eq,<-l];exact h _ (I.tok _)
 .subst ey;cases (show u=Value.ref b from ry);let⟨z,hd,xs,rel,dd⟩:=Gr I.hok e;calc wpAny_in_heap (tupleKind_room_in1 hu) (Gb I.hok eb) hd dd ?_;let q:=(rel.val k).isSome_eq;rw[Option.isSome_map]at q;rw[<-q,<-l];calc h _ (I.tok _)
def UG (hu:A.units+1<cLine) (I:Inv X zB Y H s) (g:CD H a y o) (ry:zf y u) (h:∀ s',Inv X zB Y H s'->Q (.bool (!o.isSome)) s') :
  wpAny (model X.prog X.w) A (compareOp .NotIn u (.ref a)) Q E s:=by
 rcases g with ⟨kvs,k,e,ey,l⟩|⟨kvs,k,b,e,ey,eb,l⟩
 .subst ey;let⟨z,hd,vs,rel,dd⟩:=G2 I.hok e;calc wpAny_notIn_of (F3 ry) hd dd.mapOf ?_;rw[<-(rel.val k).isSome_eq,<-l];exact h _ (I.tok _)
 .subst ey;cases (show u=Value.ref b from ry);let⟨z,hd,xs,rel,dd⟩:=Gr I.hok e;calc wpAny_notIn_heap (tupleKind_room_in1 hu) (Gb I.hok eb) hd dd ?_;let q:=(rel.val k).isSome_eq;rw[Option.isSome_map]at q;rw[<-q,<-l];calc h _ (I.tok _)
def Gx (I:Inv X zB Y H s) (mu:Mut (H a)) (hs:Heap.SameBut a s.heap h') (he:∃ q,h'.get? a=some q) (new:Am X.prog X.w (upd H a ob) h' a ob) :
  Inv X zB Y (upd H a ob) { s with heap:=h',toks:=t' } :=
 I.write mu (.inl rfl) (λb q hb z=>(hs.2 b hb).trans z) he new
def LX (z:kvs.length<=sizeLine) (hd:(a==sysModules)=false) (rel:KV kvs vs) (dd:h'.DictOf (B8 P w) a vs) :
  Am P w H' h' a (.dK kvs):=⟨z,hd,vs,rel,dd⟩
def ZM (hu:A.units+1<cLine) (I:Inv X zB Y H s) (g:Cy H a y v H') (ry:zf y u) (rv:zf v r) (h:∀ s',Inv X zB Y H' s'->Q Unit.unit s') :
  wpAny (model X.prog X.w) A (setItem (.ref a) u r) Q E s:=by
 rcases g with ⟨kvs,k,e,ey,l,eH⟩|⟨kvs,k,b,e,ey,eb,l,eH⟩
 .subst ey eH;let⟨z,hd,vs,rel,dd⟩:=ME I.hok e;let hz:vs.length<=sizeLine:=by rw[<-rel.length];exact z
  let hl:(Be kvs k v).length<=sizeLine:=by have:=IG kvs k v;omega
  refine wpAny_setItem_pairs (F3 ry) dd λh' dd' hs=>h _ ?_;let he:∃ q,h'.get? a=some q:=let ⟨q,_,_,hq,_⟩:=dd';⟨q,hq⟩;exact Gx I (by rw[e];calc True.intro) hs he (LX hl hd (rel.put k rv) dd')
 .subst ey eH;cases (show u=Value.ref b from ry);let⟨z,hd,xs,rel,dd⟩:=Qv I.hok e;let hz:xs.length<=sizeLine:=by rw[<-Paired.length rel];exact z
  let hl:(Be kvs k v).length<=sizeLine:=by have:=IG kvs k v;omega
  refine wpAny_setItem_heap (tupleKind_room_in1 hu) (Gb I.hok eb) dd λh' dd' hs=>h _ ?_;let⟨q,es,ep,hq,h2,h3,h4,_,h5⟩:=dd';refine Gx I (by rw[e];calc True.intro) hs ⟨q,hq⟩ ⟨hl,hd,_,(rel.put k eb rv).keeps λc ys ec=>?_,q,es,ep,hq,h2,h3,h4,h5⟩;rw[zS (GA ec e (λz=>nomatch z))];calc ec
end
def MB (i:Expr):Prop:=∀ ov iv,subscripted i false ov iv=operate [ov,iv] (getItem ov iv)
def Uz {prog:Ym} {w:Yo} {A:Yn} {E:Yc} {s:Yl} {env:Env} {value slice:Expr} {pos:Pos} {T id:String} {Q:Yc}
  (hl:typeLookup (.type T) "__getitem__" = pure (some (.builtin id))) (hs:MB slice)
  (h:wpAny (model prog w) A (eval value env) (λo s₁=>wpAny (model prog w) A (eval slice env) (λi s₂=>s₂.TypeIs o T/\wpAny (model prog w) A (getItem o i) Q E s₂) E s₁) E s) :
  wpAny (model prog w) A (eval (.Subscript value slice pos) env) Q E s:=by
 refine Subscript_ (An h (λo s₁ h₁=>An h₁ (λi s₂ h₂=>?_) λ_ _ x=>x) λ_ _ x=>x);let⟨hT,h₂⟩:=h₂;erw[subscriptTail];refine AA ?_;rw[getitemInPython_of_ne hT.not_modules];refine AA (wpAny_specialOf hT hl ?_);let fin:wpAny (model prog w) A (subscripted slice false o i) (λr s₃=>wpAny (model prog w) A (letTemporaryGo value o r >>= λ_=>pure r) Q E s₃) E s₂:=by
  rw[hs o i];exact wpAny_operating (An h₂ (λr s₃ h₃=>AA (wpAny_letTemporaryGo (AB h₃))) λ_ _ x=>x)
 first
  |calc AB (AA fin)
  |calc AA (AB (AA fin))
  |calc AA fin
def Tf (I:Inv X zB Y H s) (g:CD H a y o):s.TypeIs (.ref a) "dict" := by
 rcases g with ⟨kvs,k,e,_,_⟩|⟨kvs,k,b,e,_,_,_⟩
 .obtain ⟨_,_,vs,_,dd⟩:=G2 I.hok e;exact dd.typeIs
 .obtain ⟨_,_,xs,_,dd⟩:=Gr I.hok e;calc dd.typeIs
def dI (td ty:TE):TE:=λY H Q=>td Y H λx H1=>ty Y H1 λy H2=>∃ a v,x=.ref a/\CD H2 a y (some v)/\Q v H2
def aY (ty td:TE):TE:=λY H Q=>ty Y H λy H1=>td Y H1 λx H2=>∃ a o,x=.ref a/\CD H2 a y o/\Q (.bl o.isSome) H2
def ZS (ty td:TE):TE:=λY H Q=>ty Y H λy H1=>td Y H1 λx H2=>∃ a o,x=.ref a/\CD H2 a y o/\Q (.bl (!o.isSome)) H2
def cH (td ty tv:TE):TS:=λD Y H=>tv Y H λv H1=>td Y H1 λx H2=>ty Y H2 λy H3=>∃ a H4,x=.ref a/\Cy H3 a y v H4/\D.nx Y H4
section
variable {X:Cx} {o i e value:Expr} {pos pos' tpos:Pos} {td ty tv:TE}
def Zi (hu:X.A.units+1<cLine) (ho:PE X o td) (hi:PE X i ty) (hs:MB i):PE X (.Subscript o i pos) (dI td ty):=by
 intro zB s Y H Q I h;refine Uz PySem.F.slot_dict_getitem.lookup hs (thn (ho zB s Y H _ I h) λu s1 ⟨x,H1,I1,rx,q1⟩=>thn (hi zB s1 Y H1 _ I1 q1) λiv s2 ⟨y,H2,I2,ry,a,v,ex,g,q2⟩=>?_);subst ex;obtain rfl:u=Value.ref a:=rx;calc ⟨Tf I2 g,fP hu I2 g ry λw' s3 I3 rw'=>⟨v,H2,I3,rw',q2⟩⟩
def Vq (hu:X.A.units+1<cLine) (hi:PE X i ty) (ho:PE X o td):PC X .In i o (aY ty td):=by
 intro zB s Y H Q I h;refine thn (hi zB s Y H _ I h) λiv s1 ⟨y,H1,I1,ry,q1⟩=>thn (ho zB s1 Y H1 _ I1 q1) λu s2 ⟨x,H2,I2,rx,a,ov,ex,g,q2⟩=>?_;subst ex;obtain rfl:u=Value.ref a:=rx;calc SS hu I2 g ry λs3 I3=>⟨.bl ov.isSome,H2,I3,rfl,q2⟩
def X0 (hu:X.A.units+1<cLine) (hi:PE X i ty) (ho:PE X o td):PC X .NotIn i o (ZS ty td):=by
 intro zB s Y H Q I h;refine thn (hi zB s Y H _ I h) λiv s1 ⟨y,H1,I1,ry,q1⟩=>thn (ho zB s1 Y H1 _ I1 q1) λu s2 ⟨x,H2,I2,rx,a,ov,ex,g,q2⟩=>?_;subst ex;obtain rfl:u=Value.ref a:=rx;calc UG hu I2 g ry λs3 I3=>⟨.bl (!ov.isSome),H2,I3,rfl,q2⟩
def SK (hu:X.A.units+1<cLine) (ho:PE X o td) (hi:PE X i ty) (hv:PE X value tv) (hs:swapsWith value (some (.Subscript o i pos')) pos.line X.env=pure false) :
  PS X (.Assign [.Subscript o i pos'] value pos) (cH td ty tv):=by
 intro zB s Y H D I h;refine wpAny_Assign_Subscript (thn (hv zB s Y H _ I h) λr s1 ⟨v,H1,I1,rv,q1⟩=>thn (ho zB s1 Y H1 _ I1 q1) λu s2 ⟨x,H2,I2,rx,q2⟩=>thn (hi zB s2 Y H2 _ I2 q2) λiv s3 ⟨y,H3,I3,ry,a,H4,ex,g,q3⟩=>?_) hs;subst ex;obtain rfl:u=Value.ref a:=rx;calc ZM hu I3 g ry rv λs4 I4=>⟨Y,H4,I4,q3⟩
end
def Uq (h:Heap) (hb:sysModules<h.objs.size):Am P w H (h.push { cls:=.type "dict", data:=.dict #[] }) h.objs.size (.dK []) :=
 ⟨BK _,beq_eq_false_iff_ne.mpr (Ne.symm (Ah hb)),[],.nil,Heap.DictOf.new h⟩
def Lw:List (TE × TE)->St->Hp->(List (V × V)->Hp->Prop)->Prop
 |[],_,H,Q=>Q [] H
 | (tk,tv)::r,Y,H,Q=>tk Y H λx H1=>tv Y H1 λy H2=>Lw r Y H2 λps H3=>Q ((x,y)::ps) H3
abbrev VV:List (V × V)->List (Value × Value)->Prop:=Paired λp q=>zf p.1 q.1/\zf p.2 q.2
def PPs (X:Cx) (pos:Pos) (keys:List (Option Expr)) (values:Yi) (trs:List (TE × TE)):Prop :=
 ∀ (zB:Yd) (s:Yl) (Y:St) (H:Hp) (Q:List (V × V)->Hp->Prop),Inv X zB Y H s->Lw trs Y H Q ->
  wpAny (model X.prog X.w) X.A (evalPairs (pairTrees keys values X.env pos)) (λvs s'=>∃ ps H',Inv X zB Y H' s'/\VV ps vs/\Q ps H') X.xe s
def S5:PPs X pos [] [] []:=λzB s Y H Q I h=>pairTrees_nil_walk ⟨[],H,I,.nil,h⟩
def SE (hk:PE X k tk) (hv:PE X v tv) (hr:PPs X pos ks vs trs) :
  PPs X pos (some k::ks) (v::vs) ((tk,tv)::trs):=λzB s Y H Q I h=>
 pairTrees_cons_walk (thn (hk zB s Y H _ I h) λu s1 ⟨x,H1,I1,rx,q1⟩=>thn (hv zB s1 Y H1 _ I1 q1) λw2 s2 ⟨y,H2,I2,ry,q2⟩=>
  thn (hr zB s2 Y H2 _ I2 q2) λws s3 ⟨ps,H3,I3,rel,q3⟩=>⟨(x,y)::ps,H3,I3,.cons ⟨rx,ry⟩ rel,q3⟩)
def IS (kvs more:List (Key × V)):List (Key × V):=more.foldl (λacc kv=>Be acc kv.1 kv.2) kvs
def KV.merge:∀ {more:List (Key × V)} {rs:List (Key × Value)} {kvs:List (Key × V)} {vs:List (Key × Value)},KV more rs->KV kvs vs->KV (IS kvs more) (merged vs rs):=by
 intro more rs kvs vs r;erw[KV]at r;induction r generalizing kvs vs with
 |nil=>intro q;calc q
 | @cons p q ps qs h t ih=>
  intro r0;let e:KV (Be kvs p.1 p.2) (stored vs q.1 q.2):=by
   have:=r0.put p.1 h.2;rw[<-h.1];exact this
  calc ih e
theorem Nd:∀ (more kvs:List (Key × V)),(IS kvs more).length<=kvs.length+more.length
 |[],kvs=>by show kvs.length<=kvs.length+0;omega
 |p::r,kvs=>by
  let h1:=Nd r (Be kvs p.1 p.2);let h2:=IG kvs p.1 p.2;show (IS (Be kvs p.1 p.2) r).length<=_;rw[C0];omega
theorem NG:∀ {kvs:List (Key × V)} {ws:List (Value × Value)},VV (kvs.map λkv=>(kV kv.1,kv.2)) ws -> ∃ rs,Carries (B8 P w) ws rs/\KV kvs rs
 |[],_,r=>by rw[List.map_nil]at r;ext r;calc ⟨[],True.intro,.nil⟩
 |p::kvs,_,r=>by
  rw[Ag]at r;cases r with
  | @cons a b as bs h t=>
   let⟨rs,c,q⟩:=NG t;let⟨b1,b2⟩:=b;calc ⟨(p.1,b2)::rs,⟨F3 h.1,rfl,c⟩,.cons ⟨rfl,h.2⟩ q⟩
def aQ (trs:List (TE × TE)):TE:=λY H Q=>∀ p,H p=none->Lw trs Y (upd H p (.dK [])) λps H2=>H2 p=some (.dK []) /\ ∃ kvs:List (Key × V),ps=kvs.map (λkv=>(kV kv.1,kv.2))/\kvs.length<=15/\Q (.ref p) (upd H2 p (.dK (IS [] kvs)))
def U4 (h:PPs X pos keys values trs) (hall:keys.all (·.isSome)=true) (hl:keys.length=values.length) (h0:keys≠[])
  (h15:keys.length<=15):PE X (.Dict keys values pos) (aQ trs):=by
 intro zB s Y H Q I q;let hn:=I.hok.fresh (AF ⇑s);let I1:=I.laid (t':=s.toks) (λ_ _ q=>AH _ q) (AF _) (Uq s.heap I.big);refine wpAny_Dict_walk (knd:=B8 X.prog X.w) hall hl h0 h15 (thn (h zB _ Y _ _ I1 (q _ hn)) λws s2 ⟨ps,H2,I2,rel,e,kvs,ep,lk,q2⟩=>?_);subst ep;let⟨rs,c,rk⟩:=NG rel;let⟨z,hd,vs0,r0,dd⟩:=ME I2.hok e;ext r0;refine ⟨rs,c,dd,λh' dd' hs=>⟨.ref ⇑s,_,?_,rfl,q2⟩⟩;let hz:(IS [] kvs).length<=sizeLine:=by
  let h1:=Nd kvs [];rw[DY]at h1;rw[sizeLine_eq];omega
 let he:∃ q,h'.get? ⇑s=some q:=let ⟨q,_,_,hq,_⟩:=dd';⟨q,hq⟩;calc Gx I2 (by rw[e];calc True.intro) hs he (LX hz hd (rk.merge .nil) dd')
def IsD (H:Hp) (a:Yt):Prop:=(∃ kvs,Rd H a (.dK kvs)) \/ ∃ kvs,Rd H a (.dT kvs)
def Pu (I:Inv X zB Y H s) (d:IsD H a) :
  s.TypeIs (.ref a) "dict" /\ (∀ b,Value.ref a=.ref b -> ∃ ob,s.heap.get? b=some ob/\ob.dict=none)/\(a==sysModules)=false:=by
 rcases d with ⟨kvs,e⟩|⟨kvs,e⟩
 .obtain ⟨_,hd,vs,_,dd⟩:=G2 I.hok e;refine ⟨dd.typeIs,λb q=>?_,hd⟩;ext q;let⟨ob,_,_,h1,h2,_⟩:=dd;exact ⟨ob,h1,h2.2.1⟩
 .obtain ⟨_,hd,xs,_,dd⟩:=Gr I.hok e;refine ⟨dd.typeIs,λb q=>?_,hd⟩;ext q;let⟨ob,_,_,h1,h2,_⟩:=dd;calc ⟨ob,h1,h2.2.1⟩
theorem GD:∀ (names:List (Str × NameKind)) (n:Nat) (acc:Yv),cellsFrom n names acc=cellsFrom n names []++acc
 |[],_,_=>rfl
 | (name,kind)::r,n,acc=>by
  erw[cellsFrom];split
  .rw[GD r (n+1) ((name,n)::acc),GD r (n+1) [(name,n)],CI];rfl
  .exact GD r n acc
theorem Ia {α:Type} (x:Str):∀ (l r:List (Str × α)),(l++r).lookup x=(match l.lookup x with|some c=>some c|none=>r.lookup x)
 |[],r=>rfl
 | (k,v)::l,r=>by
  rw[List.cons_append,FV,FV];cases hb:x==k with
  |true=>rfl
  |false=>calc Ia x l r
theorem MJ:∀ (names:List (Str × NameKind)) (acc:Yv),
  (∀ y∈names,y.2=.free -> ∃ c,env.cells.lookup y.1=some c) ->
  (∀ x c,acc.lookup x=some c->env.cells.lookup x=some c) ->
  ∃ cl:List (Str × Addr),(forIn names acc (λ(p:Str × NameKind) (cs:Yv)=>(do
    if p.2 == .free then
     let a <- cellOf env p.1;pure (ForInStep.yield ((p.1,a)::cs))
    else pure (ForInStep.yield cs):Sem (ForInStep (List (Str × Addr))))))=pure cl /\
   (∀ x c,cl.lookup x=some c->env.cells.lookup x=some c) /\
   (∀ x,(acc.lookup x).isSome=true->(cl.lookup x).isSome=true) /\ ∀ y∈names,y.2=.free->(cl.lookup y.1).isSome=true
 |[],acc,_,ha=>⟨acc,by rw[List.forIn_nil],ha,λ_ h=>h,λ_ h=>nomatch h⟩
 | (n,k)::r,acc,hf,ha=>by
  rw[List.forIn_cons];by_cases hk:k=.free
  .subst hk;let⟨c,hc⟩:=hf (n,.free) Ax rfl;let hco:cellOf env n=pure c:=by erw[cellOf];rw[hc]
   let⟨cl,e,h1,h2,h3⟩:=MJ r ((n,c)::acc) (λy hy=>hf y (BF _ hy)) (λx d hx=>by
    rw[FV]at hx;cases hb:x==n with
    |true=>rw[hb]at hx;ext hx;rw[beq_iff_eq.mp hb];calc hc
    |false=>rw[hb]at hx;calc ha x d hx)
   refine ⟨cl,?_,h1,λx hx=>h2 x ?_,λy hy hk=>?_⟩
   .rw[<-e];simp only[beq_self_eq_true,if_true,hco];rfl
   .rw[FV];cases hb:x==n with
    |true=>rfl
    |false=>exact hx
   .rcases AJ.mp hy with z|z
    .subst z;exact h2 n (by rw[FV];simp)
    .exact h3 y z hk
  .obtain ⟨cl,e,h1,h2,h3⟩:=MJ r acc (λy hy=>hf y (BF _ hy)) ha;refine ⟨cl,?_,h1,h2,λy hy hk'=>?_⟩
   .rw[<-e];have:(k==NameKind.free)=false:=by simpa using hk
    simp only[this,CL,B6];rfl
   .rcases AJ.mp hy with z|z
    .subst z;exact absurd hk' hk
    .exact h3 y z hk'
def XZ (hf:∀ y∈scope.names,y.2=.free -> ∃ c,env.cells.lookup y.1=some c) :
  ∃ cl,closureFor scope env=pure cl/\(∀ x c,cl.lookup x=some c->env.cells.lookup x=some c) /\ ∀ y∈scope.names,y.2=.free->(cl.lookup y.1).isSome=true:=by
 let⟨cl,e,h1,_,h3⟩:=MJ scope.names [] hf (λx c h=>nomatch h);calc ⟨cl,?_,h1,h3⟩;erw[closureFor];rw[show (pure cl:Sem _)=pure cl >>= pure from rfl,<-e]
def Pa
  (hQ:Q (newEnv scope ⇑s globals (cellsFrom (⇑s+1) scope.names cl) qual none .none (some env) builtinsNs)
   { s with heap:=pushCells (s.heap.push { cls:=.type "dict", data:=.dict #[] }) scope.names }) :
  wpAny M A (newFunctionEnv scope globals cl [] qual none .none (some env)) Q E s:=by
 simp only[newFunctionEnv,Option.isSome_some,if_true];calc AA (wpAny_alloc ?_);refine AA (wpAny_layCells _ (λname kind cells=>by cases hkc:kind==NameKind.cell <;> simp[hkc]) _ _ _ _ ?_);rw[show ({ s with heap:=s.heap.push { cls:=.type "dict", data:=.dict #[] } }:Shared).heap.objs.size=⇑s+1 from Bn ..];calc AA (AB (AB hQ))
def zP (X:Cx) (zB:Yd) (scope:Y0) (cl:Yv) (s:Yl) (H:Hp) (fp:Yg):Cx where
 prog:=X.prog
 w:=X.w
 K:=X.K
 mg:=X.mg
 base:=X.base
 A:=X.A
 N:=X.N
 s₀:=s
 H₀:=H
 env:={ scope:=relabel scope X.env,locals:=⇑s+1,globals:=X.env.globals,cells:=cellsFrom (⇑s+1+1) scope.names cl,qual:=X.env.qual,func:=none,code:=X.env.code,frame:=X.env.frame,builtins:=X.env.builtins }
 outer:=X.stack
 stack:=X.stack
 ex:=fp
 fn:=λx=>decide (scope.names.lookup x=some .cell)
 calm:=X.calm
 pn:=X.pn++zB
 xe:=λ_ _=>False
theorem HF {scope:Y0} {env:Env} (x:Str):∀ {names:List (Str × NameKind)} {k:NameKind},
  (names.map λ(n,k)=>if (k==NameKind.free&&env.scope.kind == .function&&env.kindOf n==some .cell) then (n,NameKind.cell) else (n,k)).lookup x=some k ->
  names.lookup x=some k\/(names.lookup x=some .free/\k=.cell)
 |[],_,h=>by simp at h
 | (n,k')::r,k,h=>by
  rw[Ag]at h;by_cases hc:(k'==NameKind.free&&env.scope.kind == .function&&env.kindOf n==some .cell)=true
  .simp only[hc,if_true]at h;rw[FV]at h ⊢;cases hb:x==n with
   |true=>
    rw[hb]at h;simp only[BE,beq_iff_eq]at hc;calc .inr ⟨by rw[hc.1.1],(Bb h).symm⟩
   |false=>rw[hb]at h;exact HF (scope:=scope) x h
  .simp only[hc,CL,B6]at h;rw[FV]at h ⊢;cases hb:x==n with
   |true=>rw[hb]at h;calc .inl h
   |false=>rw[hb]at h;calc HF (scope:=scope) x h
theorem K6:∀ (names:List (Str × NameKind)) (n:Nat) (acc:Yv) (x:Str) (c:Yt),(x,c)∈cellsFrom n names acc->(x,c)∉acc->(x,NameKind.cell)∈names
 |[],_,_,_,_,h,h'=>absurd h h'
 | (name,kind)::r,n,acc,x,c,h,h'=>by
  erw[cellsFrom]at h;cbv at h
  .rename_i hk;by_cases e:(x,c)=(name,n)
   .cases e;rw[beq_iff_eq]at hk;subst hk;exact Ax
   .exact BF _ (K6 r _ _ x c h λz=>(AJ.mp z).elim e h')
  .exact BF _ (K6 r _ _ x c h h')
structure CompScope (X:Cx) (scope:Y0):Prop where
 kind:scope.kind=.function
 names:∀ y∈scope.names,y.2=.local->scope.names.lookup y.1=some .local
 cells:∀ y∈scope.names,y.2=.cell->scope.names.lookup y.1=some .cell
 free:∀ y∈scope.names,y.2=.free->X.env.kindOf y.1=some .cell\/X.env.kindOf y.1=some .free
def Ow (S:CompScope X scope) (I:Inv X zB Y H s) (hf:∀ b∈fp,Bq X zB H b) (ho:∀ b:Nat,b∈fp->b<⇑s)
  (c1:∀ x c,cl.lookup x=some c->X.env.cells.lookup x=some c) (c2:∀ y∈scope.names,y.2=.free->(cl.lookup y.1).isSome=true)
  (hl:σc.length=Y.length) (hσ:∀ (i:Nat) x v,X.N[i]?=some x->σc[i]?=some (some v)->(relabel scope X.env).names.lookup x≠none->scope.names.lookup x=some .free/\Y[i]?=some (some v))
  (lo:Obj) (hlo:∀ v,lo.data≠.cell v) (hfr:lo.isFreed=false)
  (h4:s4={ s with heap:=pushCells ((s.heap.push lo).push { cls:=.type "dict", data:=.dict #[] }) scope.names }) :
  Inv (zP X zB scope cl s H fp) [(⇑s,lo)] σc H s4:=by
 subst h4;let sz1:(s.heap.push lo).objs.size=⇑s+1:=Bn ..;let sz2:((s.heap.push lo).push { cls:=.type "dict", data:=.dict #[] }).objs.size=⇑s+1+1:=by rw[Bn,sz1]
 let hk:∀ b o,s.heap.get? b=some o->(pushCells ((s.heap.push lo).push { cls:=.type "dict", data:=.dict #[] }) scope.names).get? b=some o:=λb o e=>
  pushCells_keeps _ _ b o (AH _ (AH _ e))
 let ok:=cellsFrom_ok scope.names ((s.heap.push lo).push { cls:=.type "dict", data:=.dict #[] }) (⇑s+1+1) [] ⟨λ_ _ hm=>(nomatch hm),List.Pairwise.nil⟩ (by rw[sz2];exact AF _);rw[sz2]at ok;let look:∀ x c,(cellsFrom (⇑s+1+1) scope.names cl).lookup x=some c->((cellsFrom (⇑s+1+1) scope.names []).lookup x=some c)\/((cellsFrom (⇑s+1+1) scope.names []).lookup x=none/\X.env.cells.lookup x=some c):=λx c e=>by
  rw[GD,Ia]at e;cases q:(cellsFrom (⇑s+1+1) scope.names []).lookup x with
  |some d=>rw[q]at e;calc .inl e
  |none=>rw[q]at e;exact .inr ⟨rfl,c1 x c e⟩
 let old:∀ x (c:Nat),X.env.cells.lookup x=some c->c<⇑s:=λx c e=>let ⟨_,q⟩:=I.cell x c e;q.lt;let new:∀ x (c:Nat),(cellsFrom (⇑s+1+1) scope.names []).lookup x=some c->⇑s+1+1<=c:=λx c e=>(ok.empty x c (C3 e)).2;let own:∀ x,scope.names.lookup x=some .cell -> ∃ c,(cellsFrom (⇑s+1+1) scope.names []).lookup x=some c:=λx e=>Me e;let cne:∀ x (c:Nat),(cellsFrom (⇑s+1+1) scope.names cl).lookup x=some c->c<⇑s\/⇑s+1+1<=c:=λx c e=>by
  rcases look x c e with q|⟨_,q⟩
  .exact .inr (new x c q)
  .exact .inl (old x c q)
 refine ⟨⟨I.ok.mod,S.kind,I.ok.glob,I.ok.blt,CQ _,λx y c h1 h2=>?_,λx hx=>?_,λx c hx h=>?_,I.ok.hd,I.ok.frames,.inl rfl,λb hb=>⟨?_,λx c e z=>?_⟩,I.bs,Ao I.ok.bsz I.sz,λb o e hb=>?_,λb hb z=>?_,I.stack,I.stkFree⟩,
  rfl,I.bare,Un.kept hk,⟨λ_=>none,?_,λi x v h1 h2 h3=>?_⟩,λx c e=>?_,I.hok.fresh (CQ _),λx c e=>?_,λp hp=>?_,I.hok.kept hk,hl.trans I.len⟩
 .rcases look x c h1 with a|⟨_,a⟩ <;> rcases look y c h2 with b|⟨_,b⟩
  .exact name_of_addr ok.apart (C3 a) (C3 b)
  .exact absurd (En (new x c a) (old y c b)) ()
  .exact absurd (En (new y c b) (old x c a)) ()
  .exact I.ok.inj x y c a b
 .have hx':(relabel scope X.env).names.lookup x=some .cell\/(relabel scope X.env).names.lookup x=some .free:=hx;let go:scope.names.lookup x=some .cell\/scope.names.lookup x=some .free:=by
   rcases hx' with q|q
   .rcases HF (scope:=scope) x q with z|z
    .exact .inl z
    .exact .inr z.1
   .rcases HF (scope:=scope) x q with z|z
    .exact .inr z
    .exact .inr z.1
  show ∃ c,(cellsFrom (⇑s+1+1) scope.names cl).lookup x=some c;rw[GD,Ia];rcases go with q|q
  .obtain ⟨c,e⟩:=own x q;exact ⟨c,by rw[e]⟩
  .cases e:(cellsFrom (⇑s+1+1) scope.names []).lookup x with
   |some d=>calc ⟨d,rfl⟩
   |none=>exact Option.isSome_iff_exists.mp (c2 (x,.free) (C3 q) rfl)
 .obtain ⟨d,e⟩:=own x (B2 hx);let h':(cellsFrom (⇑s+1+1) scope.names cl).lookup x=some c:=h;rw[GD,Ia,e]at h';ext h';exact Ao (Ao (CQ _) (CQ _)) (new x _ e)
 .exact Ah (C7 (ho b hb))
 .rcases look x c e with q|⟨_,q⟩
  .have a:=new x c q;rw[z]at a;exact absurd (En a (ho b hb)) ()
  .exact (hf b hb).2.2.2.2.1 x c q z
 .rcases (hf b hb).2.2.2.1 with z|z
  .exact I.ok.noex b o e z
  .exact absurd (BC (AI e) (Ao I.ok.bsz z)) (BN _)
 .rcases AJ.mp (I.stkSub b z)with q|q
  .exact (hf b hb).2.1 q
  .exact (hf b hb).2.2.1 q
 .have q:((s.heap.push lo).push { cls:=.type "dict", data:=.dict #[] }).Ns (s.heap.push lo).objs.size (λ_=>none):=Heap.Ns.new ..;rw[sz1]at q;exact q.keeps (pushCells_keeps _ _)
 .have h3':(relabel scope X.env).names.lookup x≠none:=by
   rcases h3 with z|z|z <;> (intro q;let z':(relabel scope X.env).names.lookup x=_:=z;rw[q]at z';ext z')
  let⟨fr,hv⟩:=hσ i x v h1 h2 h3';let⟨m,hn,hlk⟩:=I.loc;let kx:=S.free (x,.free) (C3 fr) rfl;let⟨u,rv,lk⟩:=hlk i x v h1 hv (by rcases kx with z|z;calc .inr (.inl z);calc .inr (.inr z));calc ⟨u,rv,?_⟩;rcases lk with ⟨z,_⟩|⟨_,c,e,ic⟩
  .rcases kx with k|k <;> (rw[k]at z;ext z)
  .have kind:(relabel scope X.env).names.lookup x=some .cell\/(relabel scope X.env).names.lookup x=some .free:=by
    cases q:(relabel scope X.env).names.lookup x with
    |none=>calc absurd q h3'
    |some k=>
     rcases HF (scope:=scope) x q with z|z
     .rw[fr]at z;ext z;exact .inr rfl
     .rw[z.2];exact .inl rfl
   refine .inr ⟨kind,c,?_,ic.keeps hk⟩;show (cellsFrom (⇑s+1+1) scope.names cl).lookup x=some c;rw[GD,Ia];let⟨d,hd⟩:=Option.isSome_iff_exists.mp (c2 (x,.free) (C3 fr) rfl);have:=c1 x d hd;rw[e]at this;ext this;let nn:(cellsFrom (⇑s+1+1) scope.names []).lookup x=none:=by
    cases q:(cellsFrom (⇑s+1+1) scope.names []).lookup x with
    |none=>rfl
    |some d'=>
     let z:=S.cells (x,.cell) (K6 scope.names _ [] x d' (C3 q) λz=>nomatch z) rfl;rw[fr]at z;ext z
   rw[nn];exact hd
 .rcases look x c e with q|⟨_,q⟩
  .exact ⟨none,(ok.empty x c (C3 q)).1⟩
  .obtain ⟨v,z⟩:=I.cell x c q;exact ⟨v,z.keeps hk⟩
 .rcases look x c e with q|⟨_,q⟩
  .exact I.hok.fresh (by have:=new x c q;omega)
  .exact I.freeC x c q
 .have hp':p∈X.pn++zB\/p=(⇑s,lo):=by
   rcases AR.mp hp with z|z
   .exact .inl z
   .exact .inr (~~~z)
  rcases hp' with z|z
  .obtain ⟨e,n,ne,nf,d⟩:=I.pin p z;let lt:(p.1:Nat)<⇑s:=AI e;refine ⟨hk _ _ e,n,?_,λq=>?_,d⟩
   .exact Ah (C7 lt)
   .rcases AJ.mp (I.stkSub _ q)with r|r
    .exact ne r
    .exact nf r
  .subst z;refine ⟨pushCells_keeps _ _ _ _ (AH _ (AL _ hfr)),I.hok.fresh (AF _),?_,λq=>?_,hlo⟩
   .show ⇑s≠⇑s+1;omega
   .rcases AJ.mp (I.stkSub _ q)with r|r
    .exact absurd I.lt (by rw[<-r];calc BN _)
    .exact I.nofs (AF _) r
def clr (own:Yj) (Y:St):St:=own.foldl (λY i=>Y.set i none) Y
theorem HZ:∀ (own:Yj) (Y:St),(clr own Y).length=Y.length
 |[],_=>rfl
 |i::r,Y=>by
  show (clr r (Y.set i none)).length=_;rw[HZ r,C1]
theorem HL:∀ (own:Yj) (Y:St) (j:Nat) (v:V),(clr own Y)[j]?=some (some v)->Y[j]?=some (some v)/\j∉own
 |[],_,_,_,h=>⟨h,λz=>nomatch z⟩
 |i::r,Y,j,v,h=>by
  let h':(clr r (Y.set i none))[j]?=some (some v):=h;let⟨a,b⟩:=HL r _ j v h';rw[DN]at a;cbv at a
  .split at a <;> ext a
  .rename_i hne;calc ⟨a,λz=>(AJ.mp z).elim (λe=>hne e.symm) b⟩
def Ext (a b:St):Prop:=b.length=a.length /\ ∀ (i:Nat) v,a[i]?=some (some v)->b[i]?=some (some v)
def Ext.refl (a:St):Ext a a:=⟨rfl,λ_ _ h=>h⟩
def Ext.set (e:Ext (clr own Y) a) (h:i∈own):Ext (clr own Y) (a.set i (some v)):=by
 refine ⟨by rw[C1];exact e.1,λj u q=>?_⟩;rw[DN];split
 .rename_i z;exact absurd (z▸h) (HL own Y j u q).2
 .exact e.2 j u q
def EJ (X:Cx) (ifs:Yi) (t:TT):Prop :=
 ∀ (zB:Yd) (s:Yl) (Y:St) (H:Hp) (Q:Bool->Hp->Prop),Inv X zB Y H s->t Y H Q ->
  wpAny (model X.prog X.w) X.A (forIn ifs true λc r=>if r=true then do let ok <- isTrue c X.env (eval c X.env);pure (ForInStep.yield ok) else pure (ForInStep.yield r)) (TP X zB Y Q) X.xe s
def Uw:TT:=λ_ H Q=>Q true H
def V5:EJ X [] Uw:=λ_ _ _ H _ I h=>wpAny_tests_nil ⟨H,I,h⟩
def eV (h:PT X c t):EJ X [c] t:=λzB s Y H Q I hq=>wpAny_tests_one (h zB s Y H Q I hq)
def iU (I:Nat->Shared->Prop)
  (turn:∀ n s,I n s->wpAny (model prog w) A (pyNext it) (λr s₁=>match r with
   |none=>R (.ok .next) s₁
   |some v=>wpAny (model prog w) A (letOwnedTupleGo target it v) (λ_ s₁'=>wpAny (model prog w) A (assign target env v) (λ_ s₂=>
     wpAny (model prog w) A (forIn ifs true λc r=>if r=true then do let ok <- isTrue c env (eval c env);pure (ForInStep.yield ok) else pure (ForInStep.yield r)) (λok s₃=>
      if ok=true then wpAny (model prog w) A (eval elt env) (λx s₄=>
       wpAny (model prog w) A (call (.builtin "list.append") [acc,x]) (λ_ s₅=>∃ m,m<n/\I m s₅) (λ_ _=>False) s₄) (λ_ _=>False) s₃
      else ∃ m,m<n/\I m s₃) (λ_ _=>False) s₂) (λ_ _=>False) s₁') (λ_ _=>False) s₁) (λ_ _=>False) s)
  (n:Nat) (h:I n s) :
  codeAny (model prog w) A (.compLoop (.ListComp elt [⟨target,iter,ifs,0⟩] scope pos) 0 it acc env) R s:=by
 refine codeAny_loop rfl I (λn s hI=>?_) n h;show wpAny _ A ((compTurn (.ListComp elt [⟨target,iter,ifs,0⟩] scope pos) 0 it acc env).onRaise (λx=>do noteFrame x env;theTreesLotGoes x)) _ _ s;calc wpAny_noted ?_;rw[compTurn_list];refine AA (wpAny_standAt (AA (An (turn n s hI) (λr s₁ h₁=>?_) λ_ _ h'=>h'.elim)));cases r with
 |none=>calc AB h₁
 |some v=>
  refine AA (An h₁ (λ_ s₁' h₁'=>?_) λ_ _ h'=>h'.elim);refine AA (An h₁' (λ_ s₂ h₂=>AA (An h₂ (λok s₃ h₃=>?_) λ_ _ h'=>h'.elim)) λ_ _ h'=>h'.elim);cases ok with
  |false=>calc AB ⟨rfl,h₃⟩
  |true=>
   calc AA (AA (An h₃ (λx s₄ h₄=>AA (An h₄ (λ_ s₅ h₅=>AB (AB ⟨rfl,h₅⟩)) λ_ _ h'=>h'.elim)) λ_ _ h'=>h'.elim))
def Kp (own:Yj) (wi:TI) (g:TG) (tc:TT) (te:TE):TE:=λY H Q=>wi Y H λJ H1=>∃ W:Nat->Nat->List V->Hp->Prop,(∃ m,W 0 m [] H1) /\ ∀ i m ys H,W i m ys H ->
 (J.stop i H/\ys.length<=sizeLine /\ ∀ D,H D=none->Q (.ref D) (upd H D (.lst ys))) \/
 (J.go i H /\ ∀ x H',J.yld i H x H'->g x (clr own Y) H' λσ2 H2=>Ext (clr own Y) σ2/\tc σ2 H2 λb H3=>
  if b=true then te σ2 H3 λv H4=>ys.length<sizeLine /\ ∃ m',m'<m/\W (i+1) m' (ys++[v]) H4 else ∃ m',m'<m/\W (i+1) m' ys H3)
abbrev zd (its:List Value) (n:Nat):Obj:={ cls:=.type "list", data:=.seq its.toArray n }
def Inv.repin (I:Inv X (pl++[(D,o)]) Y H s) (hpl:∀ p∈X.pn++pl,p.1≠D) (hs:Heap.SameBut D s.heap h') (hD:⇑X.s₀<=D) (hc:∀ x c,X.env.cells.lookup x=some c->c≠D)
  (e:h'.get? D=some o') (hn:∀ v,o'.data≠.cell v):Inv X (pl++[(D,o')]) Y H { s with heap:=h' }:=by
 let⟨e0,n0,ne0,nf0,d0⟩:=I.pin (D,o) (by simp);let I1:Inv X pl Y H s:=I.pins_of λp hp=>I.pin p (by simp[hp]);let I2:Inv X pl Y H { s with heap:=h' }:=I1.turned (λb u hb q=>hs.extBut b u hb q) n0 ne0 (.inr hD) hc hpl;exact I2.pins_of λp hp=>by
  rcases AR.mp hp with z|z
  .exact I2.pin p (BD _ z)
  .have:p=(D,o'):=by simpa using z
   subst this;calc ⟨e,n0,ne0,nf0,hn⟩
section
variable {pos:Pos}
 {own:Yj} {g:TG} {tc:TT} {te:TE} {E:Yc}
structure CompIn (X:Cx) (scope:Y0) (own:Yj):Prop where
 sc:CompScope X scope
 nm:∀ (i:Nat) x,X.N[i]?=some x->i∈own\/scope.names.lookup x=none\/scope.names.lookup x=some .free
def QG (x:Str) (h:scope.names.lookup x=none):(relabel scope env).names.lookup x=none:=by
 cases q:(relabel scope env).names.lookup x with
 |none=>rfl
 |some k=>
  rcases HF (scope:=scope) x q with z|z
  .rw[h]at z;ext z
  .rw[h]at z;cases z.1
def Pl (C:CompIn X scope own) (hcalm:X.calm=true) (I:Inv X zB Y H s) (T:Turn X.prog X.w X.K tg J fp it tn) (st:tn 0 s.heap) (hf:∀ b∈fp,Bq X zB H b)
  (c1:∀ x c,cl.lookup x=some c->X.env.cells.lookup x=some c) (c2:∀ y∈scope.names,y.2=.free->(cl.lookup y.1).isSome=true)
  (hg:PG (zP X zB scope cl s H fp) tg g) (hi:EJ (zP X zB scope cl s H fp) ifs tc) (he:PE (zP X zB scope cl s H fp) elt te)
  {RR:Value->Addr->Result->Shared->Prop} {QQ:List V->Hp->Prop} {W:Nat->Nat->List V->Hp->Prop} {m0:Nat} (w0:W 0 m0 [] H)
  (turn:∀ i m ys H,W i m ys H->(J.stop i H/\ys.length<=sizeLine/\QQ ys H) \/
   (J.go i H /\ ∀ x H',J.yld i H x H'->g x (clr own Y) H' λσ2 H2=>Ext (clr own Y) σ2/\tc σ2 H2 λb H3=>
    if b=true then te σ2 H3 λv H4=>ys.length<sizeLine /\ ∃ m',m'<m/\W (i+1) m' (ys++[v]) H4 else ∃ m',m'<m/\W (i+1) m' ys H3))
  (fin:∀ σc H' s' its n ys,Inv (zP X zB scope cl s H fp) [(⇑s,zd its n)] σc H' s'->zT ys its->ys.length<=sizeLine->QQ ys H'->RR (.ref ⇑s) (⇑s+1) (.ok .next) s') :
  wpAny (model X.prog X.w) X.A (newList []) (λacc s₃=>wpAny (model X.prog X.w) X.A (newFunctionEnv scope X.env.globals cl [] X.env.qual none .none (some X.env)) (λcenv s₄=>
   codeAny (model X.prog X.w) X.A (.compStart (.ListComp elt [⟨tg,iter,ifs,0⟩] scope pos) 0 (.ref it) acc { cenv with scope:=relabel scope X.env }) (RR acc cenv.locals) s₄) E s₃) E s:=by
 let ob:∀ b:Nat,b∈fp->b<⇑s:=λb hb=>let ⟨_,e,_⟩:=T.obj 0 _ st b hb;AI e;refine A9 (Pa ?_);let sz1:(s.heap.push (zd [] 0)).objs.size=⇑s+1:=Bn ..;let I4:=Ow C.sc I hf ob c1 c2 (HZ own Y) (λi x v h1 h2 h3=>by
  let⟨a,b⟩:=HL own Y i v h2;rcases C.nm i x h1 with z|z|z
  .exact absurd z b
  .exact absurd (QG x z) h3
  .exact ⟨z,a⟩) (zd [] 0) (by intro v z;ext z) rfl rfl
 let st4:tn 0 (pushCells ((s.heap.push (zd [] 0)).push { cls:=.type "dict", data:=.dict #[] }) scope.names):=T.keep 0 _ _ st λb _ o e=>pushCells_keeps _ _ b o (AH _ (AH _ e));erw[newEnv];rw[sz1];let hDfp:⇑s∉fp:=λz=>BN _ (ob _ z);let hcD:∀ x c,(zP X zB scope cl s H fp).env.cells.lookup x=some c->c≠⇑s:=λx c e z=>by
  let⟨v,o,ho,hd⟩:=I4.cell x c e;let⟨q,_⟩:=I4.pin (⇑s,zd [] 0) (by simp);rw[z,q]at ho;ext ho;ext hd
 let fpk:∀ {H':Hp} {pl:Yd},(∀ b∈fp,H' b=none)->(∀ p∈pl,p.1=⇑s) -> ∀ b∈fp,Bq (zP X zB scope cl s H fp) pl H' b:=λ{H' pl} hn hp b hb=>
  ⟨hn b hb,(I4.ok.exf b hb).1,I4.ok.exfs b hb,.inl hb,(I4.ok.exf b hb).2,λp hq=>by
   rcases AR.mp hq with z|z
   .exact (hf b hb).2.2.2.2.2 p z
   .intro e;let e2:=hp p z;rw[e]at e2;calc hDfp (e2▸hb)⟩
 let loop:codeAny (model X.prog X.w) X.A (.compLoop (.ListComp elt [⟨tg,iter,ifs,0⟩] scope pos) 0 (.ref it) (.ref ⇑s) (zP X zB scope cl s H fp).env) (RR (.ref ⇑s) (⇑s+1))
   { s with heap:=pushCells ((s.heap.push (zd [] 0)).push { cls:=.type "dict", data:=.dict #[] }) scope.names }:=by
  refine iU (λn s'=>∃ i H' ys its k,Inv (zP X zB scope cl s H fp) [(⇑s,zd its k)] (clr own Y) H' s'/\zT ys its/\tn i s'.heap/\(∀ b∈fp,H' b=none)/\W i n ys H') ?_ m0
   ⟨0,H,[],[],0,I4,.nil,st4,λb hb=>(hf b hb).1,w0⟩
  rintro n s5 ⟨i,H5,ys,its,k,I5,r5,st5,f5,w5⟩;let pinD:∀ p∈[(⇑s,zd its k)],p.1=⇑s:=λp hp=>by
   have:p=(⇑s,zd its k):=by simpa using hp
   rw[this]
  rcases turn i n ys H5 w5 with ⟨stop,hz,qq⟩|⟨go,step⟩
  .refine thn (T.done (zP X zB scope cl s H fp) rfl rfl rfl hcalm i _ s5 _ H5 _ I5 (fpk f5 pinD) st5 stop) λr s6 ⟨hr,I6⟩=>?_;subst hr;exact fin _ H5 s6 its k ys I6 r5 hz qq
  .refine thn (T.item (zP X zB scope cl s H fp) rfl rfl rfl hcalm i _ s5 _ H5 _ I5 (fpk f5 pinD) st5 go) λr s6 ⟨u,hr,h6⟩=>?_;subst hr;refine thn h6 λ_ s7 ⟨x,H7,I7,r7,y7,st7,f7⟩=>?_;let I7':=I7.pinned (fpk f7 pinD) (T.obj _ _ st7);refine thn (hg _ s7 _ H7 x u _ I7' r7 (step x H7 y7)) λ_ s8 ⟨σ8,H8,I8,x8,q8⟩=>?_;refine thn (hi _ s8 σ8 H8 _ I8 q8) λok s9 ⟨H9,I9,q9⟩=>?_;let back:∀ {s':Yl} {Hx:Hp},Inv (zP X zB scope cl s H fp) ([(⇑s,zd its k)]++Fp fp s7.heap) σ8 Hx s'->tn (i+1) s'.heap /\ ∀ b∈fp,Hx b=none:=λ{s' Hx} Ix=>
    ⟨T.keep _ _ _ st7 λb hb o e=>(Ix.pin (b,o) (BD _ (BD _ (FP hb e)))).1,λb hb=>by
     let⟨o,e,d⟩:=T.obj _ _ st7 b hb;calc (Ix.pin (b,o) (BD _ (BD _ (FP hb e)))).2.1⟩
   cases ok with
   |false=>
    let⟨m',hm,w'⟩:=q9;let⟨b1,b2⟩:=back I9;calc ⟨m',hm,i+1,H9,ys,its,k,(I9.weak (by rw[x8.1]) x8.2).unpinned,r5,b1,b2,w'⟩
   |true=>
    refine thn (he _ s9 σ8 H9 _ I9 q9) λv s10 ⟨y,H10,I10,r10,hlt,m',hm,w'⟩=>?_;let⟨b1,b2⟩:=back I10;let J10:=(I10.weak (by rw[x8.1]) x8.2).unpinned;let⟨e10,n10,ne10,nf10,d10⟩:=J10.pin (⇑s,zd its k) (by simp);let hlen:its.toArray.size<=sizeLine:=by
     have:=r5.length;rw[AO,<-this];exact DV hlt
    refine wpAny_list_append_plain (show s10.heap.PlainList ⇑s its.toArray from ⟨k,e10⟩) λh' hl' hs'=>?_;let⟨k',e'⟩:=hl';let e'':h'.get? ⇑s=some (zd (its++[v]) k'):=by rw[e'];simp[zd]
    refine ⟨m',hm,i+1,H10,ys++[y],its++[v],k',?_,r5.append (.cons r10 .nil),T.keep _ _ _ b1 λb hb o e=>hs'.extBut b o (λz=>hDfp (z▸hb)) e,b2,w'⟩;refine Inv.repin (pl:=[]) J10 (λp hp=>?_) hs' (AF _) hcD e'' (by intro v z;ext z);rw[DO]at hp;let hp':p∈X.pn++zB:=hp;exact Ah (AI (I.pin p hp').1)
 calc codeAny_compStart_list loop (T.self _ 0 _ _ _ st4 loop)
end
def KG (I:Inv X zB Y H s) (hf:∀ b∈fp,Bq X zB H b)
  (Ic:Inv (zP X zB scope cl s H fp) [(⇑s,zd its n)] σc H' s') (rv:zT ys its) (hz:ys.length<=sizeLine) (hs:Heap.SameBut (⇑s+1) s'.heap h') :
  Inv X zB Y (upd H' ⇑s (.lst ys)) { s' with heap:=h' }/\H' ⇑s=none:=by
 let⟨eD,nD,_⟩:=Ic.pin (⇑s,zd its n) (by simp);let nC:H' (⇑s+1)=none:=Ic.free;let eD':h'.get? ⇑s=some (zd its n):=hs.extBut _ _ (Ah (DU _)) eD;let lt1:∀ {b:Yt} {o:Obj},s.heap.get? b=some o->b≠⇑s+1/\b≠⇑s:=λe=>⟨Ah (C7 (AI e)),Ah (AI e)⟩;let tr:∀ b u,H' b=some u->b≠⇑s+1/\b≠⇑s:=λb u e=>⟨λz=>(by rw[z,nC]at e;ext e),λz=>(by rw[z,nD]at e;ext e)⟩;refine ⟨?_,nD⟩;let B:=Ic.base;let un:Un (frs X.stack) fp H (upd H' ⇑s (.lst ys)) s.heap h':=by
  refine ⟨λb o e q hb hx=>hs.extBut b o (lt1 e).1 (B.keep b o e q hb hx),λb o e q hb hx=>?_,λb o e q hx=>?_,λb o e hx=>?_,λb xs e=>?_,λb o xs e=>?_,λb ps e=>?_⟩
  .obtain ⟨sl,e1⟩:=B.slot b o e q hb hx;exact ⟨sl,hs.extBut b _ (lt1 e).1 e1⟩
  .rw[zS (lt1 e).2];exact B.free b o e q hx
  .obtain ⟨o',e1⟩:=B.there b o e hx;exact ⟨o',hs.extBut b _ (lt1 e).1 e1⟩
  .have q:=B.tups b xs e;rw[zS (tr b _ q).2];exact q
  .have q:=B.frzs b o xs e;rw[zS (tr b _ q).2];exact q
  .obtain ⟨more,q⟩:=B.tbls b ps e;exact ⟨more,by rw[zS (tr b _ q).2];calc q⟩
 let hok:HOk X.prog X.w (upd H' ⇑s (.lst ys)) h':=λb u e=>by
  by_cases hb:b=⇑s
  .subst hb;rw[CY]at e;ext e;exact ⟨hz,its,n,rv,eD'⟩
  .rw[zS hb]at e;refine (Ic.hok b u e).stay (λc v hc q=>hs.extBut c v ?_ q) (λc q=>by rw[zS (tr c _ q).2];exact q) λc xs q=>by rw[zS (tr c _ q).2];exact q
   rcases hc with z|z
   .rw[z];exact (tr b u e).1
   .exact (tr c _ z).1
 calc I.call' Ic.os un hok Ic.bare λb hb=>⟨(hf b hb).2.2.2.1,(hf b hb).2.1,(hf b hb).2.2.2.2.1,(hf b hb).2.2.2.2.2⟩
structure CompParts (X:Cx) (scope:Y0) (tg:Expr) (ifs:Yi) (elt:Expr) (g:TG) (tc:TT) (te:TE):Prop where
 g:∀ zB cl s H fp,PG (zP X zB scope cl s H fp) tg g
 c:∀ zB cl s H fp,EJ (zP X zB scope cl s H fp) ifs tc
 e:∀ zB cl s H fp,PE (zP X zB scope cl s H fp) elt te
def CompScope.closure (S:CompScope X scope) (I:Inv X zB Y H s) :
  ∃ cl,closureFor scope X.env=pure cl/\(∀ x c,cl.lookup x=some c->X.env.cells.lookup x=some c) /\ ∀ y∈scope.names,y.2=.free->(cl.lookup y.1).isSome=true :=
 XZ λy hy hk=>I.ok.has y.1 (S.free y hy hk)
def Zw (C:CompIn X scope own) (hcalm:X.calm=true) (hi:PI X tg iter wi) (p:CompParts X scope tg ifs elt g tc te) (hs:∀ x,foldedSetIterable iter X.env x=pure x:=by intro _;rfl) :
  PE X (.ListComp elt [⟨tg,iter,ifs,0⟩] scope pos) (Kp own wi g tc te):=by
 intro zB s Y H Q I h;let⟨cl,hcl,c1,c2⟩:=C.sc.closure I;rw[eval_ListComp];refine wpAny_comprehension_free rfl hs hcl C.sc.kind C.sc.names (thn (hi zB s Y H _ I h) λv s1 h1=>thn h1 λitv s2 h2=>?_);let⟨it,fp,tn,J,H2,e,I2,T,st2,f2,W,⟨m0,w0⟩,turn⟩:=h2;subst e;calc Pl C hcalm I2 T st2 f2 c1 c2 (p.g _ _ _ _ _) (p.c _ _ _ _ _) (p.e _ _ _ _ _) w0 turn ?_;intro σc H' s' its n ys Ic rv hz qq;let⟨m,hn,_⟩:=Ic.loc;refine ⟨m,hn,λh' hs'=>?_⟩;let⟨J',nD⟩:=KG I2 f2 Ic rv hz hs';calc ⟨.ref ⇑s2,_,J',rfl,qq _ nD⟩
def gK (hN:X.N.Nodup) (hi':X.N[i]?=some x) (hx:Loc X.env.scope x) (hfn:X.fn x=true\/X.env.scope.names.lookup x=some .local)
  (C:CompIn X scope own) (hcalm:X.calm=true) (hi:PI X tg iter wi) (p:CompParts X scope tg ifs elt g tc te)
  (hsw:swapsWith (.ListComp elt [⟨tg,iter,ifs,0⟩] scope pos) (some (.Name x pos')) pos''.line X.env=pure true) (hs:∀ x,foldedSetIterable iter X.env x=pure x:=by intro _;rfl) :
  PS X (.Assign [.Name x pos'] (.ListComp elt [⟨tg,iter,ifs,0⟩] scope pos) pos'') (Hf (Kp own wi g tc te) (Cq i)):=by
 intro zB s Y H D I h;let⟨cl,hcl,c1,c2⟩:=C.sc.closure I;rw[exec_Assign_Name_used _ _ _ _ hsw];refine AA (wpAny_standAt (AA ?_))
 refine AA (An (wpAny_comprehension_free rfl hs hcl C.sc.kind C.sc.names
  (thn (hi zB s Y H _ I h) λv s1 h1=>thn h1 λitv s2 h2=>?_)) (λ_ s' hq=>AB (AB hq)) λ_ _ e=>e)
 let⟨it,fp,tn,J,H2,e,I2,T,st2,f2,W,⟨m0,w0⟩,turn⟩:=h2;subst e
 refine Pl C hcalm I2 T st2 f2 c1 c2 (p.g _ _ _ _ _) (p.c _ _ _ _ _) (p.e _ _ _ _ _)
  w0 turn ?_
 intro σc H' s' its n ys Ic rv hz qq;let⟨m,hn,_⟩:=Ic.loc;let⟨J',nD⟩:=KG I2 f2 Ic rv hz (.refl ..);let⟨oC,es,ep,hoC,hdC,r1,r2⟩:=id hn;let nC:upd H' ⇑s2 (.lst ys) (⇑s2+1)=none:=by rw[zS (Ca (DU _))];exact Ic.free
 let K':Inv X (zB++[(⇑s2+1,oC)]) Y (upd H' ⇑s2 (.lst ys)) s':=J'.pins_of λq hq=>by
  rcases AR.mp hq with z|z
  .exact J'.pin q (BD _ z)
  .have e:q=(⇑s2+1,oC):=by simpa using z
   subst e;refine ⟨hoC,nC,Ca (C7 I2.lt),I2.nofs (CQ _),λv z=>?_⟩;let z':oC.data=.cell v:=z;rw[hdC]at z';ext z'
 refine thn (Ly hN hi' hx hfn _ s' Y _ (.ref ⇑s2) (.ref ⇑s2) _ K' rfl (qq _ nD)) λ_ s'' ⟨Y'',H'',I'',q''⟩=>?_;let⟨eC,_⟩:=I''.pin (⇑s2+1,oC) (by simp);refine ⟨m,⟨oC,es,ep,eC,hdC,r1,r2⟩,λh' hs'=>⟨Y'',H'',?_,q''⟩⟩;let I3:Inv X zB Y'' H'' s'':=I''.unpinned;let⟨_,nC'',neC,_,_⟩:=I''.pin (⇑s2+1,oC) (by simp);refine I3.turned (λb o hb e=>hs'.extBut b o hb e) nC'' neC (.inr (Ao I2.sz (CQ _))) (λx c e z=>?_) (λq hq z=>?_)
 .obtain ⟨v,o,ho,hd⟩:=I3.cell x c e;rw[z,eC]at ho;ext ho;rw[hdC]at hd;ext hd
 .obtain ⟨e,_⟩:=I2.pin q hq;calc Ah (C7 (AI e)) z
abbrev BM (elt t1 i1:Expr) (f1:Yi) (t2 i2:Expr) (f2:Yi) (scope:Y0) (pos:Pos):Expr:=.ListComp elt [⟨t1,i1,f1,0⟩,⟨t2,i2,f2,0⟩] scope pos
def TM (elt t1 i1:Expr) (f1:Yi) (t2 i2:Expr) (f2:Yi) (scope:Y0) (pos:Pos) (it acc:Yu) (env:Env) :
  compTurn (BM elt t1 i1 f1 t2 i2 f2 scope pos) 0 it acc env=(do
   standAt i1.pos;match <- pyNext it with
   |none=>pure (.done .next)
   |some v=>
    letOwnedTupleGo t1 it v;assign t1 env v;let mut ok:=true
    for c in f1 do
     if ok then ok <- isTrue c env (eval c env)
    if ok then
     let x <- eval i2 env;standAt i2.pos;let x <- foldedSetIterable i2 env x;let _ <- runOwn (.compStart (BM elt t1 i1 f1 t2 i2 f2 scope pos) 1 (<- holding [x] (pyIter x)) acc env) env
    again (.compLoop (BM elt t1 i1 f1 t2 i2 f2 scope pos) 0 it acc env)):=by rfl
def X8 (elt t1 i1:Expr) (f1:Yi) (t2 i2:Expr) (f2:Yi) (scope:Y0) (pos:Pos) (it acc:Yu) (env:Env) :
  compTurn (BM elt t1 i1 f1 t2 i2 f2 scope pos) 1 it acc env=(do
   standAt i2.pos;match <- pyNext it with
   |none=>pure (.done .next)
   |some v=>
    letOwnedTupleGo t2 it v;assign t2 env v;let mut ok:=true
    for c in f2 do
     if ok then ok <- isTrue c env (eval c env)
    if ok then
     (do let _ <- call (.builtin "list.append") [acc,<-eval elt env])
    again (.compLoop (BM elt t1 i1 f1 t2 i2 f2 scope pos) 1 it acc env)):=by rfl
def Zl (I:Nat->Shared->Prop)
  (turn:∀ n s,I n s->wpAny (model prog w) A (pyNext it) (λr s₁=>match r with
   |none=>R (.ok .next) s₁
   |some v=>wpAny (model prog w) A (letOwnedTupleGo t2 it v) (λ_ s₁'=>wpAny (model prog w) A (assign t2 env v) (λ_ s₂=>
     wpAny (model prog w) A (forIn f2 true λc r=>if r=true then do let ok <- isTrue c env (eval c env);pure (ForInStep.yield ok) else pure (ForInStep.yield r)) (λok s₃=>
      if ok=true then wpAny (model prog w) A (eval elt env) (λx s₄=>
       wpAny (model prog w) A (call (.builtin "list.append") [acc,x]) (λ_ s₅=>∃ m,m<n/\I m s₅) (λ_ _=>False) s₄) (λ_ _=>False) s₃
      else ∃ m,m<n/\I m s₃) (λ_ _=>False) s₂) (λ_ _=>False) s₁') (λ_ _=>False) s₁) (λ_ _=>False) s)
  (n:Nat) (h:I n s) :
  codeAny (model prog w) A (.compLoop (BM elt t1 i1 f1 t2 i2 f2 scope pos) 1 it acc env) R s:=by
 refine codeAny_loop rfl I (λn s hI=>?_) n h;show wpAny _ A ((compTurn (BM elt t1 i1 f1 t2 i2 f2 scope pos) 1 it acc env).onRaise (λx=>do noteFrame x env;theTreesLotGoes x)) _ _ s;calc wpAny_noted ?_;rw[X8];refine AA (wpAny_standAt (AA (An (turn n s hI) (λr s₁ h₁=>?_) λ_ _ h'=>h'.elim)));cases r with
 |none=>calc AB h₁
 |some v=>
  refine AA (An h₁ (λ_ s₁' h₁'=>?_) λ_ _ h'=>h'.elim);refine AA (An h₁' (λ_ s₂ h₂=>AA (An h₂ (λok s₃ h₃=>?_) λ_ _ h'=>h'.elim)) λ_ _ h'=>h'.elim);cases ok with
  |false=>calc AB ⟨rfl,h₃⟩
  |true=>
   calc AA (AA (An h₃ (λx s₄ h₄=>AA (An h₄ (λ_ s₅ h₅=>AB (AB ⟨rfl,h₅⟩)) λ_ _ h'=>h'.elim)) λ_ _ h'=>h'.elim))
def Vi
  (h0:codeAny (model prog w) A (.compLoop (BM elt t1 i1 f1 t2 i2 f2 scope pos) 1 it acc env) R s)
  (h:wpAny (model prog w) A (pyIter it) (λit' s'=>codeAny (model prog w) A (.compLoop (BM elt t1 i1 f1 t2 i2 f2 scope pos) 1 it' acc env) R s')
   (notedBy (model prog w) A env λx s'=>R (.error x) s') s) :
  codeAny (model prog w) A (.compStart (BM elt t1 i1 f1 t2 i2 f2 scope pos) 1 it acc env) R s:=by
 calc codeAny_of_tree ?_;show wpAny _ _ ((compStart (BM elt t1 i1 f1 t2 i2 f2 scope pos) 1 it acc env).onRaise (λx=>do noteFrame x env;standAt theWindowsPlace)) _ _ s;calc wpAny_notedAt ?_;erw[compStart];calc AA (wpAny_askSetting (wpAny_ite ?_));split
 .first
   |calc AA (AB (AB (And.intro rfl h0)))
   |exact AB (And.intro rfl h0)
 .first
   |exact AA (BX (AA (wpAny_standAt (AA (An h (λit' s' h'=>AB (And.intro rfl h')) λ_ _ x=>x)))))
   | (calc AA (BX ?_);show wpAny _ _ (standAt i2.pos >>= _) _ _ s;calc AA (wpAny_standAt (AA (An h (λit' s' h'=>AB (And.intro rfl h')) λ_ _ x=>x))))
def Zk (hs2:∀ x,foldedSetIterable i2 env x=pure x) (I:Nat->Shared->Prop)
  (turn:∀ n s,I n s->wpAny (model prog w) A (pyNext it) (λr s₁=>match r with
   |none=>R (.ok .next) s₁
   |some v=>wpAny (model prog w) A (letOwnedTupleGo t1 it v) (λ_ s₁'=>wpAny (model prog w) A (assign t1 env v) (λ_ s₂=>
     wpAny (model prog w) A (forIn f1 true λc r=>if r=true then do let ok <- isTrue c env (eval c env);pure (ForInStep.yield ok) else pure (ForInStep.yield r)) (λok s₃=>
      if ok=true then wpAny (model prog w) A (eval i2 env) (λx s₄=>wpAny (model prog w) A (pyIter x) (λit2 s₅=>
       codeAny (model prog w) A (.compStart (BM elt t1 i1 f1 t2 i2 f2 scope pos) 1 it2 acc env) (λr s₆=>r=.ok .next /\ ∃ m,m<n/\I m s₆) s₅) (λ_ _=>False) s₄) (λ_ _=>False) s₃
      else ∃ m,m<n/\I m s₃) (λ_ _=>False) s₂) (λ_ _=>False) s₁') (λ_ _=>False) s₁) (λ_ _=>False) s)
  (n:Nat) (h:I n s) :
  codeAny (model prog w) A (.compLoop (BM elt t1 i1 f1 t2 i2 f2 scope pos) 0 it acc env) R s:=by
 refine codeAny_loop rfl I (λn s hI=>?_) n h;show wpAny _ A ((compTurn (BM elt t1 i1 f1 t2 i2 f2 scope pos) 0 it acc env).onRaise (λx=>do noteFrame x env;theTreesLotGoes x)) _ _ s;calc wpAny_noted ?_;rw[TM];refine AA (wpAny_standAt (AA (An (turn n s hI) (λr s₁ h₁=>?_) λ_ _ h'=>h'.elim)));cases r with
 |none=>calc AB h₁
 |some v=>
  refine AA (An h₁ (λ_ s₁' h₁'=>?_) λ_ _ h'=>h'.elim);refine AA (An h₁' (λ_ s₂ h₂=>AA (An h₂ (λok s₃ h₃=>?_) λ_ _ h'=>h'.elim)) λ_ _ h'=>h'.elim);cases ok with
  |false=>calc AB ⟨rfl,h₃⟩
  |true=>
   refine AA (An h₃ (λx s₄ h₄=>AA (wpAny_standAt (AA (DQ (hs2 x) (AA (BQ (An h₄ (λit2 s₅ h₅=>?_) λ_ _ h'=>h'.elim))))))) λ_ _ h'=>h'.elim);refine AA (wpAny_runOwn (codeAny_mono h₅ λr s₆ hr=>?_));let⟨rfl,hr⟩:=hr;calc AB ⟨rfl,hr⟩
def tIn (own2:Yj) (wi2:TI) (g2:TG) (tc2:TT) (te:TE) (σ2:St) (H3:Hp) (ys:List V) (QQ:List V->Hp->Prop):Prop :=
 wi2 σ2 H3 λJ2 H4=>∃ W2:Nat->Nat->List V->Hp->Prop,(∃ m,W2 0 m ys H4) /\ ∀ j m zs H,W2 j m zs H ->
  (J2.stop j H/\QQ zs H) \/
  (J2.go j H /\ ∀ x H',J2.yld j H x H'->g2 x (clr own2 σ2) H' λσ3 H5=>Ext (clr own2 σ2) σ3/\tc2 σ3 H5 λb H6=>
   if b=true then te σ3 H6 λv H7=>zs.length<sizeLine /\ ∃ m',m'<m/\W2 (j+1) m' (zs++[v]) H7 else ∃ m',m'<m/\W2 (j+1) m' zs H6)
section
variable {D:Yt}
 {own2:Yj} {wi2:TI} {g2:TG} {tc2:TT} {te:TE} {R:Yx}
def bZ (hxe:C.xe=λ_ _=>False) (hcalm:C.calm=true) (hi:PI C t2 i2 wi2) (hg:PG C t2 g2) (hc:EJ C f2 tc2) (he:PE C elt te) (hD:⇑C.s₀<=D)
  (hcD:∀ x c,C.env.cells.lookup x=some c->c≠D) (hpl:∀ p∈C.pn++pl,p.1≠D) (I:Inv C (pl++[(D,zd its k)]) Y H s) (rv:zT ys its) (h:tIn own2 wi2 g2 tc2 te Y H ys QQ)
  (fin:∀ s' H' its' k' zs,Inv C (pl++[(D,zd its' k')]) (clr own2 Y) H' s'->zT zs its'->QQ zs H'->R (.ok .next) s') :
  wpAny (model C.prog C.w) C.A (eval i2 C.env) (λx s₄=>wpAny (model C.prog C.w) C.A (pyIter x) (λit2 s₅=>
   codeAny (model C.prog C.w) C.A (.compStart (BM elt t1 i1 f1 t2 i2 f2 scope pos) 1 it2 (.ref D) C.env) R s₅) (λ_ _=>False) s₄) (λ_ _=>False) s:=by
 let hpi:=hi _ s Y H _ I h;rw[hxe]at hpi;refine thn hpi λv s1 h1=>thn h1 λitv s2 h2=>?_;let⟨it,fp,tn,J,H2,e,I2,T,st2,f2',W,⟨m0,w0⟩,turn⟩:=h2;subst e;let hDfp:D∉fp:=λz=>(f2' D z).2.2.2.2.2 (D,zd its k) (by simp) rfl;let loop:∀ s',(∃ H',Inv C (pl++[(D,zd its k)]) (clr own2 Y) H' s'/\tn 0 s'.heap/\(∀ b∈fp,H' b=none)/\W 0 m0 ys H')->codeAny (model C.prog C.w) C.A (.compLoop (BM elt t1 i1 f1 t2 i2 f2 scope pos) 1 (.ref it) (.ref D) C.env) R s':=by
  rintro s' ⟨H',I',st',hn',w'⟩;let fpk:∀ {H':Hp} {its:Yf} {k:Nat},(∀ b∈fp,H' b=none) -> ∀ b∈fp,Bq C (pl++[(D,zd its k)]) H' b:=λ{H' its k} hn b hb=>by
   let⟨_,a2,a3,a4,a5,a6⟩:=f2' b hb;refine ⟨hn b hb,a2,a3,a4,a5,λp hp=>?_⟩;rcases AR.mp hp with z|z
   .exact a6 p (CJ _ z)
   .rcases AR.mp z with z|z
    .exact a6 p (BD _ (CJ _ z))
    .have:p=(D,zd its k):=by simpa using z
     rw[this];intro q;let q':D=b:=q;exact hDfp (q'▸hb)
  refine Zl (λn s'=>∃ i H' ys its k,Inv C (pl++[(D,zd its k)]) (clr own2 Y) H' s'/\zT ys its/\tn i s'.heap/\(∀ b∈fp,H' b=none)/\W i n ys H') ?_ m0 ⟨0,H',ys,its,k,I',rv,st',hn',w'⟩;rintro n s5 ⟨i,H5,ys,its,k,I5,r5,st5,f5,w5⟩;rcases turn i n ys H5 w5 with ⟨stop,qq⟩|⟨go,step⟩
  .refine thn (T.done C rfl rfl rfl hcalm i _ s5 _ H5 _ I5 (fpk f5) st5 stop) λr s6 ⟨hr,I6⟩=>?_;subst hr;exact fin s6 H5 its k ys I6 r5 qq
  .refine thn (T.item C rfl rfl rfl hcalm i _ s5 _ H5 _ I5 (fpk f5) st5 go) λr s6 ⟨u,hr,h6⟩=>?_;subst hr;refine thn h6 λ_ s7 ⟨x,H7,I7,r7,y7,st7,f7⟩=>?_;let I7':=I7.pinned (fpk f7) (T.obj _ _ st7);let hgg:=hg _ s7 _ H7 x u _ I7' r7 (step x H7 y7);rw[hxe]at hgg;refine thn hgg λ_ s8 ⟨σ8,H8,I8,x8,q8⟩=>?_;let hcc:=hc _ s8 σ8 H8 _ I8 q8;rw[hxe]at hcc;refine thn hcc λok s9 ⟨H9,I9,q9⟩=>?_;let back:∀ {s':Yl} {Hx:Hp},Inv C ((pl++[(D,zd its k)])++Fp fp s7.heap) σ8 Hx s'->tn (i+1) s'.heap /\ ∀ b∈fp,Hx b=none:=λ{s' Hx} Ix=>
    ⟨T.keep _ _ _ st7 λb hb o e=>(Ix.pin (b,o) (BD _ (BD _ (FP hb e)))).1,λb hb=>by
     let⟨o,e,d⟩:=T.obj _ _ st7 b hb;calc (Ix.pin (b,o) (BD _ (BD _ (FP hb e)))).2.1⟩
   cases ok with
   |false=>
    let⟨m',hm,w'⟩:=q9;let⟨b1,b2⟩:=back I9;calc ⟨m',hm,i+1,H9,ys,its,k,(I9.weak (by rw[x8.1]) x8.2).unpinned,r5,b1,b2,w'⟩
   |true=>
    let hee:=he _ s9 σ8 H9 _ I9 q9;rw[hxe]at hee;refine thn hee λv s10 ⟨y,H10,I10,r10,hlt,m',hm,w'⟩=>?_;let⟨b1,b2⟩:=back I10;let J10:=(I10.weak (by rw[x8.1]) x8.2).unpinned;let⟨e10,n10,ne10,nf10,d10⟩:=J10.pin (D,zd its k) (by simp);let hlen:its.toArray.size<=sizeLine:=by
     have:=r5.length;rw[AO,<-this];exact DV hlt
    refine wpAny_list_append_plain (show s10.heap.PlainList D its.toArray from ⟨k,e10⟩) λh' hl' hs'=>?_;let⟨k',e'⟩:=hl';let e'':h'.get? D=some (zd (its++[v]) k'):=by rw[e'];simp[zd]
    refine ⟨m',hm,i+1,H10,ys++[y],its++[v],k',?_,r5.append (.cons r10 .nil),T.keep _ _ _ b1 λb hb o e=>hs'.extBut b o (λz=>hDfp (z▸hb)) e,b2,w'⟩;exact Inv.repin J10 hpl hs' hD hcD e'' (by intro v z;ext z)
 let l0:=loop s2 ⟨H2,I2.weak (HZ own2 Y) (λi v h=>(HL own2 Y i v h).1),st2,λb hb=>(f2' b hb).1,w0⟩;calc Vi l0 (T.self _ 0 _ _ _ st2 l0)
end
section
variable {pos:Pos}
 {own own2:Yj} {g g2:TG} {tc tc2:TT} {te:TE} {wi wi2:TI} {E:Yc}
theorem QC:∀ (own:Yj) (Y:St) (j:Nat),j∉own->(clr own Y)[j]?=Y[j]?
 |[],_,_,_=>rfl
 |i::r,Y,j,h=>by
  show (clr r (Y.set i none))[j]?=_;rw[QC r _ j (λz=>h (BF _ z)),Bl (λz=>h (by rw[z];calc Ax))]
def Pf (hsub:∀ i∈own2,i∈own) (C:CompIn X scope own) (hcalm:X.calm=true) (I:Inv X zB Y H s) (T:Turn X.prog X.w X.K t1 J fp it tn) (st:tn 0 s.heap) (hf:∀ b∈fp,Bq X zB H b)
  (c1:∀ x c,cl.lookup x=some c->X.env.cells.lookup x=some c) (c2:∀ y∈scope.names,y.2=.free->(cl.lookup y.1).isSome=true)
  (hg:PG (zP X zB scope cl s H fp) t1 g) (hi:EJ (zP X zB scope cl s H fp) f1 tc)
  (hi2:PI (zP X zB scope cl s H fp) t2 i2 wi2) (hg2:PG (zP X zB scope cl s H fp) t2 g2) (hc2:EJ (zP X zB scope cl s H fp) f2 tc2) (he:PE (zP X zB scope cl s H fp) elt te)
  (hs2:∀ x,foldedSetIterable i2 (zP X zB scope cl s H fp).env x=pure x)
  {RR:Value->Addr->Result->Shared->Prop} {QQ:List V->Hp->Prop} {W:Nat->Nat->List V->Hp->Prop} {m0:Nat} (w0:W 0 m0 [] H)
  (turn:∀ i m ys H,W i m ys H->(J.stop i H/\ys.length<=sizeLine/\QQ ys H) \/
   (J.go i H /\ ∀ x H',J.yld i H x H'->g x (clr own Y) H' λσ2 H2=>Ext (clr own Y) σ2/\tc σ2 H2 λb H3=>
    if b=true then tIn own2 wi2 g2 tc2 te σ2 H3 ys λzs H4=>∃ m',m'<m/\W (i+1) m' zs H4 else ∃ m',m'<m/\W (i+1) m' ys H3))
  (fin:∀ σc H' s' its n ys,Inv (zP X zB scope cl s H fp) [(⇑s,zd its n)] σc H' s'->zT ys its->ys.length<=sizeLine->QQ ys H'->RR (.ref ⇑s) (⇑s+1) (.ok .next) s') :
  wpAny (model X.prog X.w) X.A (newList []) (λacc s₃=>wpAny (model X.prog X.w) X.A (newFunctionEnv scope X.env.globals cl [] X.env.qual none .none (some X.env)) (λcenv s₄=>
   codeAny (model X.prog X.w) X.A (.compStart (BM elt t1 i1 f1 t2 i2 f2 scope pos) 0 (.ref it) acc { cenv with scope:=relabel scope X.env }) (RR acc cenv.locals) s₄) E s₃) E s:=by
 let ob:∀ b:Nat,b∈fp->b<⇑s:=λb hb=>let ⟨_,e,_⟩:=T.obj 0 _ st b hb;AI e;refine A9 (Pa ?_);let sz1:(s.heap.push (zd [] 0)).objs.size=⇑s+1:=Bn ..;let I4:=Ow C.sc I hf ob c1 c2 (HZ own Y) (λi x v h1 h2 h3=>by
  let⟨a,b⟩:=HL own Y i v h2;rcases C.nm i x h1 with z|z|z
  .exact absurd z b
  .exact absurd (QG x z) h3
  .exact ⟨z,a⟩) (zd [] 0) (by intro v z;ext z) rfl rfl
 let st4:tn 0 (pushCells ((s.heap.push (zd [] 0)).push { cls:=.type "dict", data:=.dict #[] }) scope.names):=T.keep 0 _ _ st λb _ o e=>pushCells_keeps _ _ b o (AH _ (AH _ e));erw[newEnv];rw[sz1];let hDfp:⇑s∉fp:=λz=>BN _ (ob _ z);let hcD:∀ x c,(zP X zB scope cl s H fp).env.cells.lookup x=some c->c≠⇑s:=λx c e z=>by
  let⟨v,o,ho,hd⟩:=I4.cell x c e;let⟨q,_⟩:=I4.pin (⇑s,zd [] 0) (by simp);rw[z,q]at ho;ext ho;ext hd
 let fpk:∀ {H':Hp} {pl:Yd},(∀ b∈fp,H' b=none)->(∀ p∈pl,p.1=⇑s) -> ∀ b∈fp,Bq (zP X zB scope cl s H fp) pl H' b:=λ{H' pl} hn hp b hb=>
  ⟨hn b hb,(I4.ok.exf b hb).1,I4.ok.exfs b hb,.inl hb,(I4.ok.exf b hb).2,λp hq=>by
   rcases AR.mp hq with z|z
   .exact (hf b hb).2.2.2.2.2 p z
   .intro e;let e2:=hp p z;rw[e]at e2;calc hDfp (e2▸hb)⟩
 let loop:codeAny (model X.prog X.w) X.A (.compLoop (BM elt t1 i1 f1 t2 i2 f2 scope pos) 0 (.ref it) (.ref ⇑s) (zP X zB scope cl s H fp).env) (RR (.ref ⇑s) (⇑s+1))
   { s with heap:=pushCells ((s.heap.push (zd [] 0)).push { cls:=.type "dict", data:=.dict #[] }) scope.names }:=by
  refine Zk hs2 (λn s'=>∃ i H' ys its k,Inv (zP X zB scope cl s H fp) [(⇑s,zd its k)] (clr own Y) H' s'/\zT ys its/\tn i s'.heap/\(∀ b∈fp,H' b=none)/\W i n ys H') ?_ m0
   ⟨0,H,[],[],0,I4,.nil,st4,λb hb=>(hf b hb).1,w0⟩
  rintro n s5 ⟨i,H5,ys,its,k,I5,r5,st5,f5,w5⟩;let pinD:∀ p∈[(⇑s,zd its k)],p.1=⇑s:=λp hp=>by
   have:p=(⇑s,zd its k):=by simpa using hp
   rw[this]
  rcases turn i n ys H5 w5 with ⟨stop,hz,qq⟩|⟨go,step⟩
  .refine thn (T.done (zP X zB scope cl s H fp) rfl rfl rfl hcalm i _ s5 _ H5 _ I5 (fpk f5 pinD) st5 stop) λr s6 ⟨hr,I6⟩=>?_;subst hr;exact fin _ H5 s6 its k ys I6 r5 hz qq
  .refine thn (T.item (zP X zB scope cl s H fp) rfl rfl rfl hcalm i _ s5 _ H5 _ I5 (fpk f5 pinD) st5 go) λr s6 ⟨u,hr,h6⟩=>?_;subst hr;refine thn h6 λ_ s7 ⟨x,H7,I7,r7,y7,st7,f7⟩=>?_;let I7':=I7.pinned (fpk f7 pinD) (T.obj _ _ st7);refine thn (hg _ s7 _ H7 x u _ I7' r7 (step x H7 y7)) λ_ s8 ⟨σ8,H8,I8,x8,q8⟩=>?_;refine thn (hi _ s8 σ8 H8 _ I8 q8) λok s9 ⟨H9,I9,q9⟩=>?_;let back:∀ {σx:St} {s':Yl} {Hx:Hp} {its:Yf} {k:Nat},(clr own Y).length=σx.length->(∀ (i:Nat) v,(clr own Y)[i]?=some (some v)->σx[i]?=some (some v))->Inv (zP X zB scope cl s H fp) (Fp fp s7.heap++[(⇑s,zd its k)]) σx Hx s'->Inv (zP X zB scope cl s H fp) [(⇑s,zd its k)] (clr own Y) Hx s'/\tn (i+1) s'.heap /\ ∀ b∈fp,Hx b=none:=λ{σx s' Hx its k} hl hk Ix=>
    ⟨(Ix.weak hl hk).pins_of λp hp=>Ix.pin p (BD _ (BD _ hp)),
     T.keep _ _ _ st7 λb hb o e=>(Ix.pin (b,o) (BD _ (CJ _ (FP hb e)))).1,λb hb=>by
     let⟨o,e,d⟩:=T.obj _ _ st7 b hb;calc (Ix.pin (b,o) (BD _ (CJ _ (FP hb e)))).2.1⟩
   let I9':Inv (zP X zB scope cl s H fp) (Fp fp s7.heap++[(⇑s,zd its k)]) σ8 H9 s9:=I9.pins_of λp hp=>I9.pin p (BD _ (by
    rcases AR.mp hp with z|z
    .exact BD _ z
    .exact CJ _ z))
   cases ok with
   |false=>
    let⟨m',hm,w'⟩:=q9;let⟨b0,b1,b2⟩:=back (by rw[x8.1]) x8.2 I9';calc ⟨m',hm,i+1,H9,ys,its,k,b0,r5,b1,b2,w'⟩
   |true=>
    refine bZ (C:=zP X zB scope cl s H fp) rfl hcalm hi2 hg2 hc2 he (AF _) hcD (λp hp=>?_) I9' r5 q9 λs' H' its' k' zs I' rv' q'=>?_
    .rcases AR.mp hp with z|z
     .exact Ah (AI (I.pin p z).1)
     .obtain ⟨hb,_⟩:=Qa z;exact Ah (ob _ hb)
    .obtain ⟨m',hm,w'⟩:=q';let⟨b0,b1,b2⟩:=back (by rw[HZ own2,x8.1]) (λi v hv=>by rw[QC own2 _ i (λz=>(HL own Y i v hv).2 (hsub i z))];calc x8.2 i v hv) I';exact ⟨rfl,m',hm,i+1,H',zs,its',k',b0,rv',b1,b2,w'⟩
 calc codeAny_compStart_list loop (T.self _ 0 _ _ _ st4 loop)
def Mp (own own2:Yj) (wi:TI) (g:TG) (tc:TT) (wi2:TI) (g2:TG) (tc2:TT) (te:TE):TE:=λY H Q=>wi Y H λJ H1=>∃ W:Nat->Nat->List V->Hp->Prop,(∃ m,W 0 m [] H1) /\ ∀ i m ys H,W i m ys H ->
 (J.stop i H/\ys.length<=sizeLine /\ ∀ D,H D=none->Q (.ref D) (upd H D (.lst ys))) \/
 (J.go i H /\ ∀ x H',J.yld i H x H'->g x (clr own Y) H' λσ2 H2=>Ext (clr own Y) σ2/\tc σ2 H2 λb H3=>
  if b=true then tIn own2 wi2 g2 tc2 te σ2 H3 ys λzs H4=>∃ m',m'<m/\W (i+1) m' zs H4 else ∃ m',m'<m/\W (i+1) m' ys H3)
structure CompParts2 (X:Cx) (scope:Y0) (t1:Expr) (f1:Yi) (t2 i2:Expr) (f2:Yi) (elt:Expr) (g:TG) (tc:TT) (wi2:TI) (g2:TG) (tc2:TT) (te:TE):Prop where
 g:∀ zB cl s H fp,PG (zP X zB scope cl s H fp) t1 g
 c:∀ zB cl s H fp,EJ (zP X zB scope cl s H fp) f1 tc
 w2:∀ zB cl s H fp,PI (zP X zB scope cl s H fp) t2 i2 wi2
 g2:∀ zB cl s H fp,PG (zP X zB scope cl s H fp) t2 g2
 c2:∀ zB cl s H fp,EJ (zP X zB scope cl s H fp) f2 tc2
 e:∀ zB cl s H fp,PE (zP X zB scope cl s H fp) elt te
 s2:∀ zB cl s H fp x,foldedSetIterable i2 (zP X zB scope cl s H fp).env x=pure x
def cD (hsub:∀ i∈own2,i∈own) (C:CompIn X scope own) (hcalm:X.calm=true) (hi:PI X t1 i1 wi) (p:CompParts2 X scope t1 f1 t2 i2 f2 elt g tc wi2 g2 tc2 te) (hs:∀ x,foldedSetIterable i1 X.env x=pure x:=by intro _;rfl) :
  PE X (BM elt t1 i1 f1 t2 i2 f2 scope pos) (Mp own own2 wi g tc wi2 g2 tc2 te):=by
 intro zB s Y H Q I h;let⟨cl,hcl,c1,c2⟩:=C.sc.closure I;rw[eval_ListComp];refine wpAny_comprehension_free rfl hs hcl C.sc.kind C.sc.names (thn (hi zB s Y H _ I h) λv s1 h1=>thn h1 λitv s2 h2=>?_);let⟨it,fp,tn,J,H2,e,I2,T,st2,f2,W,⟨m0,w0⟩,turn⟩:=h2;subst e;calc Pf hsub C hcalm I2 T st2 f2 c1 c2 (p.g _ _ _ _ _) (p.c _ _ _ _ _) (p.w2 _ _ _ _ _) (p.g2 _ _ _ _ _) (p.c2 _ _ _ _ _) (p.e _ _ _ _ _) (p.s2 _ _ _ _ _) w0 turn ?_;intro σc H' s' its n ys Ic rv hz qq;let⟨m,hn,_⟩:=Ic.loc;refine ⟨m,hn,λh' hs'=>?_⟩;let⟨J',nD⟩:=KG I2 f2 Ic rv hz hs';calc ⟨.ref ⇑s2,_,J',rfl,qq _ nD⟩
end
end L2
namespace L3
open L2
abbrev Sv:=List (Option V)
def Il (H:Hp) (v:Yu):Prop:=∃ a oc vs q t,v=.ref a/\H a=some (.frz oc (.ext λ_=>True))/\oc.data=.fields vs/\vs[1]?=some (.str q t)
structure Lm where
 f:Addr
 c:Value
 us:List V
set_option genInjectivity true in
inductive D where
 |non|bl (b:Bool)|int (i:Int)|str (x:Str)|tup (xs:List D)|ref (n:Nat)|fn (l:Lm) (ds:List D)
set_option genInjectivity true in
inductive MO where
 |lst (xs:List D)|fro (xs:List D)|dict (kvs:List (D × D))|dicT (kvs:List (D × D))|set (xs:List D)|froT (kvs:List (D × D))|froK (kvs:List (D × D))
mutual
def Rep (L:Yg) (H:Hp):D->V->Prop
 |.non,v=>v=.non
 |.bl b,v=>v=.bl b
 |.int i,v=>v=.int i
 |.str x,v=>v=.str x
 |.tup ds,v=>∃ a vs,v=.ref a/\H a=some (.tup vs)/\zG L H ds vs
 |.ref n,v=>∃ a,v=.ref a/\L[n]?=some a
 |.fn l ds,v=>v=.ref l.f/\Il H l.c/\zG L H ds l.us
def zG (L:Yg) (H:Hp):List D->List V->Prop
 |[],vs=>vs=[]
 |d::ds,vs=>∃ v r,vs=v::r/\Rep L H d v/\zG L H ds r
end
def zG.length:∀ {ds:List D} {vs:List V},zG L H ds vs->vs.length=ds.length
 |[],_,h=>by erw[zG]at h;subst h;rfl
 |d::ds,_,h=>by
  erw[zG]at h;let⟨v,r,rfl,_,h2⟩:=h;simp[zG.length h2]
def zG.nil:zG L H [] []:=by erw[zG];rfl
def zG.cons (h:Rep L H d v) (t:zG L H ds vs):zG L H (d::ds) (v::vs):=by
 erw[zG];calc ⟨v,vs,rfl,h,t⟩
def zG.get:∀ {ds:List D} {vs:List V} {i:Nat} {d:D},zG L H ds vs->ds[i]?=some d -> ∃ v,vs[i]?=some v/\Rep L H d v
 |[],_,_,_,_,e=>by simp at e
 |d::ds,_,0,d',h,e=>by
  erw[zG]at h;let⟨v,r,rfl,h1,h2⟩:=h;simp at e;subst e;calc ⟨v,rfl,h1⟩
 |d::ds,_,i+1,d',h,e=>by
  erw[zG]at h;let⟨v,r,rfl,h1,h2⟩:=h;let⟨u,e1,e2⟩:=zG.get (i:=i) h2 (~~~e);calc ⟨u,by simpa using e1,e2⟩
def zG.app:∀ {ds es:List D} {vs ws:List V},zG L H ds vs->zG L H es ws->zG L H (ds++es) (vs++ws)
 |[],_,_,_,h,t=>by erw[zG]at h;subst h;calc t
 |d::ds,_,_,_,h,t=>by
  erw[zG]at h;let⟨v,r,rfl,h1,h2⟩:=h;calc .cons h1 (zG.app h2 t)
def zG.set (h:Rep L H d v):∀ {ds:List D} {vs:List V} (i:Nat),zG L H ds vs->zG L H (ds.set i d) (vs.set i v)
 |[],_,_,t=>by erw[zG]at t;subst t;calc .nil
 |_::_,_,0,t=>by
  erw[zG]at t;let⟨v',r,rfl,h1,h2⟩:=t;calc .cons h h2
 |_::_,_,i+1,t=>by
  erw[zG]at t;let⟨v',r,rfl,h1,h2⟩:=t;calc .cons h1 (zG.set h i h2)
def zG.drop:∀ {ds:List D} {vs:List V} (n:Nat),zG L H ds vs->zG L H (ds.drop n) (vs.drop n)
 |_,_,0,t=>t
 |[],_,n+1,t=>by erw[zG]at t;subst t;calc .nil
 |_::_,_,n+1,t=>by
  erw[zG]at t;let⟨v',r,rfl,h1,h2⟩:=t;calc zG.drop n h2
def zG.take:∀ {ds:List D} {vs:List V} (n:Nat),zG L H ds vs->zG L H (ds.take n) (vs.take n)
 |_,_,0,t=> .nil
 |[],_,n+1,t=>by erw[zG]at t;subst t;calc .nil
 |_::_,_,n+1,t=>by
  erw[zG]at t;let⟨v',r,rfl,h1,h2⟩:=t;calc .cons h1 (zG.take n h2)
def zG.eraseIdx:∀ {ds:List D} {vs:List V} (n:Nat),zG L H ds vs->zG L H (ds.eraseIdx n) (vs.eraseIdx n)
 |[],_,n,t=>by erw[zG]at t;subst t;calc .nil
 |_::_,_,0,t=>by
  erw[zG]at t;let⟨v',r,rfl,h1,h2⟩:=t;calc h2
 |_::_,_,n+1,t=>by
  erw[zG]at t;let⟨v',r,rfl,h1,h2⟩:=t;calc .cons h1 (zG.eraseIdx n h2)
def Il.keep (h:∀ a o u,H a=some (.frz o u)->H' a=some (.frz o u)) (x:Il H v):Il H' v :=
 let ⟨a,oc,vs,q,t,e1,e2,r⟩:=x;⟨a,oc,vs,q,t,e1,h _ _ _ e2,r⟩
def E4 (H:Hp) (ps:Yp):Prop:=PySem.TriplesOk ps.toList /\ ∀ pos v,codeAmong pos ps.toList=some v->Il H v
def E4.keep (h:∀ a o u,H a=some (.frz o u)->H' a=some (.frz o u)) (g:E4 H ps):E4 H' ps :=
 ⟨g.1,λpos v e=>(g.2 pos v e).keep h⟩
abbrev NT (o:HO):Prop:=∀ ps,o≠.tbl ps
structure Stp (L:Yg) (H:Hp) (L':Yg) (H':Hp):Prop where
 pre:∃ N,L'=L++N
 new:∀ a∈L',a∈L\/H a=none
 old:∀ a o,H a=some o->a∉L->NT o->H' a=some o
 tup:∀ a xs,H a=some (.tup xs)->H' a=some (.tup xs)
 frz:∀ a o u,H a=some (.frz o u)->H' a=some (.frz o u)
 tbl:∀ a ps,H a=some (.tbl ps) -> ∃ ps',H' a=some (.tbl ps')/\(E4 H ps->E4 H' ps')
def Stp.refl (L:Yg) (H:Hp):Stp L H L H:=⟨⟨[],by simp⟩,λ_ h=> .inl h,λ_ _ h _ _=>h,λ_ _ h=>h,λ_ _ _ h=>h,λ_ ps h=>⟨ps,h,id⟩⟩
def J0 (hf:∀ a o u,H a=some (.frz o u)->H' a=some (.frz o u)) (h:∀ a ps,H a=some (.tbl ps)->H' a=some (.tbl ps)) :
  ∀ a ps,H a=some (.tbl ps) -> ∃ ps',H' a=some (.tbl ps')/\(E4 H ps->E4 H' ps'):=λa ps e=>⟨ps,h a ps e,.keep hf⟩
def Stp.trans (a:Stp L H L1 H1) (b:Stp L1 H1 L2 H2):Stp L H L2 H2:=by
 let⟨N,rfl⟩:=a.pre;let⟨N',rfl⟩:=b.pre;let back:∀ c,c∉L->H1 c=none->H c=none:=λc hc h1=>by
  cases q:H c with
  |none=>rfl
  |some o=>
   by_cases z:NT o
   .rw[a.old c o q hc z]at h1;ext h1
   .obtain ⟨ps,z⟩:=Classical.not_forall.mp z;rw[Classical.not_not.mp z]at q;let⟨ps',e,_⟩:=a.tbl c ps q;rw[e]at h1;ext h1
 refine ⟨⟨N++N',by simp⟩,λc hc=>?_,λc o e hc nt=>?_,λc xs e=>b.tup c xs (a.tup c xs e),λc o u e=>b.frz c o u (a.frz c o u e),λc ps e=>?_⟩
 .by_cases hL:c∈L
  .exact .inl hL
  .rcases b.new c hc with z|z
   .exact a.new c z
   .exact .inr (back c hL z)
 .refine b.old c o (a.old c o e hc nt) (λz=>?_) nt;rcases a.new c z with q|q
  .exact hc q
  .rw[q]at e;ext e
 .obtain ⟨p1,e1,g1⟩:=a.tbl c ps e;let⟨p2,e2,g2⟩:=b.tbl c p1 e1;calc ⟨p2,e2,λg=>g2 (g1 g)⟩
def Stp.grow (h:∀ a o,H a=some o->H' a=some o):Stp L H L H':=⟨⟨[],by simp⟩,λ_ h=> .inl h,λa o e _ _=>h a o e,λa _ e=>h a _ e,λa _ _ e=>h a _ e,J0 (λa _ _ e=>h a _ e) λa _ e=>h a _ e⟩
def Stp.bare (s:Stp [] H N H'):Stp L H L H':=⟨⟨[],by simp⟩,λ_ h=> .inl h,λa o e _ nt=>s.old a o e (by simp) nt,s.tup,s.frz,s.tbl⟩
theorem Stp.upd (h:H p=none):Stp L H L (upd H p o):=.grow λa u e=>by rw[zS (DW e h)];calc e
def F9 {L N:Yg} {n:Nat} {a:Yt} (h:L[n]?=some a):(L++N)[n]?=some a:=by
 rw[Bf (AK.mp h).1];calc h
mutual
theorem Rep.stp {L L':Yg} {H H':Hp} (s:Stp L H L' H'):∀ {d:D} {v:V},Rep L H d v->Rep L' H' d v
 |.non,_,h=>by unfold Rep at h ⊢;calc h
 |.bl _,_,h=>by unfold Rep at h ⊢;calc h
 |.int _,_,h=>by unfold Rep at h ⊢;calc h
 |.str _,_,h=>by unfold Rep at h ⊢;calc h
 |.tup ds,_,h=>by
  unfold Rep at h ⊢;let⟨a,vs,rfl,e,r⟩:=h;calc ⟨a,vs,rfl,s.tup a vs e,zG.stp s r⟩
 |.ref n,_,h=>by
  unfold Rep at h ⊢;let⟨a,rfl,e⟩:=h;let⟨N,rfl⟩:=s.pre;calc ⟨a,rfl,F9 e⟩
 |.fn _ ds,_,h=>by
  unfold Rep at h ⊢;calc ⟨h.1,h.2.1.keep s.frz,zG.stp s h.2.2⟩
theorem zG.stp (s:Stp L H L' H'):∀ {ds:List D} {vs:List V},zG L H ds vs->zG L' H' ds vs
 |[],_,h=>by unfold zG at h ⊢;calc h
 |d::ds,_,h=>by
  unfold zG at h ⊢;let⟨v,r,rfl,h1,h2⟩:=h;calc ⟨v,r,rfl,Rep.stp s h1,zG.stp s h2⟩
end
def Az:D->Option Key
 |.int i=>some (.inl i)
 |.str x=>some (.inr x)
 |_=>none
def EK:List D->Option (List Key)
 |[]=>some []
 |d::r=>match Az d,EK r with
  |some k,some ks=>some (k::ks)
  |_,_=>none
def tkD:D->Option (List Key)
 |.tup ds=>EK ds
 |_=>none
def AS {κ:Type} (kf:D->Option κ) (L:Yg) (H:Hp):List (D × D)->List (κ × V)->Prop
 |[],vs=>vs=[]
 |p::r,vs=>∃ k v r',vs=(k,v)::r'/\kf p.1=some k/\Rep L H p.2 v/\AS kf L H r r'
def AS.stp {κ:Type} {kf:D->Option κ} {L L':Yg} {H H':Hp} (s:Stp L H L' H'):∀ {ps:List (D × D)} {vs:List (κ × V)},AS kf L H ps vs->AS kf L' H' ps vs
 |[],_,h=>h
 |p::r,_,h=>by
  let⟨k,v,r',rfl,e,h1,h2⟩:=h;calc ⟨k,v,r',rfl,e,h1.stp s,AS.stp s h2⟩
def AS.length {κ:Type} {kf:D->Option κ} {L:Yg} {H:Hp}:∀ {ps:List (D × D)} {vs:List (κ × V)},AS kf L H ps vs->vs.length=ps.length
 |[],_,h=>by erw[AS]at h;subst h;rfl
 |p::r,_,h=>by
  let⟨k,v,r',rfl,e,h1,h2⟩:=h;simp[AS.length h2]
def DF (K:Yb) (L:Yg) (H:Hp) (a:Yt):MO->Prop
 |.lst xs=>∃ vs,H a=some (.lst vs)/\zG L H xs vs
 |.fro xs=>∃ o vs,H a=some (.frz o (.lst vs))/\zG L H xs vs
 |.dict ps=>∃ vs,H a=some (.dK vs)/\AS Az L H ps vs
 |.dicT ps=>∃ vs,H a=some (.dT vs)/\AS tkD L H ps vs
 |.set _=>∃ o u,H a=some (.frz o u)
 |.froT ps=>∃ o vs,H a=some (.frz o (.dT vs))/\AS tkD L H ps vs
 |.froK ps=>∃ o vs,H a=some (.frz o (.dK vs))/\AS Az L H ps vs
def DF.there {K:Yb} {L:Yg} {H:Hp} {a:Yt} {m:MO} (h:DF K L H a m):∃ o,H a=some o:=by
 cases m with
 |lst xs=>let⟨vs,e,_⟩:=h;calc ⟨_,e⟩
 |fro xs=>let⟨o,vs,e,_⟩:=h;calc ⟨_,e⟩
 |dict ps=>let⟨vs,e,_⟩:=h;calc ⟨_,e⟩
 |dicT ps=>let⟨vs,e,_⟩:=h;calc ⟨_,e⟩
 |set _=>let⟨o,u,e⟩:=h;calc ⟨_,e⟩
 |froT ps=>let⟨o,vs,e,_⟩:=h;calc ⟨_,e⟩
 |froK ps=>let⟨o,vs,e,_⟩:=h;calc ⟨_,e⟩
def DF.stp {K:Yb} {L L':Yg} {H H':Hp} {a:Yt} {m:MO} (s:Stp L H L' H') (hk:∀ o,NT o->H a=some o->H' a=some o) (h:DF K L H a m):DF K L' H' a m:=by
 cases m with
 |lst xs=>let⟨vs,e,r⟩:=h;calc ⟨vs,hk _ (by intro _ z;ext z) e,r.stp s⟩
 |fro xs=>let⟨o,vs,e,r⟩:=h;calc ⟨o,vs,hk _ (by intro _ z;ext z) e,r.stp s⟩
 |dict ps=>let⟨vs,e,r⟩:=h;calc ⟨vs,hk _ (by intro _ z;ext z) e,r.stp s⟩
 |dicT ps=>let⟨vs,e,r⟩:=h;calc ⟨vs,hk _ (by intro _ z;ext z) e,r.stp s⟩
 |set _=>let⟨o,u,e⟩:=h;calc ⟨o,u,hk _ (by intro _ z;ext z) e⟩
 |froT ps=>let⟨o,vs,e,r⟩:=h;calc ⟨o,vs,hk _ (by intro _ z;ext z) e,r.stp s⟩
 |froK ps=>let⟨o,vs,e,r⟩:=h;calc ⟨o,vs,hk _ (by intro _ z;ext z) e,r.stp s⟩
def OH:List Str:=["levels", "least_word", "word_into", "shows_least", "shows_into"]
def HK (K:Yb) (H:Hp):Prop:=∀ x∈OH,∀ c P,PySem.W.tabIn K x=some (c,P) -> ∃ ps,H P=some (.tbl ps)/\E4 H ps
def HK.stp {K:Yb} {L L':Yg} {H H':Hp} (s:Stp L H L' H') (t:HK K H):HK K H':=λx hx c P e=>
 let ⟨ps,e1,g⟩:=t x hx c P e;let ⟨ps',e2,g2⟩:=s.tbl P ps e1
 ⟨ps',e2,g2 g⟩
structure Cor (K:Yb) (L:Yg) (M:List MO) (H:Hp):Prop where
 len:L.length=M.length
 nd:L.Nodup
 obj:∀ (n:Nat) a m,L[n]?=some a->M[n]?=some m->DF K L H a m
 tab:HK K H
def Ak (L:Yg) (H:Hp) (Y:List (Option D)) (τ:Sv):Prop:=τ.length=Y.length /\ ∀ (i:Nat) d,Y[i]?=some (some d) -> ∃ v,τ[i]?=some (some v)/\Rep L H d v
def Ak.stp (s:Stp L H L' H') (h:Ak L H Y τ):Ak L' H' Y τ :=
 ⟨h.1,λi d e=>let ⟨v,e1,r⟩:=h.2 i d e;⟨v,e1,r.stp s⟩⟩
def Cor.tracked {K:Yb} {L:Yg} {M:List MO} {H:Hp} (c:Cor K L M H) {a:Yt} (h:a∈L):∃ o,H a=some o:=by
 let⟨n,hn⟩:=List.getElem?_of_mem h;let hl:n<M.length:=by rw[<-c.len];exact (AK.mp hn).1
 let m:=c.obj n a M[n] hn (AM hl);calc m.there
def Cor.grow {K:Yb} {L:Yg} {M:List MO} {H H':Hp} (c:Cor K L M H) (h:∀ a o,H a=some o->H' a=some o):Cor K L M H':=by
 calc ⟨c.len,c.nd,λn a m e1 e2=>(c.obj n a m e1 e2).stp (.grow h) λo _ e=>h a o e,c.tab.stp (Stp.grow (L:=L) h)⟩
def Cor.bare {K:Yb} {L N:Yg} {M:List MO} {H H':Hp} (c:Cor K L M H) (s:Stp [] H N H'):Cor K L M H' :=
 ⟨c.len,c.nd,λn a m e1 e2=>(c.obj n a m e1 e2).stp s.bare λo nt e=>s.old a o e (by simp) nt,c.tab.stp s⟩
theorem Cor.upd {K:Yb} {L:Yg} {M:List MO} {H:Hp} {p:Yt} {o:HO} (c:Cor K L M H) (h:H p=none):Cor K L M (upd H p o):=c.grow λa u e=>by rw[zS (DW e h)];calc e
def Cor.write {K:Yb} {L:Yg} {M:List MO} {H:Hp} {n:Nat} {p:Yt} {xs xs':List D} {vs':List V} (c:Cor K L M H) (h1:L[n]?=some p) (h2:M[n]?=some (.lst xs)) (r:zG L H xs' vs') :
  Cor K L (M.set n (.lst xs')) (L2.upd H p (.lst vs'))/\Stp L H L (L2.upd H p (.lst vs')):=by
 let⟨vs,hp,_⟩:=c.obj n p _ h1 h2;let st:Stp L H L (L2.upd H p (.lst vs')):=by
  refine ⟨⟨[],by simp⟩,λa ha=> .inl ha,λa o e ha _=>?_,λa o e=>?_,λa o u e=>?_,J0 (λa o u e=>?_) λa ps e=>?_⟩
  .rw[zS (show a≠p from λz=>ha (by rw[z];calc CM h1))];exact e
  all_goals (rw[zS (GA e hp (by intro z;ext z))];calc e)
 refine ⟨⟨by simp[c.len],c.nd,λk a m e1 e2=>?_,c.tab.stp st⟩,st⟩;rw[DN]at e2;cbv at e2
 .rename_i hk;subst hk;rw[h1]at e1;ext e1;cbv at e2
  .cases e2;exact ⟨vs',CY,r.stp st⟩
  .cases e2
 .rename_i hk;let hne:a≠p:=λz=>hk (by
   subst z;calc (List.getElem?_inj (AK.mp h1).1 c.nd).mp (h1.trans e1.symm))
  exact (c.obj k a m e1 e2).stp st λo _ e=>by rw[zS hne];exact e
set_option genInjectivity true in
inductive EV where
 |dat (d:D)|fl (xs:List D)
def zR (H0:Hp) (L:Yg) (H:Hp):EV->V->Prop
 |.dat d,v=>Rep L H d v
 |.fl xs,v=>∃ p vs,v=.ref p/\H0 p=none/\H p=some (.lst vs)/\p∉L/\zG L H xs vs
abbrev Sd:=List (Option D)
abbrev Mem:=List MO
abbrev FE:=Sd->Mem->Option (EV × Mem)
abbrev FD:=Sd->Mem->Option (D × Mem)
abbrev FT:=Sd->Mem->Option (Bool × Mem)
abbrev FA:=Sd->Mem->Option (List D × Mem)
def Stp.there {L L':Yg} {H H':Hp} (s:Stp L H L' H') {p:Yt} {o:HO} (h:H p=some o) (hp:p∉L):∃ o',H' p=some o':=by
  by_cases z:NT o
  .exact ⟨o,s.old p o h hp z⟩
  . let⟨ps,z⟩:=Classical.not_forall.mp z
    rw[Classical.not_not.mp z]at h;let⟨ps',e,_⟩:=s.tbl p ps h;calc ⟨_,e⟩
def Stp.out (s:Stp L H L' H') (h:H p=some o) (hp:p∉L):p∉L':=λz=>by
 rcases s.new p z with q|q
 .exact hp q
 .rw[h]at q;ext q
def zR.stp (s:Stp L H L' H') (h:zR H0 L H e v):zR H0 L' H' e v:=by
 cases e with
 |dat d=>calc Rep.stp s h
 |fl xs=>
  let⟨p,vs,rfl,e0,e1,e2,r⟩:=h;calc ⟨p,vs,rfl,e0,s.old p _ e1 e2 (by intro _ z;ext z),s.out e1 e2,r.stp s⟩
def zR.back {H0 H1:Hp} {L0 L1 L:Yg} {H:Hp} (s:Stp L0 H0 L1 H1) {M:List MO} {K:Yb} (c:Cor K L0 M H0) {e:EV} {v:V} (h:zR H1 L H e v) (hL:∀ a∈L1,a∈L):zR H0 L H e v:=by
 cases e with
 |dat d=>calc h
 |fl xs=>
  let⟨p,vs,rfl,e0,e1,e2,r⟩:=h;calc ⟨p,vs,rfl,?_,e1,e2,r⟩;cases q:H0 p with
  |none=>rfl
  |some o=>
   by_cases hp:p∈L0
   .obtain ⟨N,hN⟩:=s.pre;exact absurd (hL p (by rw[hN];calc CJ _ hp)) e2
   .obtain ⟨o',z⟩:=s.there q hp;rw[z]at e0;ext e0
section
variable (K:Yb)
def trE (f:FE):TE:=λτ H Q=>∃ L Y M d M',Cor K L M H/\Ak L H Y τ/\f Y M=some (d,M') /\ ∀ L' H' v,Stp L H L' H'->Cor K L' M' H'->zR H L' H' d v->Q v H'
def trD (f:FD):TE:=λτ H Q=>∃ L Y M d M',Cor K L M H/\Ak L H Y τ/\f Y M=some (d,M') /\ ∀ L' H' v,Stp L H L' H'->Cor K L' M' H'->Rep L' H' d v->Q v H'
def trT (f:FT):TT:=λτ H Q=>∃ L Y M d M',Cor K L M H/\Ak L H Y τ/\f Y M=some (d,M') /\ ∀ L' H',Stp L H L' H'->Cor K L' M' H'->Q d H'
def trA (f:FA):TA:=λτ H Q=>∃ L Y M ds M',Cor K L M H/\Ak L H Y τ/\f Y M=some (ds,M') /\ ∀ L' H' vs,Stp L H L' H'->Cor K L' M' H'->zG L' H' ds vs->Q vs H'
end
def mkE {K:Yb} {f:FE} {τ:Sv} {H:Hp} {Q:VK} {Y:Sd} {M M':Mem} {d:EV} (c:Cor K L M H) (r:Ak L H Y τ) (e:f Y M=some (d,M')) (q:∀ L' H' v,Stp L H L' H'->Cor K L' M' H'->zR H L' H' d v->Q v H'):trE K f τ H Q:=⟨_,_,_,_,_,c,r,e,q⟩
def mkD {K:Yb} {f:FD} {τ:Sv} {H:Hp} {Q:VK} {Y:Sd} {M M':Mem} {d:D} (c:Cor K L M H) (r:Ak L H Y τ) (e:f Y M=some (d,M')) (q:∀ L' H' v,Stp L H L' H'->Cor K L' M' H'->Rep L' H' d v->Q v H'):trD K f τ H Q:=⟨_,_,_,_,_,c,r,e,q⟩
def mkT {K:Yb} {f:FT} {τ:Sv} {H:Hp} {Q} {Y:Sd} {M M':Mem} {d} (c:Cor K L M H) (r:Ak L H Y τ) (e:f Y M=some (d,M')) (q:∀ L' H',Stp L H L' H'->Cor K L' M' H'->Q d H'):trT K f τ H Q:=⟨_,_,_,_,_,c,r,e,q⟩
def mkA {K:Yb} {f:FA} {τ:Sv} {H:Hp} {Q} {Y:Sd} {M M':Mem} {ds} (c:Cor K L M H) (r:Ak L H Y τ) (e:f Y M=some (ds,M')) (q:∀ L' H' vs,Stp L H L' H'->Cor K L' M' H'->zG L' H' ds vs->Q vs H'):trA K f τ H Q:=⟨_,_,_,_,_,c,r,e,q⟩
def PE.imp (h:PE X e t) (hi:∀ τ H Q,t' τ H Q->t τ H Q):PE X e t':=λzB s Y H Q I q=>h zB s Y H Q I (hi _ _ _ q)
def PT.imp (h:PT X e t) (hi:∀ τ H Q,t' τ H Q->t τ H Q):PT X e t':=λzB s Y H Q I q=>h zB s Y H Q I (hi _ _ _ q)
def PS.imp {st:Stmt} {t t':TS} (h:PS X st t) (hi:∀ D τ H,t' D τ H->t D τ H):PS X st t':=λzB s Y H D I q=>h zB s Y H D I (hi _ _ _ q)
def PSs.imp {st:Yy} {t t':TS} (h:PSs X st t) (hi:∀ D τ H,t' D τ H->t D τ H):PSs X st t':=λzB s Y H D I q=>h zB s Y H D I (hi _ _ _ q)
structure QE (X:Cx) (e:Expr) (f:FE):Prop where
 un:PE X e (trE X.K f)
structure QD (X:Cx) (e:Expr) (f:FD):Prop where
 un:PE X e (trD X.K f)
structure QT (X:Cx) (e:Expr) (f:FT):Prop where
 un:PT X e (trT X.K f)
structure QA (X:Cx) (es:Yi) (f:FA):Prop where
 un:PA X es (trA X.K f)
def toD (f:FE):FD:=λY M=>match f Y M with
 |some (.dat d,M')=>some (d,M')
 |some (.fl xs,M')=>some (.ref M'.length,M'++[.lst xs])
 |none=>none
mutual
theorem Rep.more (N:Yg):∀ {d:D} {v:V},Rep L H d v->Rep (L++N) H d v
 |.non,_,h=>by unfold Rep at h ⊢;calc h
 |.bl _,_,h=>by unfold Rep at h ⊢;calc h
 |.int _,_,h=>by unfold Rep at h ⊢;calc h
 |.str _,_,h=>by unfold Rep at h ⊢;calc h
 |.tup ds,_,h=>by
  unfold Rep at h ⊢;let⟨a,vs,rfl,e,r⟩:=h;calc ⟨a,vs,rfl,e,zG.more N r⟩
 |.ref n,_,h=>by
  unfold Rep at h ⊢;let⟨a,rfl,e⟩:=h;calc ⟨a,rfl,F9 e⟩
 |.fn _ ds,_,h=>by
  unfold Rep at h ⊢;calc ⟨h.1,h.2.1,zG.more N h.2.2⟩
theorem zG.more (N:Yg):∀ {ds:List D} {vs:List V},zG L H ds vs->zG (L++N) H ds vs
 |[],_,h=>by unfold zG at h ⊢;calc h
 |d::ds,_,h=>by
  unfold zG at h ⊢;let⟨v,r,rfl,h1,h2⟩:=h;calc ⟨v,r,rfl,Rep.more N h1,zG.more N h2⟩
end
def AS.more {κ:Type} {kf:D->Option κ} {L:Yg} {H:Hp} (N:Yg):∀ {ps:List (D × D)} {vs:List (κ × V)},AS kf L H ps vs->AS kf (L++N) H ps vs
 |[],_,h=>h
 |p::r,_,h=>by
  let⟨k,v,r',rfl,e,h1,h2⟩:=h;calc ⟨k,v,r',rfl,e,h1.more N,AS.more N h2⟩
def DF.more {K:Yb} {L:Yg} {H:Hp} {a:Yt} {m:MO} (N:Yg) (h:DF K L H a m):DF K (L++N) H a m:=by
 cases m with
 |lst xs=>let⟨vs,e,r⟩:=h;calc ⟨vs,e,r.more N⟩
 |fro xs=>let⟨o,vs,e,r⟩:=h;calc ⟨o,vs,e,r.more N⟩
 |dict ps=>let⟨vs,e,r⟩:=h;calc ⟨vs,e,r.more N⟩
 |dicT ps=>let⟨vs,e,r⟩:=h;calc ⟨vs,e,r.more N⟩
 |set _=>calc h
 |froT ps=>let⟨o,vs,e,r⟩:=h;calc ⟨o,vs,e,r.more N⟩
 |froK ps=>let⟨o,vs,e,r⟩:=h;calc ⟨o,vs,e,r.more N⟩
def RY {K:Yb} {L L':Yg} {M':List MO} {H H':Hp} {p:Yt} {xs:List D} {vs:List V} (s:Stp L H L' H') (c:Cor K L' M' H') (h0:H p=none) (h1:H' p=some (.lst vs)) (h2:p∉L') (r:zG L' H' xs vs) :
  Cor K (L'++[p]) (M'++[.lst xs]) H'/\Stp L H (L'++[p]) H':=by
 refine ⟨⟨by simp[c.len],?_,λn a m e1 e2=>?_,c.tab⟩,?_⟩
 .rw[Ds];exact ⟨c.nd,by simp,λa ha b hb z=>by
   have:b=p:=by simpa using hb
   subst this;subst z;calc h2 ha⟩
 .by_cases hn:n<L'.length
  .rw[Bf hn]at e1;rw[Bf (by rw[<-c.len];calc hn)]at e2;exact (c.obj n a m e1 e2).more [p]
  .have hn':n=L'.length:=by
    have:=(AK.mp e1).1;rw[AV]at this;simp at this;omega
   subst hn';simp at e1;rw[c.len]at e2;simp at e2;subst e1;subst e2;exact ⟨vs,h1,r.more [p]⟩
 .obtain ⟨N,hN⟩:=s.pre;refine ⟨⟨N++[p],by rw[hN];simp⟩,λa ha=>?_,s.old,s.tup,s.frz,s.tbl⟩;rcases AR.mp ha with z|z
  .exact s.new a z
  .have:a=p:=by simpa using z
   subst this;calc .inr h0
def Rep.last {L:Yg} {M:List MO} {H:Hp} {K:Yb} {p:Yt} (c:Cor K L M H):Rep (L++[p]) H (.ref M.length) (.ref p):=by
 erw[Rep];calc ⟨p,rfl,by rw[<-c.len];simp⟩
def DZ {f:FE} (h:QE X e f):QD X e (toD f):=.mk <| PE.imp h.un λτ H Q zz=>by
 let⟨L,Y,M,d,M',c,rs,hf,q⟩:=zz;erw[toD]at hf;cbv at hf
 .rename_i d' M1 e1;ext hf;exact ⟨L,Y,M,_,_,c,rs,e1,λL' H' v s c' r=>q L' H' v s c' r⟩
 .rename_i xs M1 e1;ext hf;refine ⟨L,Y,M,_,_,c,rs,e1,λL' H' v s c' r=>?_⟩;let⟨p,vs,rfl,e0,e2,e3,r⟩:=r;let⟨c2,s2⟩:=RY s c' e0 e2 e3 r;exact q _ H' _ s2 c2 (Rep.last c')
 .cases hf
def zC (i:Nat):FE:=λY M=>match Y[i]? with
 |some (some d)=>some (.dat d,M)
 |_=>none
def ZO (h:PE X (.Name x pos) (Ld i)):QE X (.Name x pos) (zC i):=.mk <| PE.imp h λτ H Q zz=>by
 let⟨L,Y,M,d,M',c,rs,hf,q⟩:=zz;erw[zC]at hf;cbv at hf
 .rename_i d' e1;ext hf;let⟨v,e2,r⟩:=rs.2 i d' e1;exact ⟨v,e2,q L H v (.refl L H) c r⟩
 .cases hf
def fC (d:D):FE:=λ_ M=>some (.dat d,M)
def Jw (hd:∀ L H,Rep L H d v) (h:PE X e (tC v)):QE X e (fC d):=.mk <| PE.imp h λτ H Q zz=>by
 let⟨L,Y,M,d',M',c,rs,hf,q⟩:=zz;erw[fC]at hf;ext hf;calc q L H v (.refl L H) c (hd L H)
def fR {i j pos}:QE X (.Constant (.int i) j pos) (fC (.int i)):=Jw (λ_ _=>by erw[Rep];rfl) fK
def gI {b j pos}:QE X (.Constant (.bool b) j pos) (fC (.bl b)):=Jw (λ_ _=>by erw[Rep];rfl) aS
def jG {j pos}:QE X (.Constant .none j pos) (fC .non):=Jw (λ_ _=>by erw[Rep];rfl) cP
def Zc {x j pos}:QE X (.Constant (.str x) j pos) (fC (.str x)):=Jw (λ_ _=>by erw[Rep];rfl) fH
def zF:FA:=λ_ M=>some ([],M)
def zD (f:FD) (g:FA):FA:=λY M=>match f Y M with
 |some (d,M1)=>match g Y M1 with
  |some (ds,M2)=>some (d::ds,M2)
  |none=>none
 |none=>none
def PA.imp (h:PA X es t) (hi:∀ τ H Q,t' τ H Q->t τ H Q):PA X es t':=λpos zB s Y H Q I q=>h pos zB s Y H Q I (hi _ _ _ q)
def Se:QA X [] zF:=.mk <| PA.imp Hs λτ H Q zz=>by
 let⟨L,Y,M,d,M',c,rs,hf,q⟩:=zz;erw[zF]at hf;ext hf;calc q L H [] (.refl L H) c .nil
def TL (h1:QD X e f) (h2:QA X es g) (hs:starEach (e::es) X.env=(false,eval e X.env)::starEach es X.env:=by rfl):QA X (e::es) (zD f g) :=
 .mk <| PA.imp (G5 h1.un h2.un hs) λτ H Q zz=>by
  let⟨L,Y,M,d,M',c,rs,hf,q⟩:=zz;erw[zD]at hf;cbv at hf
  .rename_i d1 M1 e1;cbv at hf
   .rename_i ds M2 e2;ext hf;refine ⟨L,Y,M,_,_,c,rs,e1,λL1 H1 v s1 c1 r1=>⟨L1,Y,M1,_,_,c1,rs.stp s1,e2,λL2 H2 vs s2 c2 r2=>?_⟩⟩;exact q L2 H2 _ (s1.trans s2) c2 (.cons (r1.stp s2) r2)
   .cases hf
  .cases hf
def zi (g:FA):FE:=λY M=>match g Y M with
 |some (ds,M1)=>if ds.length<=sizeLine then some (.dat (.tup ds),M1) else none
 |none=>none
def Aq (g:FA):FE:=λY M=>match g Y M with
 |some (ds,M1)=>if ds.length<=sizeLine then some (.fl ds,M1) else none
 |none=>none
def Rep.newTup (h:H p=none) (r:zG L H ds vs):Rep L (upd H p (.tup vs)) (.tup ds) (.ref p):=by
 erw[Rep];calc ⟨p,vs,rfl,CY,r.stp (.upd h)⟩
def Sf {x1 pos} (h:QA X es g):QE X (.Tuple es x1 pos) (zi g):=.mk <| PE.imp (bQ h.un) λτ H Q zz=>by
 let⟨L,Y,M,d,M',c,rs,hf,q⟩:=zz;erw[zi]at hf;cbv at hf
 .rename_i ds M1 e1;cbv at hf
  .rename_i hz;ext hf;refine ⟨L,Y,M,_,_,c,rs,e1,λL1 H1 vs s1 c1 r1=>⟨by rw[r1.length];exact hz,λp hp=>?_⟩⟩;exact q L1 _ _ (s1.trans (.upd hp)) (c1.upd hp) (Rep.newTup hp r1)
  .cases hf
 .cases hf
def YU {L L1:Yg} {H H1:Hp} {K:Yb} {M M1:List MO} (s:Stp L H L1 H1) (c:Cor K L M H) (c1:Cor K L1 M1 H1) {p:Yt} (hp:H1 p=none):H p=none/\p∉L1:=by
 let hp1:p∉L1:=λz=>by let⟨o,e⟩:=c1.tracked z;rw[hp]at e;ext e
 calc ⟨?_,hp1⟩;cases q:H p with
 |none=>rfl
 |some o=>
  have:p∉L:=λz=>hp1 (by let⟨N,hN⟩:=s.pre;rw[hN];calc CJ _ z);let⟨o',z⟩:=s.there q this;rw[z]at hp;ext hp
def zR.newLst {L L1:Yg} {H H1:Hp} {K:Yb} {M M1:List MO} {p:Yt} {ds:List D} {vs:List V} (s:Stp L H L1 H1) (c:Cor K L M H) (c1:Cor K L1 M1 H1) (hp:H1 p=none) (r:zG L1 H1 ds vs) :
  zR H L1 (upd H1 p (.lst vs)) (.fl ds) (.ref p):=by
 let⟨a,b⟩:=YU s c c1 hp;calc ⟨p,vs,rfl,a,CY,b,r.stp (.upd hp)⟩
def U0 {pos} (h:QA X es g):QE X (.List es pos) (Aq g):=.mk <| PE.imp (Zj h.un) λτ H Q zz=>by
 let⟨L,Y,M,d,M',c,rs,hf,q⟩:=zz;erw[Aq]at hf;cbv at hf
 .rename_i ds M1 e1;cbv at hf
  .rename_i hz;ext hf;refine ⟨L,Y,M,_,_,c,rs,e1,λL1 H1 vs s1 c1 r1=>⟨by rw[r1.length];exact hz,λp hp=>?_⟩⟩;exact q L1 _ _ (s1.trans (.upd hp)) (c1.upd hp) (zR.newLst s1 c c1 hp r1)
  .cases hf
 .cases hf
abbrev FAE:=Sd->Mem->Option (List EV × Mem)
def Ct (H0:Hp) (L:Yg) (H:Hp):List EV->List V->Prop
 |[],vs=>vs=[]
 |e::es,vs=>∃ v r,vs=v::r/\zR H0 L H e v/\Ct H0 L H es r
def Stp.sub (s:Stp L H L' H'):∀ a∈L,a∈L':=λa h=>by
 let⟨N,hN⟩:=s.pre;rw[hN];calc CJ _ h
def Ct.back {H0 H1:Hp} {L0 L1 L:Yg} {H:Hp} (s:Stp L0 H0 L1 H1) {M:List MO} {K:Yb} (c:Cor K L0 M H0) (hL:∀ a∈L1,a∈L):∀ {es:List EV} {vs:List V},Ct H1 L H es vs->Ct H0 L H es vs
 |[],_,h=>h
 |e::es,_,h=>by
  let⟨v,r,rfl,h1,h2⟩:=h;calc ⟨v,r,rfl,h1.back s c hL,Ct.back s c hL h2⟩
def Oj (K:Yb) (f:FAE):TA:=λτ H Q=>∃ L Y M ds M',Cor K L M H/\Ak L H Y τ/\f Y M=some (ds,M') /\ ∀ L' H' vs,Stp L H L' H'->Cor K L' M' H'->Ct H L' H' ds vs->Q vs H'
structure QAE (X:Cx) (es:Yi) (f:FAE):Prop where
 un:PA X es (Oj X.K f)
section
variable {X:Cx} {a b e:Expr} {es:Yi} {pos:Pos}
def zb:FAE:=λ_ M=>some ([],M)
def zK (f:FE) (g:FAE):FAE:=λY M=>match f Y M with
 |some (d,M1)=>match g Y M1 with
  |some (ds,M2)=>some (d::ds,M2)
  |none=>none
 |none=>none
def bE:QAE X [] zb:=.mk <| PA.imp Hs λτ H Q zz=>by
 let⟨L,Y,M,d,M',c,rs,hf,q⟩:=zz;erw[zb]at hf;ext hf;calc q L H [] (.refl L H) c rfl
def ZP (h1:QE X e f) (h2:QAE X es g) (hs:starEach (e::es) X.env=(false,eval e X.env)::starEach es X.env:=by rfl):QAE X (e::es) (zK f g) :=
 .mk <| PA.imp (G5 h1.un h2.un hs) λτ H Q zz=>by
  let⟨L,Y,M,d,M',c,rs,hf,q⟩:=zz;erw[zK]at hf;cbv at hf
  .rename_i d1 M1 e1;cbv at hf
   .rename_i ds M2 e2;ext hf;refine ⟨L,Y,M,_,_,c,rs,e1,λL1 H1 v s1 c1 r1=>⟨L1,Y,M1,_,_,c1,rs.stp s1,e2,λL2 H2 vs s2 c2 r2=>?_⟩⟩;exact q L2 H2 _ (s1.trans s2) c2 ⟨v,vs,rfl,r1.stp s2,r2.back s1 c s2.sub⟩
   .cases hf
  .cases hf
abbrev K2:=EV->EV->Mem->Option (EV × Mem)
def BG (K:Yb) (r:R2) (k:K2):Prop:=∀ {L:Yg} {M M':Mem} {H H0:Hp} {x y d:EV} {v w:V} {Q:VK},Cor K L M H->zR H0 L H x v->zR H0 L H y w->k x y M=some (d,M') ->
 (∀ L' H' u,Stp L H L' H'->Cor K L' M' H'->zR H L' H' d u->Q u H')->r v w H Q
def fOp (k:K2) (f g:FE):FE:=λY M=>match f Y M with
 |some (x,M1)=>match g Y M1 with
  |some (y,M2)=>k x y M2
  |none=>none
 |none=>none
def GL {K:Yb} {r:R2} {k:K2} {f g:FE} (hk:BG K r k) {τ:Sv} {H:Hp} {Q:VK} (h:trE K (fOp k f g) τ H Q):tOp r (trE K f) (trE K g) τ H Q:=by
 let⟨L,Y,M,d,M',c,rs,hf,q⟩:=h;erw[fOp]at hf;cbv at hf
 .rename_i x M1 e1;cbv at hf
  .rename_i y M2 e2;refine (mkE c rs e1 (λL1 H1 v s1 c1 r1=>(mkE c1 (rs.stp s1) e2 (λL2 H2 w s2 c2 r2=>?_))));refine hk (H0:=H) c2 (r1.stp s2) (r2.back s1 c s2.sub) hf λL3 H3 u s3 c3 r3=>?_;exact q L3 H3 u ((s1.trans s2).trans s3) c3 (r3.back (s1.trans s2) c s3.sub)
  .cases hf
 .cases hf
def E9 (hk:BG X.K r k) (ho:OpR X (binaryOp op) r) (h1:QE X a f) (h2:QE X b g):QE X (.BinOp a op b pos) (fOp k f g):=.mk <| PE.imp (bY ho h1.un h2.un) λ_ _ _ h=>GL hk h
def JJ (hk:BG X.K r k) (ho:OpR X (compareOp op) r) (h1:QE X a f) (h2:QE X b g) (hm:behindInMarks op b=false):QE X (.Compare a [op] [b] pos) (fOp k f g) :=
 .mk <| PE.imp (VH ho h1.un h2.un hm) λ_ _ _ h=>GL hk h
def tst (f:FE):FT:=λY M=>match f Y M with
 |some (.dat (.bl c),M')=>some (c,M')
 |_=>none
def Mo {K:Yb} {f:FE} {τ:Sv} {H:Hp} {Q:Bool->Hp->Prop} (h:trT K (tst f) τ H Q):JI (trE K f) τ H Q:=by
 let⟨L,Y,M,d,M',c,rs,hf,q⟩:=h;erw[tst]at hf;cbv at hf
 .rename_i k M1 e1;ext hf;refine (mkE c rs e1 (λL1 H1 v s1 c1 r1=>?_));have:v=.bl d:=by erw[zR,Rep]at r1;exact r1
  exact ⟨d,this,q L1 H1 s1 c1⟩
 .cases hf
def RX (h:∀ τ H Q,t τ H Q->t' τ H Q) (q:JI t τ H Q):JI t' τ H Q:=h _ _ _ q
def Ed {op:CmpOp} {r:R2} {k:K2} {f g:FE} (hk:BG X.K r k) (ho:OpR X (compareOp op) r) (h1:QE X a f) (h2:QE X b g) (hm:behindInMarks op b=false):QT X (.Compare a [op] [b] pos) (tst (fOp k f g)) :=
 .mk <| PT.imp (UM ho h1.un h2.un hm) λ_ _ _ h=>RX (λ_ _ _ z=>GL hk z) (Mo h)
def bU (h:QE X e f) (he:∀ whole,isTrue e X.env whole=(do let v <- whole;standAt e.pos;holding [v] (truthy v)):=by intro _;rfl):QT X e (tst f) :=
 .mk <| PT.imp (X3 h.un he) λ_ _ _ h=>Mo h
def kI (C:Int->Int->Bool) (g:Int->Int->D):K2:=λx y M=>match x,y with
 |.dat (.int i),.dat (.int j)=>if C i j then some (.dat (g i j),M) else none
 |_,_=>none
def kI0 (g:Int->Int->D):K2:=kI (λ_ _=>true) g
def Ie {K:Yb} {C:Int->Int->Bool} {C':Int->Int->Prop} {g:Int->Int->D} {g':Int->Int->V} (hC:∀ i j,C i j=true->C' i j) (hg:∀ L H i j,Rep L H (g i j) (g' i j)):BG K (rI C' g') (kI C g):=by
 intro L M M' H H0 x y d v w Q c rx ry hk q;erw[kI]at hk;cbv at hk
 .rename_i i j;cbv at hk
  .rename_i hc;ext hk;refine ⟨i,j,by erw[zR,Rep]at rx;calc rx,by erw[zR,Rep]at ry;calc ry,hC i j hc,q L H _ (.refl L H) c (hg L H i j)⟩
  .cases hk
 .cases hk
def Fd {K:Yb} {g:Int->Int->D} {g':Int->Int->V} (hg:∀ L H i j,Rep L H (g i j) (g' i j)):BG K (rI0 g') (kI0 g):=by
 intro L M M' H H0 x y d v w Q c rx ry hk q;let⟨i,j,h1,h2,_,h4⟩:=Ie (C:=λ_ _=>true) (C':=λ_ _=>True) (λ_ _ _=>trivial) hg c rx ry hk q;calc ⟨i,j,h1,h2,h4⟩
def CO:Rep L H (.int i) (.int i):=by erw[Rep];rfl
def CP:Rep L H (.bl i) (.bl i):=by erw[Rep];rfl
def GQ (i j:Int):Bool:=(decide (-(2 ^ 64)<i)&&decide (i<2 ^ 64))||(decide (-(2 ^ 64)<j)&&decide (j<2 ^ 64))
abbrev Xx:K2:=kI0 λi j=> .int (i+j)
abbrev Gi:K2:=kI0 λi j=> .int (i-j)
abbrev GY:K2:=kI GQ λi j=> .int (i*j)
abbrev BW:K2:=kI (λ_ j=>decide (0<j)) λi j=> .int (i % j)
abbrev GP:K2:=kI (λ_ j=>decide (0<j)&&decide (j<1073741824)) λi j=> .int (i / j)
abbrev GO:K2:=kI (λi j=>decide (0<=j)&&decide (j<=1000000)&&decide (i.natAbs<2 ^ 64)) λi j=> .int (i ^ j.toNat)
abbrev kLt:K2:=kI0 λi j=> .bl (decide (i<j))
abbrev kLe:K2:=kI0 λi j=> .bl (decide (i<=j))
abbrev kGt:K2:=kI0 λi j=> .bl (decide (j<i))
abbrev kGe:K2:=kI0 λi j=> .bl (decide (j<=i))
section
variable {f g:FE}
def Rq (h1:QE X a f) (h2:QE X b g):QE X (.BinOp a .Sub b pos) (fOp Gi f g):=E9 (Fd λ_ _ _ _=>CO) X5 h1 h2
def Rn (h1:QE X a f) (h2:QE X b g):QE X (.BinOp a .Mult b pos) (fOp GY f g):=E9 (Ie (λi j h=>by
 erw[GQ]at h;simp only[Bool.or_eq_true,BE,B4]at h;calc h) λ_ _ _ _=>CO) gO h1 h2
def WQ (h1:QE X a f) (h2:QE X b g):QE X (.BinOp a .Mod b pos) (fOp BW f g):=E9 (Ie (λi j h=>B2 h) λ_ _ _ _=>CO) fW h1 h2
def ZG (h1:QE X a f) (h2:QE X b g):QE X (.BinOp a .FloorDiv b pos) (fOp GP f g):=E9 (Ie (λi j h=>by
 simp only[BE,B4]at h;calc h) λ_ _ _ _=>CO) aJ h1 h2
def Zh (h1:QE X a f) (h2:QE X b g):QE X (.BinOp a .Pow b pos) (fOp GO f g):=E9 (Ie (λi j h=>by
 simp only[BE,B4]at h;calc ⟨h.1.1,h.1.2,h.2⟩) λ_ _ _ _=>CO) SV h1 h2
def aT (h1:QE X a f) (h2:QE X b g):QE X (.Compare a [.Lt] [b] pos) (fOp kLt f g):=JJ (Fd λ_ _ _ _=>CP) Kt h1 h2 (Ec _)
def T7 (h1:QE X a f) (h2:QE X b g):QT X (.Compare a [.Lt] [b] pos) (tst (fOp kLt f g)):=Ed (Fd λ_ _ _ _=>CP) Kt h1 h2 (Ec _)
def XF (h1:QE X a f) (h2:QE X b g):QT X (.Compare a [.Gt] [b] pos) (tst (fOp kGt f g)):=Ed (Fd λ_ _ _ _=>CP) Xm h1 h2 (Ec _)
def UA (h1:QE X a f) (h2:QE X b g):QT X (.Compare a [.GtE] [b] pos) (tst (fOp kGe f g)):=Ed (Fd λ_ _ _ _=>CP) bW h1 h2 (Ec _)
end
end
def B1 (M:Mem):EV->Option (List D)
 |.fl xs=>some xs
 |.dat (.ref n)=>match M[n]? with
  |some (.lst xs)=>some xs
  |some (.fro xs)=>some xs
  |_=>none
 |_=>none
def Cc:EV->Option (List D)
 |.dat (.tup xs)=>some xs
 |_=>none
def zr (M:Mem) (x:EV):Option (List D):=match Cc x with
 |some xs=>some xs
 |none=>B1 M x
def Dl {K:Yb} {L:Yg} {M:Mem} {H H0:Hp} {x:EV} {v:V} {xs:List D} (c:Cor K L M H) (r:zR H0 L H x v) (h:B1 M x=some xs):∃ a vs,v=.ref a/\Rd H a (.lst vs)/\zG L H xs vs:=by
 cases x with
 |fl ys=>
  ext h;let⟨p,vs,rfl,_,e,_,r⟩:=r;calc ⟨p,vs,rfl,.inl e,r⟩
 |dat d=>
  cases d with
  |ref n=>
   erw[zR,Rep]at r;let⟨a,rfl,e⟩:=r;erw[B1]at h;dsimp only at h;cases q:M[n]? with
   |none=>rw[q]at h;ext h
   |some m=>
    rw[q]at h;let z:=c.obj n a m e q;cases m with
    |lst ys=>ext h;let⟨vs,e1,r1⟩:=z;calc ⟨a,vs,rfl,.inl e1,r1⟩
    |fro ys=>ext h;let⟨o,vs,e1,r1⟩:=z;calc ⟨a,vs,rfl,.inr ⟨o,e1⟩,r1⟩
    |dict _=>ext h
    |dicT _=>ext h
    |set _=>ext h
    |froT _=>ext h
    |froK _=>ext h
  |_=>ext h
def Dx {L:Yg} {H H0:Hp} {x:EV} {v:V} {xs:List D} (r:zR H0 L H x v) (h:Cc x=some xs):∃ a vs,v=.ref a/\H a=some (.tup vs)/\zG L H xs vs:=by
 cases x with
 |fl ys=>ext h
 |dat d=>
  cases d with
  |tup ys=>ext h;erw[zR,Rep]at r;calc r
  |_=>ext h
def FR {K:Yb} {L:Yg} {M:Mem} {H H0:Hp} {x:EV} {v:V} {xs:List D} (c:Cor K L M H) (r:zR H0 L H x v) (h:zr M x=some xs):∃ a vs,v=.ref a/\(SqL K H a vs\/SqT K H a vs)/\zG L H xs vs:=by
 erw[zr]at h;cases q:Cc x with
 |some ys=>
  rw[q]at h;ext h;let⟨a,vs,e,h1,h2⟩:=Dx r q;calc ⟨a,vs,e,.inr (.of h1),h2⟩
 |none=>
  rw[q]at h;let⟨a,vs,e,h1,h2⟩:=Dl c r h;calc ⟨a,vs,e,.inl (.inl h1),h2⟩
def ZR {L:Yg} {H:Hp} {xs:List D} {vs:List V} {i:Int} {d:D} (r:zG L H xs vs) (h:atI xs i=some d):∃ v,atI vs i=some v/\Rep L H d v:=by
 unfold atI at h ⊢;rw[r.length];cases q:ixN xs.length i with
 |none=>rw[q]at h;ext h
 |some j=>rw[q]at h;calc r.get h
def fF {L:Yg} {H:Hp} {i:Str}:Rep L H (.str i) (.str i):=by erw[Rep];rfl
def kIx:K2:=λx y M=>match y with
 |.dat (.int i)=>match zr M x with
  |some xs=>match atI xs i with
   |some d=>some (.dat d,M)
   |none=>none
  |none=>match x with
   |.dat (.str z)=>if z.length<=sizeLine then match atI z.cps.toList i with
     |some c=>some (.dat (.str ⟨#[c]⟩),M)
     |none=>none
    else none
   |_=>none
 |_=>none
def fL {K:Yb}:BG K (rIx K) kIx:=by
 intro L M M' H H0 x y d v w Q c rx ry hk q;erw[kIx]at hk;cbv at hk
 .rename_i i;let ew:w=.int i:=by erw[zR,Rep]at ry;exact ry
  cbv at hk
  .rename_i xs e1;cbv at hk
   .rename_i d' e2;ext hk;let⟨a,vs,rfl,hs,r⟩:=FR c rx e1;let⟨u,e3,r3⟩:=ZR r e2;rcases hs with hs|hs
    .exact .inl ⟨a,vs,i,u,rfl,ew,hs,e3,q L H u (.refl L H) c r3⟩
    .exact .inr (.inl ⟨a,vs,i,u,rfl,ew,hs,e3,q L H u (.refl L H) c r3⟩)
   .cases hk
  .split at hk
   .rename_i z _;cbv at hk
    .rename_i hz;cbv at hk
     .rename_i ch e2;ext hk;let ev:v=.str z:=by erw[zR,Rep]at rx;exact rx
      exact .inr (.inr ⟨z,i,ch,ev,ew,hz,e2,q L H _ (.refl L H) c (fF (L:=L) (H:=H))⟩)
     .cases hk
    .cases hk
   .cases hk
 .cases hk
section
variable {prog:Ym} {w:Yo} {A:Yn} {E:Yc} {s:Yl}
def WD {t sl:Yt} {items:Yp} {vl vu:Yu} {lo hi:Ys} {Q:Yc} (T:IsTup s.heap t items) (S:s.heap.IsSliceOf sl vl vu .none) (pl:IsPart vl lo) (pu:IsPart vu hi)
  (h1:HT.sIx items.size 0 lo=0) (h2:HT.sIx items.size items.size hi=items.size) (h:Q (.ref t) s):wpAny (model prog w) A (getItem (.ref t) (.ref sl)) Q E s:=by
 let⟨o,O,C,G⟩:=id S;let TS:s.TypeIs (.ref sl) "slice" := ⟨o,O,C⟩;erw[getItem];try with_reducible refine BQ ?_
 first|refine AA (AB ?_)|skip
 calc AA (wpAny_sequenceKey T.typeIs () ?_);calc AA (CA (name:=Str.ofString "__getitem__") T.typeIs Dy (BI Dy T.typeIs entry_tuple_getitem ?_ (args_tuple_getitem _ _)));calc AA (m:=Builtin.Tuple.tupleItemsOf (.ref t)) (tupleItemsOf_ T (AA (Co TS ?_)));rw[AD ()];calc AA (HT.O7 S pl pu ?_);rw[h1,h2];show wpAny _ _ (if ((((0:Nat):Int)==0&&(1:Int)==1&&(items.size-0)==items.size))=true then _ else _) _ _ s;rw[AD (by simp)];erw[Builtin.Tuple.tupleIsExact];calc AA (AA (Co T.typeIs (AB ?_)));rw[AD ()];calc AA (BX (AB ⟨_,rfl,AB h⟩))
end
def SG (K:Yb):V->Option Int->Option Int->Hp->VK->Prop:=λx lo hi H Q=>∃ a xs,x=.ref a/\SqT K H a xs/\(HT.sIx xs.length 0 lo=0/\HT.sIx xs.length xs.length hi=xs.length)/\Q (.ref a) H
def jN {X:Cx}:SlR X (SG X.K):=by
 intro zB s Y H x v vl vu lo hi sl Q I rx hs pl pu h;let⟨a,xs,rfl,hx,hw,q⟩:=h;ext rx;let⟨its,r,ht,hz⟩:=I.tuple hx;let hlen:its.toArray.size=xs.length:=by rw[AO];exact r.length.symm
 calc ⟨"tuple", _,Dy.lookup,ht.typeIs,WD ht hs pl pu (by rw[hlen];calc hw.1) (by rw[hlen];calc hw.2) ⟨.ref a,H,I,rfl,q⟩⟩
section
variable {X:Cx} {a b e:Expr} {es:Yi} {pos:Pos} {f g:FE}
def UQ (h1:QE X a f) (h2:QE X b g) (hs:OS b:=by intro _ _;rfl):QE X (.Subscript a b pos) (fOp kIx f g):=.mk <| PE.imp (Uv YD h1.un h2.un hs) λ_ _ _ h=>GL fL h
abbrev FO:=Sd->Mem->Option (Option Int × Mem)
def trO (K:Yb) (f:FO):TO:=λτ H Q=>∃ L Y M d M',Cor K L M H/\Ak L H Y τ/\f Y M=some (d,M') /\ ∀ L' H',Stp L H L' H'->Cor K L' M' H'->Q d H'
structure QO (X:Cx) (e:Option Expr) (f:FO):Prop where
 un:PO X e (trO X.K f)
def AY:FO:=λ_ M=>some (none,M)
def Af (f:FE):FO:=λY M=>match f Y M with
 |some (.dat (.int i),M')=>some (some i,M')
 |_=>none
def PO.imp {e:Option Expr} {t t':TO} (h:PO X e t) (hi:∀ τ H Q,t' τ H Q->t τ H Q):PO X e t':=λzB s Y H Q I q=>h zB s Y H Q I (hi _ _ _ q)
def ZZ:QO X none AY:=.mk <| PO.imp Rb λτ H Q zz=>by
 let⟨L,Y,M,d,M',c,rs,hf,q⟩:=zz;erw[AY]at hf;ext hf;calc q L H (.refl L H) c
def ZT (h:QE X e f):QO X (some e) (Af f):=.mk <| PO.imp (XI h.un) λτ H Q zz=>by
 let⟨L,Y,M,d,M',c,rs,hf,q⟩:=zz;erw[Af]at hf;cbv at hf
 .rename_i i M1 e1;ext hf;refine (mkE c rs e1 (λL1 H1 v s1 c1 r1=>?_));exact ⟨i,by erw[zR,Rep]at r1;calc r1,q L1 H1 s1 c1⟩
 .cases hf
def Bw (xs:List D) (lo hi:Ys):List D:=(xs.drop (HT.sIx xs.length 0 lo)).take (HT.sIx xs.length xs.length hi-HT.sIx xs.length 0 lo)
def Qu {L:Yg} {H:Hp} {xs:List D} {vs:List V} {lo hi:Ys} (r:zG L H xs vs):zG L H (Bw xs lo hi) (FK vs lo hi):=by
 erw[Bw,FK];rw[r.length];calc (r.drop _).take _
def kSl (x:EV) (lo hi:Ys) (M:Mem):Option (EV × Mem):=match Cc x with
 |some xs=>some (.dat (.tup (Bw xs lo hi)),M)
 |none=>match B1 M x with
  |some xs=>some (.fl (Bw xs lo hi),M)
  |none=>none
def fSl (f:FE) (fl fh:FO):FE:=λY M=>match f Y M with
 |some (x,M1)=>match fl Y M1 with
  |some (lo,M2)=>match fh Y M2 with
   |some (hi,M3)=>kSl x lo hi M3
   |none=>none
  |none=>none
 |none=>none
def bT {lo hi:Option Expr} {p2:Pos} {fl fh:FO} (h:QE X e f) (hl:QO X lo fl) (hh:QO X hi fh):QE X (.Subscript e (.Slice lo hi none p2) pos) (fSl f fl fh) :=
 .mk <| PE.imp (cF (SlR.or Rk (SlR.or bR jN)) h.un hl.un hh.un) λτ H Q zz=>by
  let⟨L,Y,M,d,M',c,rs,hf,q⟩:=zz;erw[fSl]at hf;cbv at hf
  .rename_i x M1 e1;cbv at hf
   .rename_i l M2 e2;cbv at hf
    .rename_i u M3 e3;refine ⟨L,Y,M,_,_,c,rs,e1,λL1 H1 v s1 c1 r1=>⟨L1,Y,M1,_,_,c1,rs.stp s1,e2,λL2 H2 s2 c2=>⟨L2,Y,M2,_,_,c2,rs.stp (s1.trans s2),e3,λL3 H3 s3 c3=>?_⟩⟩⟩;let s:=(s1.trans s2).trans s3;let r3:zR H L3 H3 x v:=(r1.stp s2).stp s3;erw[kSl]at hf;cases t:Cc x with
     |some xs=>
      rw[t]at hf;dsimp only at hf;ext hf;let⟨a,vs,rfl,e4,r4⟩:=Dx r3 t;by_cases hw:HT.sIx vs.length 0 l=0/\HT.sIx vs.length vs.length u=vs.length
      .refine .inr (.inr ⟨a,vs,rfl,.of e4,hw,?_⟩);let ec:Bw xs l u=xs:=by
        erw[Bw];rw[<-r4.length,hw.1,hw.2,r4.length];simp
       rw[ec]at q;calc q L3 H3 _ s c3 ?_;erw[zR,Rep];exact ⟨a,vs,rfl,e4,r4⟩
      .refine .inr (.inl ⟨a,vs,rfl,.of e4,hw,λp hp=>?_⟩);calc q L3 _ _ (s.trans (.upd hp)) (c3.upd hp) (Rep.newTup hp (Qu r4))
     |none=>
      rw[t]at hf;dsimp only at hf;cbv at hf
      .rename_i xs e4;ext hf;let⟨a,vs,rfl,e5,r5⟩:=Dl c3 r3 e4;refine .inl ⟨a,vs,rfl,.inl e5,λp hp=>?_⟩;exact q L3 _ _ (s.trans (.upd hp)) (c3.upd hp) (zR.newLst s c c3 hp (Qu r5))
      .cases hf
    .cases hf
   .cases hf
  .cases hf
abbrev KB:=List EV->Mem->Option (EV × Mem)
def Dc (K:Yb) (r:List V->Hp->VK->Prop) (k:KB):Prop:=∀ {L:Yg} {M M':Mem} {H H0:Hp} {xs:List EV} {d:EV} {vs:List V} {Q:VK},Cor K L M H->Ct H0 L H xs vs->k xs M=some (d,M') ->
 (∀ L' H' u,Stp L H L' H'->Cor K L' M' H'->zR H L' H' d u->Q u H')->r vs H Q
def fB (k:KB) (f:FAE):FE:=λY M=>match f Y M with
 |some (xs,M1)=>k xs M1
 |none=>none
def Ny {K:Yb} {r:List V->Hp->VK->Prop} {k:KB} {f:FAE} (hk:Dc K r k) {τ:Sv} {H:Hp} {Q:VK} (h:trE K (fB k f) τ H Q):tCB r (Oj K f) τ H Q:=by
 let⟨L,Y,M,d,M',c,rs,hf,q⟩:=h;erw[fB]at hf;cbv at hf
 .rename_i xs M1 e1;refine ⟨L,Y,M,_,_,c,rs,e1,λL1 H1 vs s1 c1 r1=>?_⟩;refine hk c1 r1 hf λL2 H2 u s2 c2 r2=>?_;exact q L2 H2 u (s1.trans s2) c2 (r2.back s1 c s2.sub)
 .cases hf
def Ct.one {H0:Hp} {L:Yg} {H:Hp} {x:EV} {vs:List V} (h:Ct H0 L H [x] vs):∃ v,vs=[v]/\zR H0 L H x v:=by
 let⟨v,r,rfl,h1,h2⟩:=h;erw[Ct]at h2;subst h2;calc ⟨v,rfl,h1⟩
def AZ:KB:=λxs M=>match xs with
 |[x]=>match zr M x with
  |some ys=>some (.dat (.int ys.length),M)
  |none=>none
 |_=>none
def Xc:Dc X.K (λxs H Q=>∃ p ys,xs=[.ref p]/\(SqL X.K H p ys\/SqT X.K H p ys)/\Q (.int ys.length) H) AZ:=by
 intro L M M' H H0 xs d vs Q c r hk q;erw[AZ]at hk;cbv at hk
 .rename_i x;cbv at hk
  .rename_i ys e1;ext hk;let⟨v,rfl,r1⟩:=r.one;let⟨a,ws,rfl,hs,r2⟩:=FR c r1 e1;calc ⟨a,ws,rfl,hs,q L H _ (.refl L H) c ?_⟩;rw[r2.length];exact (CO (L:=L) (H:=H))
  .cases hk
 .cases hk
def Gf {x:Str} {p:Pos} {id:String} {r:List V->Hp->VK->Prop} {k:KB} {f:FAE} (hk:Dc X.K r k) (hc:CV X (.builtin id) r) (hv:bootBuiltins x=some (.builtin id)) (hg:Gl X x) (hm:X.mg x=none) (ha:QAE X (e::es) f) (hn:x ≠ "__name__" := by decide) (hdb:(x==("__debug__" : Str))=false:=by decide)
  (he:starEach (e::es) X.env=(false,eval e X.env)::starEach es X.env:=by rfl) (hpl:(backTo pos (starEach es X.env)).any (·.1)=false:=by rfl):QE X (.Call (.Name x p) (e::es) [] pos) (fB k f) :=
 .mk <| PE.imp (Ot hc hg hm hv ha.un hn hdb he hpl) λ_ _ _ h=>Ny hk h
def MC {x:Str} {p:Pos} {T:String} {r:List V->Hp->VK->Prop} {k:KB} {f:FAE} (hk:Dc X.K r k) (hc:CV X (.type T) r) (hv:bootBuiltins x=some (.type T)) (hg:Gl X x) (hm:X.mg x=none) (ha:QAE X (e::es) f) (hn:x ≠ "__name__" := by decide) (hdb:(x==("__debug__" : Str))=false:=by decide)
  (he:starEach (e::es) X.env=(false,eval e X.env)::starEach es X.env:=by rfl) (hpl:(backTo pos (starEach es X.env)).any (·.1)=false:=by rfl):QE X (.Call (.Name x p) (e::es) [] pos) (fB k f) :=
 .mk <| PE.imp (LK hc hg hm hv ha.un hn hdb he hpl) λ_ _ _ h=>Ny hk h
def CC:KB:=λxs M=>match xs with
 |[x]=>match zr M x with
  |some ys=>some (.dat (.tup ys),M)
  |none=>none
 |_=>none
def VM:Dc X.K (λxs H Q=>∃ p ys,xs=[.ref p]/\((SqL X.K H p ys /\ ∀ l,H l=none->Q (.ref l) (upd H l (.tup ys)))\/(SqT X.K H p ys/\Q (.ref p) H))) CC:=by
 intro L M M' H H0 xs d vs Q c r hk q;erw[CC]at hk;cbv at hk
 .rename_i x;cbv at hk
  .rename_i ys e1;ext hk;let⟨v,rfl,r1⟩:=r.one;erw[zr]at e1;cases t:Cc x with
   |some zs=>
    rw[t]at e1;ext e1;let⟨a,ws,rfl,e2,r2⟩:=Dx r1 t;calc ⟨a,ws,rfl,.inr ⟨.of e2,q L H _ (.refl L H) c ?_⟩⟩;erw[zR,Rep];calc ⟨a,ws,rfl,e2,r2⟩
   |none=>
    rw[t]at e1;let⟨a,ws,rfl,e2,r2⟩:=Dl c r1 e1;refine ⟨a,ws,rfl,.inl ⟨.inl e2,λp hp=>?_⟩⟩;exact q L _ _ (.upd hp) (c.upd hp) (Rep.newTup hp r2)
  .cases hk
 .cases hk
end
set_option genInjectivity true in
inductive Out where
  |nx|ret (d:D)|brk|cnt
abbrev FS:=Sd->Mem->Option (Out × Sd × Mem)
def YT (E:Ends) (L:Yg) (H:Hp) (Y:Sd):Out->Prop
  |.nx=>∀ τ,Ak L H Y τ->E.nx τ H
  |.ret d=>∀ v,Rep L H d v->E.rt v H
  |.brk=>∀ τ,Ak L H Y τ->E.bk τ H
  |.cnt=>∀ τ,Ak L H Y τ->E.ct τ H
def trS (K:Yb) (f:FS):TS:=λE τ H=>∃ L Y M o Y' M',Cor K L M H/\Ak L H Y τ/\f Y M=some (o,Y',M') /\ ∀ L' H',Stp L H L' H'->Cor K L' M' H'->YT E L' H' Y' o
structure QS (X:Cx) (st:Stmt) (f:FS):Prop where
  un:PS X st (trS X.K f)
structure QSs (X:Cx) (st:Yy) (f:FS):Prop where
  un:PSs X st (trS X.K f)
def Ak.set {L:Yg} {H:Hp} {Y:Sd} {τ:Sv} {i:Nat} {d:D} {v:V} (h:Ak L H Y τ) (r:Rep L H d v):Ak L H (Y.set i (some d)) (τ.set i (some v)):=by
  refine ⟨by simp[h.1],λj e q=>?_⟩;rw[DN]at q ⊢;cbv at q
  . rename_i z
    subst z;cbv at q
    . rename_i hl
      ext q;rw[AD rfl,AD (by rw[h.1];calc hl)];exact ⟨v,rfl,r⟩
    .cases q
  . rename_i z
    rw[AE z];calc h.2 j e q
def NB {K:Yb} {f:FE} {τ:Sv} {H:Hp} {Q:VK} (h:trD K (toD f) τ H Q):trE K f τ H Q:=by
  let⟨L,Y,M,d,M',c,rs,hf,q⟩:=h;erw[toD]at hf;cbv at hf
  . rename_i d' M1 e1
    ext hf;exact (mkE c rs e1 (λL' H' v s c' r=>q L' H' v s c' r))
  . rename_i xs M1 e1
    ext hf;refine (mkE c rs e1 (λL' H' v s c' r=>?_));let⟨p,vs,rfl,e0,e2,e3,r⟩:=r;let⟨c2,s2⟩:=RY s c' e0 e2 e3 r;exact q _ H' _ s2 c2 (Rep.last c')
  .cases hf
def BP:FS:=λY M=>some (.nx,Y,M)
def zN (f g:FS):FS:=λY M=>match f Y M with
  |some (.nx,σ1,M1)=>g σ1 M1
  |r=>r
def sIf (c:FT) (f g:FS):FS:=λY M=>match c Y M with
  |some (true,M1)=>f Y M1
  |some (false,M1)=>g Y M1
  |none=>none
def Aa (f:FE):FS:=λY M=>match toD f Y M with
  |some (d,M1)=>some (.ret d,Y,M1)
  |none=>none
def AN (i:Nat) (f:FE):FS:=λY M=>match toD f Y M with
  |some (d,M1)=>some (.nx,Y.set i (some d),M1)
  |none=>none
def BL (f:FE):FS:=λY M=>match f Y M with
  |some (_,M1)=>some (.nx,Y,M1)
  |none=>none
section
variable {X:Cx} {st:Stmt} {rest:Yy} {e c:Expr} {pos:Pos}
def Wm:QSs X [] BP:=.mk <| PSs.imp Xd λE τ H zz=>by
  let⟨L,Y,M,o,Y',M',c,rs,hf,q⟩:=zz;erw[BP]at hf;ext hf;calc q L H (.refl L H) c τ rs
def Xy {f g:FS} (h1:QS X st f) (h2:QSs X rest g):QSs X (st::rest) (zN f g):=.mk <| PSs.imp (SR h1.un h2.un) λE τ H zz=>by
  let⟨L,Y,M,o,Y',M',c,rs,hf,q⟩:=zz;erw[zN]at hf;cbv at hf
  . rename_i σ1 M1 e1
    refine ⟨L,Y,M,_,_,_,c,rs,e1,λL1 H1 s1 c1 τ1 r1=>⟨L1,σ1,M1,_,_,_,c1,r1,hf,λL2 H2 s2 c2=>q L2 H2 (s1.trans s2) c2⟩⟩
  . rename_i hne
    refine ⟨L,Y,M,_,_,_,c,rs,hf,λL1 H1 s1 c1=>?_⟩;let z:=q L1 H1 s1 c1;cases o with
    |nx=>calc absurd hf (hne Y' M')
    |ret d=>calc z
    |brk=>calc z
    |cnt=>calc z
def XC {f:FS} (h1:QS X st f):QSs X [st] f:=.mk <| PSs.imp (WO h1.un) λ_ _ _ h=>h
def U6 {a b:Yy} {fc:FT} {f g:FS} (hc:QT X c fc) (ha:QSs X a f) (hb:QSs X b g):QS X (.If c a b pos) (sIf fc f g):=.mk <| PS.imp (ZW hc.un ha.un hb.un) λE τ H zz=>by
  let⟨L,Y,M,o,Y',M',c,rs,hf,q⟩:=zz;erw[sIf]at hf;cbv at hf
  . rename_i M1 e1
    refine (mkT c rs e1 (λL1 H1 s1 c1=>?_));exact EC ⟨L1,Y,M1,_,_,_,c1,rs.stp s1,hf,λL2 H2 s2 c2=>q L2 H2 (s1.trans s2) c2⟩
  . rename_i M1 e1
    refine (mkT c rs e1 (λL1 H1 s1 c1=>?_));exact EG ⟨L1,Y,M1,_,_,_,c1,rs.stp s1,hf,λL2 H2 s2 c2=>q L2 H2 (s1.trans s2) c2⟩
  .cases hf
def S4 {f:FE} (h:QE X e f):QS X (.Return (some e) pos) (Aa f):=.mk <| PS.imp (d5 (DZ h).un) λE τ H zz=>by
  let⟨L,Y,M,o,Y',M',c,rs,hf,q⟩:=zz;erw[Aa]at hf;cbv at hf
  . rename_i d M1 e1
    ext hf;exact (mkD c rs e1 (λL1 H1 v s1 c1 r1=>q L1 H1 s1 c1 v r1))
  .cases hf
def MG {K:Yb} {i:Nat} {f:FE} {t:TE} (ht:∀ τ H Q,trE K f τ H Q->t τ H Q) {E:Ends} {τ:Sv} {H:Hp} (h:trS K (AN i f) E τ H):Hf t (Cq i) E τ H:=by
  let⟨L,Y,M,o,Y',M',c,rs,hf,q⟩:=h;erw[AN]at hf;cbv at hf
  . rename_i d M1 e1
    ext hf;exact ht _ _ _ (NB (mkD c rs e1 (λL1 H1 v s1 c1 r1=>q L1 H1 s1 c1 _ ((rs.stp s1).set r1))))
  .cases hf
def b5 {i:Nat} {x:Str} {f:FE} {pos':Pos} (hN:X.N.Nodup) (hi:X.N[i]?=some x) (hx:Loc X.env.scope x) (h:QE X e f) (hs:swapsWith e (some (.Name x pos')) pos.line X.env=pure false:=by rfl)
    (hf:X.fn x=true\/X.env.scope.names.lookup x=some .local:=by first|exact .inl rfl|exact .inr rfl|assumption):QS X (.Assign [.Name x pos'] e pos) (AN i f) := 
  .mk <| PS.imp (Tt hN hi hx h.un hs hf) λ_ _ _ z=>MG (λ_ _ _ z=>z) z
def fY {f:FE} (h:QE X e f) (hs:swapsWith e none pos.line X.env=pure false:=by rfl):QS X (.Expr e pos) (BL f):=.mk <| PS.imp (R7 h.un hs) λE τ H zz=>by
  let⟨L,Y,M,o,Y',M',c,rs,hf,q⟩:=zz;erw[BL]at hf;cbv at hf
  . rename_i d M1 e1
    ext hf;exact (mkE c rs e1 (λL1 H1 v s1 c1 r1=>q L1 H1 s1 c1 τ (rs.stp s1)))
  .cases hf
abbrev FG:=D->Sd->Option Sd
def GOk (g:TG) (fg:FG):Prop:=∀ {L:Yg} {H:Hp} {Y Y':Sd} {τ:Sv} {d:D} {v:V} {Q:Sv->Hp->Prop},Ak L H Y τ->Rep L H d v->fg d Y=some Y'->(∀ τ',Ak L H Y' τ'->Q τ' H)->g v τ H Q
def gN (i:Nat):FG:=λd Y=>some (Y.set i (some d))
def VS {i:Nat}:GOk (Cq i) (gN i):=by
  intro L H Y Y' τ d v Q rs r hf q;erw[gN]at hf;ext hf;calc q _ (rs.set r)
abbrev FI:=Sd->Mem->Option (List D × Option (Mem->Prop) × Mem)
def Bv (g:Option (Mem->Prop)) (xs:List D) (M:Mem):Prop:=match g with
  |none=>True
  |some p=>p M
def MF (K:Yb) (J:It) (L:Yg) (H:Hp) (xs:List D) (g:Option (Mem->Prop)):Prop:=∀ L' H' M',Stp L H L' H'->Cor K L' M' H'->Bv g xs M' ->
  (∀ (i:Nat) d,xs[i]?=some d->J.go i H' /\ ∀ v H'',J.yld i H' v H''->(∀ a o,H' a=some o->H'' a=some o)/\Rep L' H'' d v)/\J.stop xs.length H'
def trI (K:Yb) (f:FI):TI:=λτ H R=>∃ L Y M xs g M',Cor K L M H/\Ak L H Y τ/\f Y M=some (xs,g,M') /\ ∀ L' H' J,Stp L H L' H'->Cor K L' M' H'->MF K J L' H' xs g->R J H'
def mkI {K:Yb} {f:FI} {τ:Sv} {H:Hp} {R} {Y:Sd} {M M':Mem} {xs g} (c:Cor K L M H) (r:Ak L H Y τ) (e:f Y M=some (xs,g,M')) (q:∀ L' H' J,Stp L H L' H'->Cor K L' M' H'->MF K J L' H' xs g->R J H'):trI K f τ H R:=⟨_,_,_,_,_,_,c,r,e,q⟩
structure QI (X:Cx) (tg e:Expr) (f:FI):Prop where
  un:PI X tg e (trI X.K f)
def PI.imp {tg e:Expr} {t t':TI} (h:PI X tg e t) (hi:∀ τ H R,t' τ H R->t τ H R):PI X tg e t':=λzB s Y H R I q=>h zB s Y H R I (hi _ _ _ q)
def DJ (g:FG) (b:FS) (all:List D) (gd:Option (Mem->Prop)):List D->Sd->Mem->Option (Out × Sd × Mem)
  |[],Y,M=>open Classical in if Bv gd all M then some (.nx,Y,M) else none
  |x::r,Y,M=>open Classical in if Bv gd all M then match g x Y with
      |some σ1=>match b σ1 M with
        |some (.nx,σ2,M2)=>DJ g b all gd r σ2 M2
        |some (.cnt,σ2,M2)=>DJ g b all gd r σ2 M2
        |some (.brk,σ2,M2)=>some (.nx,σ2,M2)
        |some (.ret d,σ2,M2)=>some (.ret d,σ2,M2)
        |none=>none
      |none=>none
    else none
def B9 (fi:FI) (g:FG) (b:FS):FS:=λY M=>match fi Y M with
  |some (xs,gd,M1)=>DJ g b xs gd xs Y M1
  |none=>none
def JC {α:Type} {xs:List α} {i:Nat} (h:i<xs.length):xs.drop i=xs[i]::xs.drop (i+1):=List.drop_eq_getElem_cons h
def Stp.yld {L L':Yg} {H H' H'':Hp} (s:Stp L H L' H') (h:∀ a o,H' a=some o->H'' a=some o):Stp L H L' H'':=s.trans (.grow h)
set_option genInjectivity true in
inductive FW (K:Yb) (fg:FG) (b:FS) (xs:List D) (gd:Option (Mem->Prop)) (r:Option (Out × Sd × Mem)) (L1:Yg) (H1:Hp):Nat->Nat->Sv->Hp->Prop
  |mk {i:Nat} {τ':Sv} {H':Hp} {L':Yg} {Y':Sd} {M':Mem}:i<=xs.length->Stp L1 H1 L' H'->Cor K L' M' H'->Ak L' H' Y' τ'->DJ fg b xs gd (xs.drop i) Y' M'=r->FW K fg b xs gd r L1 H1 i (xs.length-i) τ' H'
def fU {K:Yb} {fi:FI} {g:TG} {fg:FG} {b:FS} (hg:GOk g fg) {E:Ends} {τ:Sv} {H:Hp} (h:trS K (B9 fi fg b) E τ H):PH (trI K fi) g (trS K b) E τ H:=by
  let⟨L,Y,M,o,σf,Mf,c,rs,hf,q⟩:=h;erw[B9]at hf;cbv at hf
  . rename_i xs gd M1 e1
    refine (mkI c rs e1 (λL1 H1 J s1 c1 it=>?_));calc ⟨FW K fg b xs gd (some (o,σf,Mf)) L1 H1,⟨_,.mk (BK _) (.refl _ _) c1 (rs.stp s1) (~~~hf)⟩,?_⟩;rintro i m τ' H' ⟨hi,s',c',rs',e'⟩;rename_i L' Y' M';by_cases hlt:i<xs.length
    . rw[JC hlt]at e'
      erw[DJ]at e';cbv at e'
      . rename_i hgd
        let⟨step,_⟩:=it L' H' M' s' c' hgd;let⟨go,yl⟩:=step i xs[i] (AM hlt);cases eg:fg xs[i] Y' with
        |none=>rw[eg]at e';ext e'
        |some σ1=>
          rw[eg]at e';dsimp only at e';refine .inr ⟨go,FW K fg b xs gd (some (o,σf,Mf)) L1 H1 (i+1) (xs.length-(i+1)),λτ2 H2 a=>⟨xs.length-(i+1),(),a⟩,λv H2 hy=>?_⟩;let⟨gr,rv⟩:=yl v H2 hy;refine hg (Ak.stp (.grow gr) rs') rv eg λτ2 r2=>?_;cases eb:b σ1 M' with
          |none=>rw[eb]at e';ext e'
          |some r=>
            let⟨o2,σ2,M2⟩:=r;rw[eb]at e';refine ⟨L',σ1,M',_,_,_,c'.grow gr,r2,eb,λL3 H3 s3 c3=>?_⟩;let s13:Stp L1 H1 L3 H3:=(s'.yld gr).trans s3;cases o2 with
            |nx=>exact λτ3 r3=> .mk hlt s13 c3 r3 e'
            |cnt=>exact λτ3 r3=> .mk hlt s13 c3 r3 e'
            |brk=>ext e';calc q L3 H3 (s1.trans s13) c3
            |ret d=>ext e';exact q L3 H3 (s1.trans s13) c3
      .cases e'
    . have hi':i=xs.length:=()
      subst hi';rw[List.drop_length]at e';erw[DJ]at e';cbv at e'
      . rename_i hgd
        ext e';let⟨_,stop⟩:=it L' H' _ s' c' hgd;exact .inl ⟨stop,q L' H' (s1.trans s') c' τ' rs'⟩
      .cases e'
  .cases hf
def Oi {tg iter:Expr} {body:Yy} {fi:FI} {g:TG} {fg:FG} {b:FS} (hg:GOk g fg) (hp:PassesOwn (model X.prog X.w) X.A X.env X.xe) (hc:X.calm=true) (hi:QI X tg iter fi) (ht:PG X tg g) (hb:QSs X body b)
    (hs:∀ x,foldedSetIterable iter X.env x=pure x:=by intro _;rfl):QS X (.For tg iter body [] pos) (B9 fi fg b):=.mk <| PS.imp (aD hp hc hi.un ht hb.un hs) λ_ _ _ h=>fU hg h
end
section
variable {X:Cx} {e c iter tg elt:Expr} {pos:Pos} {scope:Y0} {ifs:Yi}
def Cf (c:FT) (b:FS):Nat->Sd->Mem->Option (Out × Sd × Mem)
  |0,_,_=>none
  |n+1,Y,M=>match c Y M with
    |some (true,M1)=>match b Y M1 with
      |some (.nx,σ2,M2)=>Cf c b n σ2 M2
      |some (.cnt,σ2,M2)=>Cf c b n σ2 M2
      |some (.brk,σ2,M2)=>some (.nx,σ2,M2)
      |some (.ret d,σ2,M2)=>some (.ret d,σ2,M2)
      |none=>none
    |some (false,M1)=>some (.nx,Y,M1)
    |none=>none
def V1 {K:Yb} {fc:FT} {b:FS} {n:Nat} {E:Ends} {τ:Sv} {H:Hp} (h:trS K (Cf fc b n) E τ H):Np (trT K fc) (trS K b) E τ H:=by
  let⟨L,Y,M,o,σf,Mf,c,rs,hf,q⟩:=h;refine ⟨λm τ' H'=>∃ L' Y' M',Stp L H L' H'/\Cor K L' M' H'/\Ak L' H' Y' τ'/\Cf fc b m Y' M'=some (o,σf,Mf),⟨n,L,Y,M,.refl _ _,c,rs,hf⟩,?_⟩;rintro m τ' H' ⟨L',Y',M',s',c',rs',e'⟩;cases m with
  |zero=>erw[Cf]at e';ext e'
  |succ m=>
    erw[Cf]at e';cbv at e'
    . rename_i M1 e1
      refine (mkT c' rs' e1 (λL1 H1 s1 c1=>EC ?_));refine ⟨λτ2 H2=>∃ L2 σ2 M2,Stp L H L2 H2/\Cor K L2 M2 H2/\Ak L2 H2 σ2 τ2/\Cf fc b m σ2 M2=some (o,σf,Mf),λτ2 H2 h2=>⟨m,DU m,h2⟩,?_⟩;cases eb:b Y' M1 with
      |none=>rw[eb]at e';ext e'
      |some r=>
        let⟨o2,σ2,M2⟩:=r;rw[eb]at e';refine ⟨L1,Y',M1,_,_,_,c1,rs'.stp s1,eb,λL3 H3 s3 c3=>?_⟩;let s13:Stp L H L3 H3:=(s'.trans s1).trans s3;cases o2 with
        |nx=>exact λτ3 r3=>⟨L3,σ2,M2,s13,c3,r3,e'⟩
        |cnt=>exact λτ3 r3=>⟨L3,σ2,M2,s13,c3,r3,e'⟩
        |brk=>ext e';calc q L3 H3 s13 c3
        |ret d=>ext e';exact q L3 H3 s13 c3
    . rename_i M1 e1
      ext e';exact ⟨L',_,M',_,_,c',rs',e1,λL1 H1 s1 c1=>EG (q L1 H1 (s'.trans s1) c1 τ' (rs'.stp s1))⟩
    .cases e'
def d8 {body:Yy} {fc:FT} {b:FS} (n:Nat) (hp:PassesOwn (model X.prog X.w) X.A X.env X.xe) (hc:QT X c fc) (hb:QSs X body b):QS X (.While c body [] pos) (Cf fc b n) := 
  .mk <| PS.imp (UJ hp hc.un hb.un) λ_ _ _ h=>V1 h
def Cd (own:Yj) (Y:Sd):Sd:=own.foldl (λY i=>Y.set i none) Y
theorem JQ {L:Yg} {H:Hp}:∀ (own:Yj) {Y:Sd} {τ:Sv},Ak L H Y τ->Ak L H (Cd own Y) (clr own τ)
  |[],_,_,h=>h
  |i::r,Y,τ,h=>by
    refine JQ r (Y:=Y.set i none) (τ:=τ.set i none) ⟨by simp[h.1],λj d q=>?_⟩;rw[DN]at q ⊢;cbv at q
    .split at q <;> ext q
    . rename_i z
      rw[AE z];calc h.2 j d q
def BV (g:FG) (tc:FT) (te:FE) (Y:Sd) (all:List D) (gd:Option (Mem->Prop)):List D->Mem->Option (List D × Mem)
  |[],M=>open Classical in if Bv gd all M then some ([],M) else none
  |x::r,M=>open Classical in if Bv gd all M then match g x Y with
      |some σ1=>match tc σ1 M with
        |some (true,M1)=>match toD te σ1 M1 with
          |some (d,M2)=>match BV g tc te Y all gd r M2 with
            |some (ds,M3)=>some (d::ds,M3)
            |none=>none
          |none=>none
        |some (false,M1)=>BV g tc te Y all gd r M1
        |none=>none
      |none=>none
    else none
def Ar (own:Yj) (fi:FI) (g:FG) (tc:FT) (te:FE):FE:=λY M=>match fi Y M with
  |some (xs,gd,M1)=>if xs.length<=sizeLine then match BV g tc te (Cd own Y) xs gd xs M1 with
      |some (ys,M2)=>some (.fl ys,M2)
      |none=>none
    else none
  |none=>none
/-- what a target of a comprehension does: it sets names of its own -/
def Dd (own:Yj) (g:TG) (fg:FG):Prop:=∀ {L:Yg} {H:Hp} {Y Y':Sd} {τ τ0:Sv} {d:D} {v:V} {Q:Sv->Hp->Prop},Ak L H Y τ->Ext (clr own τ0) τ->Rep L H d v->fg d Y=some Y'->(∀ τ',Ak L H Y' τ'->Ext (clr own τ0) τ'->Q τ' H)->g v τ H Q
def HB {own:Yj} {i:Nat} (hi:i∈own):Dd own (Cq i) (gN i):=by
  intro L H Y Y' τ τ0 d v Q rs ex r hf q;erw[gN]at hf;ext hf;exact q _ (rs.set r) (ex.set hi)
set_option genInjectivity true in
inductive CW (K:Yb) (fg:FG) (tc:FT) (te:FE) (σ0:Sd) (xs:List D) (gd:Option (Mem->Prop)) (Mf:Mem) (zs:List D) (L1:Yg) (H1:Hp):Nat->Nat->List V->Hp->Prop
  |mk {i:Nat} {ys:List V} {H':Hp} {L':Yg} {M':Mem} {as bs:List D}:i<=xs.length->Stp L1 H1 L' H'->Cor K L' M' H'->zG L' H' as ys->as.length<=i->BV fg tc te σ0 xs gd (xs.drop i) M'=some (bs,Mf)->as++bs=zs->CW K fg tc te σ0 xs gd Mf zs L1 H1 i (xs.length-i) ys H'
def NK {K:Yb} {own:Yj} {fi:FI} {g:TG} {fg:FG} {tc:FT} {te:FE} (hg:Dd own g fg) {τ:Sv} {H:Hp} {Q:VK} (h:trE K (Ar own fi fg tc te) τ H Q):Kp own (trI K fi) g (trT K tc) (trD K (toD te)) τ H Q:=by
  let⟨L,Y,M,d,Mf,c,rs,hf,q⟩:=h;erw[Ar]at hf;cbv at hf
  . rename_i xs gd M1 e1
    cbv at hf
    . rename_i hz
      cbv at hf
      . rename_i zs M2 e2
        ext hf;refine (mkI c rs e1 (λL1 H1 J s1 c1 it=>?_));calc ⟨CW K fg tc te (Cd own Y) xs gd Mf zs L1 H1,⟨_,.mk (BK _) (.refl _ _) c1 .nil (AF _) (~~~e2) rfl⟩,?_⟩;rintro i m ys H' ⟨hi,s',c',r',hl,e',hab⟩;rename_i L' M' as bs;let hys:ys.length<=i:=by rw[r'.length];exact hl
        by_cases hlt:i<xs.length
        . rw[JC hlt]at e'
          erw[BV]at e';cbv at e'
          . rename_i hgd
            let⟨step,_⟩:=it L' H' M' s' c' hgd;let⟨go,yl⟩:=step i xs[i] (AM hlt);cbv at e'
            . rename_i σ1 eg
              refine .inr ⟨go,λv H2 hy=>?_⟩;let⟨gr,rv⟩:=yl v H2 hy;let s2:Stp L1 H1 L' H2:=s'.yld gr;refine hg (JQ own ((rs.stp s1).stp s2)) (.refl _) rv eg λτ2 r2 x2=>⟨x2,?_⟩;cbv at e'
              . rename_i M3 e3
                cbv at e'
                . rename_i d M4 e4
                  cbv at e'
                  . rename_i ds M5 e5
                    ext e';refine (mkT (c'.grow gr) r2 e3 (λL3 H3 s3 c3=>EC ?_));refine (mkD c3 (r2.stp s3) e4 (λL4 H4 w s4 c4 r4=>?_));let st:Stp L' H' L4 H4:=((Stp.grow gr).trans s3).trans s4;refine ⟨En hys (BC hlt hz),xs.length-(i+1),(),.mk (as:=as++[d]) hlt (s'.trans st) c4 ((r'.stp st).app (.cons r4 .nil)) (by simp;omega) e5 (by rw[<-hab];simp)⟩
                  .cases e'
                .cases e'
              . rename_i M3 e3
                refine (mkT (c'.grow gr) r2 e3 (λL3 H3 s3 c3=>EG ?_));let st:Stp L' H' L3 H3:=(Stp.grow gr).trans s3;exact ⟨xs.length-(i+1),(),.mk hlt (s'.trans st) c3 (r'.stp st) () e' hab⟩
              .cases e'
            .cases e'
          .cases e'
        . have hi':i=xs.length:=()
          subst hi';rw[List.drop_length]at e';erw[BV]at e';cbv at e'
          . rename_i hgd
            ext e';let⟨_,stop⟩:=it L' H' _ s' c' hgd;refine .inl ⟨stop,Ao hys hz,λp hp=>?_⟩;rw[DO]at hab;subst hab;exact q L' _ _ ((s1.trans s').trans (.upd hp)) (c'.upd hp) (zR.newLst (s1.trans s') c c' hp r')
          .cases e'
      .cases hf
    .cases hf
  .cases hf
structure QIfs (X:Cx) (ifs:Yi) (f:FT):Prop where
  un:EJ X ifs (trT X.K f)
def Ab:FT:=λ_ M=>some (true,M)
def Xk:QIfs X [] Ab:=.mk λzB s Y H Q I h=>by
  let⟨L,Y',M,d,M',c,rs,hf,q⟩:=h;erw[Ab]at hf;ext hf;calc V5 zB s Y H Q I (q L H (.refl L H) c)
def S7 {f:FT} (h:QT X c f):QIfs X [c] f:=.mk (eV h.un)
/-- the parts of a comprehension in its block -/
structure QParts (X:Cx) (scope:Y0) (tg:Expr) (ifs:Yi) (elt:Expr) (g:TG) (tc:FT) (te:FE):Prop where
  g:∀ zB cl s H fp,PG (zP X zB scope cl s H fp) tg g
  c:∀ zB cl s H fp,QIfs (zP X zB scope cl s H fp) ifs tc
  e:∀ zB cl s H fp,QE (zP X zB scope cl s H fp) elt te
def QParts.parts {g:TG} {tc:FT} {te:FE} (p:QParts X scope tg ifs elt g tc te):CompParts X scope tg ifs elt g (trT X.K tc) (trD X.K (toD te)) :=
  ⟨p.g,λzB cl s H fp=>(p.c zB cl s H fp).un,λzB cl s H fp=>(DZ (p.e zB cl s H fp)).un⟩
def LP {own:Yj} {fi:FI} {g:TG} {fg:FG} {tc:FT} {te:FE} (hg:Dd own g fg) (C:CompIn X scope own) (hcalm:X.calm=true) (hi:QI X tg iter fi) (p:QParts X scope tg ifs elt g tc te) (hs:∀ x,foldedSetIterable iter X.env x=pure x:=by intro _;rfl) :
    QE X (.ListComp elt [⟨tg,iter,ifs,0⟩] scope pos) (Ar own fi fg tc te):=.mk <| PE.imp (Zw C hcalm hi.un p.parts hs) λ_ _ _ h=>NK hg h
def cB {i:Nat} {x:Str} {pos' pos'':Pos} {own:Yj} {fi:FI} {g:TG} {fg:FG} {tc:FT} {te:FE} (hN:X.N.Nodup) (hi':X.N[i]?=some x) (hx:Loc X.env.scope x) (hfn:X.fn x=true\/X.env.scope.names.lookup x=some .local)
    (hsw:swapsWith (.ListComp elt [⟨tg,iter,ifs,0⟩] scope pos) (some (.Name x pos')) pos''.line X.env=pure true)
    (hg:Dd own g fg) (C:CompIn X scope own) (hcalm:X.calm=true) (hi:QI X tg iter fi) (p:QParts X scope tg ifs elt g tc te) (hs:∀ x,foldedSetIterable iter X.env x=pure x:=by intro _;rfl) :
    QS X (.Assign [.Name x pos'] (.ListComp elt [⟨tg,iter,ifs,0⟩] scope pos) pos'') (AN i (Ar own fi fg tc te)) := 
  .mk <| PS.imp (gK hN hi' hx hfn C hcalm hi.un p.parts hsw hs) λ_ _ _ z=>MG (λ_ _ _ z=>NK hg z) z
end
abbrev FF:=List D->Mem->Option (D × Mem)
def spF (K:Yb) (n:Nat) (g:FF):Sp:=λvs H Q _=>∃ L ds M d M',Cor K L M H/\zG L H ds vs/\ds.length=n/\g ds M=some (d,M') /\ ∀ L' H' v,Stp L H L' H'->Cor K L' M' H'->Rep L' H' d v->Q v H'
def ze (g:FF) (fa:FA):FE:=λY M=>match fa Y M with
 |some (ds,M1)=>match g ds M1 with
  |some (d,M2)=>some (.dat d,M2)
  |none=>none
 |none=>none
section
variable {X:Cx} {e:Expr} {es:Yi} {pos p:Pos} {x:Str} {k:Nat} {f:Yt} {fd:Yz} {ps:Yk}
def U7 (F:FnOk X.prog X.w X.K X.mg X.base CX0 k f fd ps (spF X.K (e::es).length g)) (hr:Room k X.A) (hg:Gl X x) (hm:X.mg x=some (.ref f)) (hk:PySem.W.keepIn X.K (.ref f)=true) (hb:GF X.K fd ps [])
  (ha:QA X (e::es) fa) (hl:∀ Y M ds M1,fa Y M=some (ds,M1)->ds.length=(e::es).length) (hdb:(x==("__debug__" : Str))=false:=by decide) (he:starEach (e::es) X.env=(false,eval e X.env)::starEach es X.env:=by rfl) (hpl:(backTo pos (starEach es X.env)).any (·.1)=false:=by rfl) :
  QE X (.Call (.Name x p) (e::es) [] pos) (ze g fa) :=
 .mk <| PE.imp (Xa F hr hg hm hk hb .nil T8 ha.un hdb he hpl) λτ H Q zz=>by
  let⟨L,Y,M,d,M',c,rs,hf,q⟩:=zz;erw[ze]at hf;cbv at hf
  .rename_i ds M1 e1;cbv at hf
   .rename_i d' M2 e2;ext hf;refine ⟨L,Y,M,_,_,c,rs,e1,λL1 H1 vs s1 c1 r1=>?_⟩;dsimp only;rw[DO];exact ⟨L1,ds,M1,d',_,c1,r1,hl _ _ _ _ e1,e2,λL2 H2 v s2 c2 r2=>q L2 H2 v (s1.trans s2) c2 r2⟩
   .cases hf
  .cases hf
def Hu (fa:FA) (n:Nat):Prop:=∀ Y M ds M1,fa Y M=some (ds,M1)->ds.length=n
def Rh:Hu zF 0:=λY M ds M1 h=>by erw[zF]at h;ext h;rfl
def VP {f:FD} {g:FA} {n:Nat} (h:Hu g n):Hu (zD f g) (n+1):=λY M ds M1 q=>by
 erw[zD]at q;cbv at q
 .split at q
  .rename_i e2;ext q;simp[h _ _ _ _ e2]
  .cases q
 .cases q
def BH (n:Nat) (b:FS):FF:=λds M=>match b (ds.map some++List.replicate (n-ds.length) none) M with
 |some (.ret d,_,M')=>some (d,M')
 |some (.nx,_,M')=>some (.non,M')
 |_=>none
def NP:∀ {ds:List D} {vs:List V},zG L H ds vs->Ak L H (ds.map some++List.replicate (N.length-ds.length) none) (L2.start N vs):=λ{ds vs} r=>by
 erw[L2.start];let hl:=r.length;refine ⟨by simp[hl],λi d q=>?_⟩;by_cases hi:i<ds.length
 .rw[Bf (~~~hi),AW]at q;rw[Bf (by simpa [hl] using hi),AW];cases e1:ds[i]? with
  |none=>rw[e1]at q;ext q
  |some d'=>
   rw[e1]at q;ext q;let⟨v,e2,r2⟩:=r.get e1;exact ⟨v,by rw[e2];rfl,r2⟩
 .rw[Ee (~~~hi),List.getElem?_replicate]at q;split at q <;> ext q
def Bz {P:Ym} {w:Yo} {K:Yb} {mg:Yh} {base:Heap} {qual:Str} {st:Stmt} {N:Yk} {b:FS} {n:Nat} (F:Fun K x qual st f fd) (S:FnScope N ps (zV st)) (hn:ps.length=n)
  (hb:∀ (cdv:Yu) (A:Yn) (outer:List Env) (s:Yl) (H:Hp) (E:XK),Room k (A.deeper (envOfC qual (zV st) ⇑s f cdv))->QSs (GU CX0 P w K mg base N qual (zV st) f cdv A outer s H E).nox (Fo st) b) :
  FnOk P w K mg base CX0 (k+1) f fd ps (spF K n (BH N.length b)):=by
 refine F.ok S (λvs H Q E h=>?_) (λcdv A outer s H vs Q E hr h=>⟨_,(hb cdv A outer s H E hr).un,?_⟩)
 .obtain ⟨L,ds,M,d,M',c,r,hl,_⟩:=h;rw[r.length,hl,hn]
 .obtain ⟨L,ds,M,d,M',c,r,hl,hf,q⟩:=h;erw[BH]at hf;cbv at hf
  .rename_i d' Y' M1 e1;ext hf;exact ⟨L,_,M,_,_,_,c,NP r,e1,λL1 H1 s1 c1 v r1=>q L1 H1 v s1 c1 r1⟩
  .rename_i Y' M1 e1;ext hf;exact ⟨L,_,M,_,_,_,c,NP r,e1,λL1 H1 s1 c1 τ' r1=>q L1 H1 .non s1 c1 (by erw[Rep];rfl)⟩
  .cases hf
mutual
def D.und (n:Nat):D->Bool
 |.tup ds=>D.unds n ds
 |.ref k=>decide (k<n)
 |.fn _ ds=>D.unds n ds
 |_=>true
def D.unds (n:Nat):List D->Bool
 |[]=>true
 |d::ds=>D.und n d&&D.unds n ds
end
mutual
theorem Rep.less:∀ {d:D} {v:V},D.und L.length d=true->Rep (L++N) H d v->Rep L H d v
 |.non,_,_,h=>by unfold Rep at h ⊢;calc h
 |.bl _,_,_,h=>by unfold Rep at h ⊢;calc h
 |.int _,_,_,h=>by unfold Rep at h ⊢;calc h
 |.str _,_,_,h=>by unfold Rep at h ⊢;calc h
 |.tup ds,_,hb,h=>by
  erw[D.und]at hb;unfold Rep at h ⊢;let⟨a,vs,rfl,e,r⟩:=h;calc ⟨a,vs,rfl,e,zG.less hb r⟩
 |.ref n,_,hb,h=>by
  erw[D.und]at hb;unfold Rep at h ⊢;let⟨a,rfl,e⟩:=h;calc ⟨a,rfl,by rwa [Bf (B2 hb)]at e⟩
 |.fn _ ds,_,hb,h=>by
  erw[D.und]at hb;unfold Rep at h ⊢;calc ⟨h.1,h.2.1,zG.less hb h.2.2⟩
theorem zG.less:∀ {ds:List D} {vs:List V},D.unds L.length ds=true->zG (L++N) H ds vs->zG L H ds vs
 |[],_,_,h=>by unfold zG at h ⊢;calc h
 |d::ds,_,hb,h=>by
  erw[D.unds]at hb;rw[BE]at hb;unfold zG at h ⊢;let⟨v,r,rfl,h1,h2⟩:=h;calc ⟨v,r,rfl,Rep.less hb.1 h1,zG.less hb.2 h2⟩
end
def AS.less {κ:Type} {kf:D->Option κ} {L N:Yg} {H:Hp}:∀ {ps:List (D × D)} {vs:List (κ × V)},(ps.all λp=>D.und L.length p.1&&D.und L.length p.2)=true->AS kf (L++N) H ps vs->AS kf L H ps vs
 |[],_,_,h=>h
 |p::r,_,hb,h=>by
  rw[List.all_cons,BE,BE]at hb;let⟨k,v,r',rfl,e,h1,h2⟩:=h;calc ⟨k,v,r',rfl,e,Rep.less hb.1.2 h1,AS.less hb.2 h2⟩
def MO.und (n:Nat):MO->Bool
 |.lst xs=>D.unds n xs
 |.fro xs=>D.unds n xs
 |.dict kvs=>kvs.all λp=>D.und n p.1&&D.und n p.2
 |.dicT kvs=>kvs.all λp=>D.und n p.1&&D.und n p.2
 |.set xs=>D.unds n xs
 |.froT kvs=>kvs.all λp=>D.und n p.1&&D.und n p.2
 |.froK kvs=>kvs.all λp=>D.und n p.1&&D.und n p.2
def Ff (g:FF):FF:=λds M=>match g ds M with
 |some (d,M')=>if D.und M.length d&&(M'.take M.length).all (MO.und M.length)&&decide (M.length<=M'.length) then some (d,M'.take M.length) else none
 |none=>none
def MY {P:Ym} {w:Yo} {K:Yb} {mg:Yh} {base:Heap} {n:Nat} {g:FF} (h:FnOk P w K mg base CX0 k f fd ps (spF K n g)):FnOk P w K mg base CX0 k f fd ps (spF K n (Ff g)) :=
 h.imp λvs H Q E ⟨L,ds,M,d,M',c,r,hl,hf,q⟩=>by
  erw[Ff]at hf;cbv at hf
  .rename_i d' M1 e1;cbv at hf
   .rename_i hb;ext hf;simp only[BE,B4,Ap]at hb;let⟨⟨hb1,hb2⟩,hb3⟩:=hb;refine ⟨L,ds,M,_,_,c,r,hl,e1,λL1 H1 v s1 c1 r1=>?_⟩;let⟨N,rfl⟩:=s1.pre;rw[<-c.len]at hb1 hb2 hb3;refine q L H1 v ⟨⟨[],by simp⟩,λa ha=> .inl ha,s1.old,s1.tup,s1.frz,s1.tbl⟩ ⟨?_,?_,λi a m e2 e3=>?_,c1.tab⟩ (Rep.less hb1 r1)
    .rw[Bg,<-c.len];omega
    .exact (Ds.mp c1.nd).1
    .rw[<-c.len]at e3;let hi:i<L.length:=(AK.mp e2).1;let hm:m∈M1.take L.length:=CM e3;rw[List.getElem?_take_of_lt hi]at e3;let z:=c1.obj i a m (F9 e2) e3;let bl:=hb2 m hm;cases m with
     |lst xs=>let⟨ws,e4,r4⟩:=z;calc ⟨ws,e4,zG.less bl r4⟩
     |fro xs=>let⟨o,ws,e4,r4⟩:=z;calc ⟨o,ws,e4,zG.less bl r4⟩
     |dict ps=>let⟨vs,e,r⟩:=z;calc ⟨vs,e,AS.less bl r⟩
     |dicT ps=>let⟨vs,e,r⟩:=z;calc ⟨vs,e,AS.less bl r⟩
     |set _=>calc z
     |froT ps=>let⟨o,vs,e,r⟩:=z;calc ⟨o,vs,e,AS.less bl r⟩
     |froK ps=>let⟨o,vs,e,r⟩:=z;exact ⟨o,vs,e,AS.less bl r⟩
   .cases hf
  .cases hf
def Gz (g:FF):FF:=λds M=>if D.unds 0 ds then match g ds [] with
  |some (d,_)=>if D.und 0 d then some (d,M) else none
  |none=>none
 else none
def Nc {P:Ym} {w:Yo} {K:Yb} {mg:Yh} {base:Heap} {n:Nat} {g:FF} (h:FnOk P w K mg base CX0 k f fd ps (spF K n g)):FnOk P w K mg base CX0 k f fd ps (spF K n (Gz g)) :=
 h.imp λvs H Q E ⟨L,ds,M,d,M',c,r,hl,hf,q⟩=>by
  erw[Gz]at hf;cbv at hf
  .rename_i hb0;cbv at hf
   .rename_i d' M1 e1;cbv at hf
    .rename_i hb;ext hf;refine ⟨[],ds,[],_,_,⟨rfl,.nil,λi a m e=>by simp at e,c.tab⟩,zG.less (L:=[]) (N:=L) hb0 (~~~r),hl,e1,λL1 H1 v s1 c1 r1=>?_⟩;exact q L H1 v s1.bare (c.bare s1) ((Rep.less (L:=[]) (N:=L1) hb (~~~r1)).more L |> λz=>by simpa using z)
    .cases hf
   .cases hf
  .cases hf
def eA (hl:PE X l tl):PI X tg l (λY H R=>tl Y H λx H1=>∃ a,x=.ref a/\((∃ xs,SqL X.K H1 a xs)/\R (Itl X.K a) H1\/(∃ xs,SqT X.K H1 a xs)/\R (Itt X.K a) H1)):=by
 intro zB s Y H R I h;refine thn (hl zB s Y H _ I h) λv s1 ⟨y,H1,I1,r1,a,hy,h1⟩=>?_;subst hy;ext r1;let fpk:∀ b∈[⇑s1],Bq X zB H1 b:=λb hb=>by
  let e:b=⇑s1:=by simpa using hb
  subst e;exact I1.fpOk (AF _) (I1.hok.fresh (AF _))
 rcases h1 with ⟨⟨xs,hq⟩,q⟩|⟨⟨xs,hq⟩,q⟩
 .obtain ⟨its,rv,pl,hz⟩:=I1.list hq;exact wpAny_pyIter_list pl.isList ⟨⇑s1,[⇑s1],_,_,H1,rfl,I1.kept (t':=s1.toks) λb o e=>AH _ e,SF a _,⟨_,AL _ rfl,rfl,rfl⟩,fpk,q⟩
 .obtain ⟨its,rv,pl,hz⟩:=I1.tuple hq;calc E1 (show s1.heap.IsTuple a its.toArray from pl) ⟨⇑s1,[⇑s1],_,_,H1,rfl,I1.kept (t':=s1.toks) λb o e=>AH _ e,Rw a _,⟨_,AL _ rfl,rfl,rfl⟩,fpk,q⟩
def HD (x:EV) (xs:List D):Option (Mem->Prop):=match x with
 |.dat (.ref n)=>some λM=>M[n]?=some (.lst xs)\/M[n]?=some (.fro xs)
 |_=>none
def AQ (f:FE):FI:=λY M=>match f Y M with
 |some (x,M1)=>match zr M1 x with
  |some xs=>some (xs,HD x xs,M1)
  |none=>none
 |none=>none
def Bx (f:FA):FI:=λY M=>match f Y M with
 |some ([.int j],M1)=>if -(2 ^ 62)<=j/\j<2 ^ 62 then some ((List.range j.toNat).map λ(k:Nat)=>D.int k,none,M1) else none
 |some ([.int i,.int j],M1)=>if -(2 ^ 62)<=i/\i<2 ^ 62 /\ -(2 ^ 62)<=j/\j<2 ^ 62 then some ((List.range (j-i).toNat).map λ(k:Nat)=>D.int (i+k),none,M1) else none
 |_=>none
def aF (h:QE X e g):QI X tg e (AQ g):=.mk <| PI.imp (eA h.un) λτ H R zz=>by
 let⟨L,Y,M,xs,gd,M',c,rs,hf,q⟩:=zz;erw[AQ]at hf;cbv at hf
 .rename_i y M1 e1;cbv at hf
  .rename_i zs e2;ext hf;refine (mkE c rs e1 (λL1 H1 v s1 c1 r1=>?_));erw[zr]at e2;cases t:Cc y with
   |some ws=>
    rw[t]at e2;ext e2;let⟨a,vs,rfl,e3,r3⟩:=Dx r1 t;refine ⟨a,rfl,.inr ⟨⟨vs,.of e3⟩,q L1 H1 _ s1 c1 λL2 H2 M2 s2 c2 _=>?_⟩⟩;let e4:=s2.tup a vs e3;let r4:=r3.stp s2;refine ⟨λi d hd=>?_,⟨vs,.of e4,by rw[r4.length];calc AF _⟩⟩;let⟨u,hu,ru⟩:=r4.get hd;refine ⟨⟨vs,u,.of e4,hu⟩,λv H3 ⟨hH,hv⟩=>?_⟩;subst hH;have:=hv vs (.of e4);rw[hu]at this;ext this;exact ⟨λ_ _ z=>z,ru⟩
   |none=>
    rw[t]at e2;dsimp only at e2;let⟨a,vs,rfl,e3,r3⟩:=Dl c1 r1 e2;refine ⟨a,rfl,.inl ⟨⟨vs,.inl e3⟩,q L1 H1 _ s1 c1 λL2 H2 M2 s2 c2 hgd=>?_⟩⟩;let key:∃ vs',SqL X.K H2 a vs'/\zG L2 H2 xs vs':=by
     cases y with
     |fl ys=>
      ext e2;let⟨p',vs',hp',_,e5,e6,r6⟩:=r1;ext hp';calc ⟨vs',.of (s2.old _ _ e5 e6 (by intro _ z;ext z)),r6.stp s2⟩
     |dat d=>
      cases d with
      |ref n=>
       erw[zR,Rep]at r1;let⟨a',ha',e5⟩:=r1;ext ha';let e6:L2[n]?=some a:=by let⟨N,hN⟩:=s2.pre;rw[hN];exact F9 e5
       rcases hgd with z|z
       .obtain ⟨vs',e7,r7⟩:=c2.obj n a _ e6 z;exact ⟨vs',.of e7,r7⟩
       .obtain ⟨o,vs',e7,r7⟩:=c2.obj n a _ e6 z;calc ⟨vs',.inl (.inr ⟨o,e7⟩),r7⟩
      |_=>ext e2
    let⟨vs',hq,r7⟩:=key;refine ⟨λi d hd=>?_,⟨vs',hq,by rw[r7.length];calc AF _⟩⟩;let⟨u,hu,ru⟩:=r7.get hd;refine ⟨⟨vs',u,hq,hu⟩,λv H3 ⟨hH,hv⟩=>?_⟩;subst hH;have:=hv vs' hq;rw[hu]at this;ext this;exact ⟨λ_ _ z=>z,ru⟩
  .cases hf
 .cases hf
def Lq (h:zG L H [.int j] vs):vs=[.int j]:=by
 erw[zG]at h;let⟨v,r,rfl,h1,h2⟩:=h;erw[zG]at h2;erw[Rep]at h1;subst h1 h2;rfl
def gX (h:zG L H [.int i,.int j] vs):vs=[.int i,.int j]:=by
 erw[zG]at h;let⟨v,r,rfl,h1,h2⟩:=h;erw[Rep]at h1;rw[Lq h2,h1]
def Oh {K:Yb} {L:Yg} {H:Hp} {lo:Int} {n:Nat}:MF K (Itr lo n) L H ((List.range n).map λ(k:Nat)=>D.int (lo+k)) none:=by
 intro L' H' M' s c _;refine ⟨λi d hd=>?_,by simp[Itr]⟩;rw[AW]at hd;cases q:(List.range n)[i]? with
 |none=>rw[q]at hd;ext hd
 |some k=>
  rw[q]at hd;ext hd;let hi:i<n:=by have:=(AK.mp q).1;simpa using this
  rw[GG hi]at q;ext q;refine ⟨hi,λv H'' ⟨hH,hv⟩=>?_⟩;subst hH hv;calc ⟨λ_ _ z=>z,CO⟩
def UE {tg a:Expr} {g:FA} (hg:Gl X "range") (hm:X.mg "range" = none) (ha:QA X [a] g) (hl:Hu g 1) (hs:starEach [a] X.env=[(false,eval a X.env)]:=by rfl):QI X tg (.Call (.Name "range" p) [a] [] pos) (Bx g) :=
 .mk <| PI.imp (aV hg hm ha.un hs) λτ H R zz=>by
  let⟨L,Y,M,xs,gd,M',c,rs,hf,q⟩:=zz;erw[Bx]at hf;cbv at hf
  .rename_i j M1 e1;cbv at hf
   .rename_i hb;ext hf;refine (mkA c rs e1 (λL1 H1 vs s1 c1 r1=>⟨j,Lq r1,hb.1,hb.2,q L1 H1 _ s1 c1 ?_⟩));let z:=Oh (K:=X.K) (L:=L1) (H:=H1) (lo:=0) (n:=j.toNat);simpa using z
   .cases hf
  .rename_i e1;have:=hl _ _ _ _ e1;simp at this
  .cases hf
def gP (hg:Gl X "range") (hm:X.mg "range" = none) (ha:QA X [a,b] g) (hl:Hu g 2) (hs:starEach [a,b] X.env=[(false,eval a X.env),(false,eval b X.env)]:=by rfl) (hs2:starEach [b] X.env=[(false,eval b X.env)]:=by rfl):QI X tg (.Call (.Name "range" p) [a,b] [] pos) (Bx g) :=
 .mk <| PI.imp (iW hg hm ha.un hs hs2) λτ H R zz=>by
  let⟨L,Y,M,xs,gd,M',c,rs,hf,q⟩:=zz;erw[Bx]at hf;cbv at hf
  .rename_i e1;have:=hl _ _ _ _ e1;simp at this
  .rename_i i j M1 e1;cbv at hf
   .rename_i hb;ext hf;exact (mkA c rs e1 (λL1 H1 vs s1 c1 r1=>⟨i,j,gX r1,hb,q L1 H1 _ s1 c1 Oh⟩))
   .cases hf
  .cases hf
end
section
variable {X:Cx} {a b c e:Expr} {es rest:Yi} {pos p apos cpos:Pos}
def EE (f g:FT):FT:=λY M=>match f Y M with
 |some (true,M1)=>g Y M1
 |r=>r
def DT (f g:FT):FT:=λY M=>match f Y M with
 |some (false,M1)=>g Y M1
 |r=>r
def CF (f:FT):FT:=λY M=>match f Y M with
 |some (k,M1)=>some (!k,M1)
 |none=>none
structure QW (X:Cx) (e:Expr) (f:FT):Prop where
 un:PW X e (trT X.K f)
def PW.imp (h:PW X e t) (hi:∀ τ H Q,t' τ H Q->t τ H Q):PW X e t':=λwh zB s Y H Q I q=>h wh zB s Y H Q I (hi _ _ _ q)
def R5 (h:QT X a f):QW X (.BoolOp .And [a] pos) f:=.mk (Wo h.un)
def bF (h:QT X a f):QW X (.BoolOp .Or [a] pos) f:=.mk (VB h.un)
def S9 (h1:QT X a f) (h2:QW X (.BoolOp .And (b::rest) pos) g):QW X (.BoolOp .And (a::b::rest) pos) (EE f g):=.mk <| PW.imp (hZ h1.un h2.un) λτ H Q zz=>by
 let⟨L,Y,M,d,M',c,rs,hf,q⟩:=zz;erw[EE]at hf;cbv at hf
 .rename_i M1 e1;exact (mkT c rs e1 (λL1 H1 s1 c1=>EC (mkT c1 (rs.stp s1) hf (λL2 H2 s2 c2=>q L2 H2 (s1.trans s2) c2))))
 .rename_i hne;cases d with
  |true=>calc absurd hf (hne M')
  |false=>calc (mkT c rs hf (λL1 H1 s1 c1=>EG (q L1 H1 s1 c1)))
def OF (h1:QT X a f) (h2:QW X (.BoolOp .Or (b::rest) pos) g):QW X (.BoolOp .Or (a::b::rest) pos) (DT f g):=.mk <| PW.imp (UP h1.un h2.un) λτ H Q zz=>by
 let⟨L,Y,M,d,M',c,rs,hf,q⟩:=zz;erw[DT]at hf;cbv at hf
 .rename_i M1 e1;exact (mkT c rs e1 (λL1 H1 s1 c1=>EG (mkT c1 (rs.stp s1) hf (λL2 H2 s2 c2=>q L2 H2 (s1.trans s2) c2))))
 .rename_i hne;cases d with
  |false=>calc absurd hf (hne M')
  |true=>calc (mkT c rs hf (λL1 H1 s1 c1=>EC (q L1 H1 s1 c1)))
def OQ (h:QW X e f):QT X e f:=.mk (PW.pt h.un)
def U5 (h:QT X a f):QT X (.UnaryOp .Not a pos) (CF f):=.mk <| PT.imp (iH h.un) λτ H Q zz=>by
 let⟨L,Y,M,d,M',c,rs,hf,q⟩:=zz;erw[CF]at hf;cbv at hf
 .rename_i k M1 e1;ext hf;exact (mkT c rs e1 (λL1 H1 s1 c1=>q L1 H1 s1 c1))
 .cases hf
def EA (f g:FE):FE:=λY M=>match f Y M with
 |some (.dat (.bl true),M1)=>g Y M1
 |some (.dat (.bl false),M1)=>some (.dat (.bl false),M1)
 |_=>none
def Ht (f:FE):FE:=λY M=>match f Y M with
 |some (.dat (.bl k),M1)=>some (.dat (.bl (!k)),M1)
 |_=>none
def GJ (h:zR H0 L H (.dat (.bl k)) v):v=.bl k:=by erw[zR,Rep]at h;calc h
def ZH {op} (h:QE X a f):QE X (.BoolOp op [a] pos) f:=.mk (Sw h.un)
def jL (h1:QE X a f) (h2:QE X (.BoolOp .And (b::rest) pos) g):QE X (.BoolOp .And (a::b::rest) pos) (EA f g):=.mk <| PE.imp (WK h1.un h2.un) λτ H Q zz=>by
 let⟨L,Y,M,d,M',c,rs,hf,q⟩:=zz;erw[EA]at hf;cbv at hf
 .rename_i M1 e1;exact (mkE c rs e1 (λL1 H1 v s1 c1 r1=>⟨true,GJ r1,EC (mkE c1 (rs.stp s1) hf (λL2 H2 w s2 c2 r2=>q L2 H2 w (s1.trans s2) c2 (r2.back s1 c s2.sub)))⟩))
 .rename_i M1 e1;ext hf;exact (mkE c rs e1 (λL1 H1 v s1 c1 r1=>⟨false,GJ r1,EG (q L1 H1 _ s1 c1 (by have:=GJ r1;subst this;calc r1))⟩))
 .cases hf
def ZK (h:QE X a f):QE X (.UnaryOp .Not a pos) (Ht f):=.mk <| PE.imp (bX h.un) λτ H Q zz=>by
 let⟨L,Y,M,d,M',c,rs,hf,q⟩:=zz;erw[Ht]at hf;cbv at hf
 .rename_i k M1 e1;ext hf;exact (mkE c rs e1 (λL1 H1 v s1 c1 r1=>⟨k,GJ r1,q L1 H1 _ s1 c1 (by erw[zR,Rep];rfl)⟩))
 .cases hf
def vIf (t:FT) (f g:FE):FE:=λY M=>match t Y M with
 |some (true,M1)=>f Y M1
 |some (false,M1)=>g Y M1
 |none=>none
def bV (hc:QT X c t) (h1:QE X a f) (h2:QE X b g):QE X (.IfExp c a b pos) (vIf t f g):=.mk <| PE.imp (cC hc.un h1.un h2.un) λτ H Q zz=>by
 let⟨L,Y,M,d,M',c,rs,hf,q⟩:=zz;erw[vIf]at hf;cbv at hf
 .rename_i M1 e1;exact (mkT c rs e1 (λL1 H1 s1 c1=>EC (mkE c1 (rs.stp s1) hf (λL2 H2 w s2 c2 r2=>q L2 H2 w (s1.trans s2) c2 (r2.back s1 c s2.sub)))))
 .rename_i M1 e1;exact (mkT c rs e1 (λL1 H1 s1 c1=>EG (mkE c1 (rs.stp s1) hf (λL2 H2 w s2 c2 r2=>q L2 H2 w (s1.trans s2) c2 (r2.back s1 c s2.sub)))))
 .cases hf
abbrev KM:=EV->List D->Mem->Option (D × Mem)
def fM (k:KM) (f:FE) (g:FA):FE:=λY M=>match f Y M with
 |some (x,M1)=>match B1 M1 x with
  |some _=>match g Y M1 with
   |some (ds,M2)=>match k x ds M2 with
    |some (d,M3)=>some (.dat d,M3)
    |none=>none
   |none=>none
  |none=>none
 |none=>none
def J4 (K:Yb) (r:V->List V->Hp->VK->Prop) (k:KM):Prop:=∀ {L:Yg} {M M':Mem} {H H0:Hp} {x:EV} {ds:List D} {d:D} {v:V} {vs:List V} {Q:VK},Cor K L M H->zR H0 L H x v->zG L H ds vs->k x ds M=some (d,M') ->
 (∀ L' H' u,Stp L H L' H'->Cor K L' M' H'->Rep L' H' d u->Q u H')->r v vs H Q
def Ll {K:PySem.W.Frag} {r:V->List V->Hp->VK->Prop} {k:KM} {f:FE} {g:FA} (hk:J4 K r k) {τ:Sv} {H:Hp} {Q:VK} (h:trE K (fM k f g) τ H Q):tBM K "list" r (trE K f) (trA K g) τ H Q:=by
 let⟨L,Y,M,d,M',c,rs,hf,q⟩:=h;erw[fM]at hf;cbv at hf
 .rename_i x M1 e1;cbv at hf
  .rename_i xs e2;cbv at hf
   .rename_i ds M2 e3;cbv at hf
    .rename_i d' M3 e4;ext hf;refine (mkE c rs e1 (λL1 H1 v s1 c1 r1=>?_));let⟨a,vs,rfl,e5,r5⟩:=Dl c1 r1 e2;refine ⟨.inl ⟨rfl,vs,.inl e5⟩,L1,Y,M1,_,_,c1,rs.stp s1,e3,λL2 H2 ws s2 c2 r2=>?_⟩;exact hk c2 (r1.stp s2) r2 e4 λL3 H3 u s3 c3 r3=>q L3 H3 u ((s1.trans s2).trans s3) c3 r3
    .cases hf
   .cases hf
  .cases hf
 .cases hf
def Bh:KM:=λx ds M=>match x,ds with
 |.dat (.ref n),[d]=>match M[n]? with
  |some (.lst xs)=>if xs.length<sizeLine then some (.non,M.set n (.lst (xs++[d]))) else none
  |_=>none
 |_,_=>none
def zG.one (h:zG L H [d] vs):∃ v,vs=[v]/\Rep L H d v:=by
 erw[zG]at h;let⟨v,r,rfl,h1,h2⟩:=h;erw[zG]at h2;subst h2;calc ⟨v,rfl,h1⟩
def UH {K:Yb}:J4 K QM Bh:=by
 intro L M M' H H0 x ds d v vs Q c rx rd hk q;erw[Bh]at hk;cbv at hk
 .rename_i n d';cbv at hk
  .rename_i xs e1;cbv at hk
   .rename_i hz;ext hk;erw[zR,Rep]at rx;let⟨a,rfl,e2⟩:=rx;let⟨ws,e3,r3⟩:=c.obj n a _ e2 e1;let⟨w,rfl,r4⟩:=rd.one;let⟨c5,s5⟩:=c.write e2 e1 (r3.app (.cons r4 .nil));exact ⟨a,ws,w,rfl,rfl,e3,by rw[r3.length];calc hz,q L _ _ s5 c5 (by erw[Rep];rfl)⟩
   .cases hk
  .cases hk
 .cases hk
def gY (h:QE X a f) (hg:QA X [e] g) (hbase:attributeBase a "append" X.env (eval a X.env)=eval a X.env:=by rfl)
  (hfew:((backTo cpos (starEach [e] X.env)).all (λx=> !x.1)&&(backToKw cpos (keywordEach [] X.env)).all (λx=>x.1.isSome)&&decide ([e].length+([]:List Keyword).length+(if ([]:List Keyword).isEmpty then 0 else 1)<30))=true:=by rfl)
  (hline:(apos.endLine==cpos.line)=true:=by rfl) (hs:starEach [e] X.env=(false,eval e X.env)::starEach [] X.env:=by rfl) (hplain:(backTo cpos (starEach [] X.env)).any (·.1)=false:=by rfl) :
  QE X (.Call (.Attribute a "append" apos) [e] [] cpos) (fM Bh f g) :=
 .mk <| PE.imp (Kr PySem.F.plainAttrs_list PySem.F.slot_list_append PySem.F.type_list_append Vy h.un hg.un hbase hfew hline hs hplain) λ_ _ _ z=>Ll UH z
def FN:KM:=λx ds M=>match x,ds with
 |.dat (.ref n),[.int i]=>match M[n]? with
  |some (.lst xs)=>match ixN xs.length i with
   |some k=>match xs[k]? with
    |some d=>if -(2 ^ 63)<=i/\i<2 ^ 63 then some (d,M.set n (.lst (xs.eraseIdx k))) else none
    |none=>none
   |none=>none
  |_=>none
 |_,_=>none
def Vs {K:Yb}:J4 K Nh FN:=by
 intro L M M' H H0 x ds d v vs Q c rx rd hk q;erw[FN]at hk;cbv at hk
 .rename_i n i;cbv at hk
  .rename_i xs e1;cbv at hk
   .rename_i k e2;cbv at hk
    .rename_i d' e3;cbv at hk
     .rename_i hb;ext hk;erw[zR,Rep]at rx;let⟨a,rfl,e4⟩:=rx;let⟨ws,e5,r5⟩:=c.obj n a _ e4 e1;let⟨u,e6,r6⟩:=r5.get e3;let⟨c5,s5⟩:=c.write e4 e1 (r5.eraseIdx k);exact ⟨a,ws,i,k,u,rfl,Lq rd,e5,hb.1,hb.2,by rw[r5.length];calc (K1 e2).1,e6,q L _ _ s5 c5 (r6.stp s5)⟩
     .cases hk
    .cases hk
   .cases hk
  .cases hk
 .cases hk
def aZ (h:QE X a f) (hg:QA X [e] g) (hbase:attributeBase a "pop" X.env (eval a X.env)=eval a X.env:=by rfl)
  (hfew:((backTo cpos (starEach [e] X.env)).all (λx=> !x.1)&&(backToKw cpos (keywordEach [] X.env)).all (λx=>x.1.isSome)&&decide ([e].length+([]:List Keyword).length+(if ([]:List Keyword).isEmpty then 0 else 1)<30))=true:=by rfl)
  (hline:(apos.endLine==cpos.line)=true:=by rfl) (hs:starEach [e] X.env=(false,eval e X.env)::starEach [] X.env:=by rfl) (hplain:(backTo cpos (starEach [] X.env)).any (·.1)=false:=by rfl) :
  QE X (.Call (.Attribute a "pop" apos) [e] [] cpos) (fM FN f g) :=
 .mk <| PE.imp (Kr PySem.F.plainAttrs_list PySem.F.slot_list_pop PySem.F.type_list_pop gC h.un hg.un hbase hfew hline hs hplain) λ_ _ _ z=>Ll Vs z
def GH (x:EV) (i:D) (d:D) (M:Mem):Option Mem:=match x,i with
 |.dat (.ref n),.int i=>match M[n]? with
  |some (.lst xs)=>match ixN xs.length i with
   |some j=>some (M.set n (.lst (xs.set j d)))
   |none=>none
  |_=>none
 |_,_=>none
def Fq (fv fo fi:FE):FS:=λY M=>match toD fv Y M with
 |some (d,M1)=>match fo Y M1 with
  |some (x,M2)=>match toD fi Y M2 with
   |some (i,M3)=>match GH x i d M3 with
    |some M4=>some (.nx,Y,M4)
    |none=>none
   |none=>none
  |none=>none
 |none=>none
def XW (hv:QE X v fv) (ho:QE X o fo) (hi:QE X i fi)
  (ha:∀ v,assign (.Subscript o i p) X.env v=(do
   let ov <- holding [v] (eval o X.env);let iv <- holding [v,ov] (eval i X.env);standAt p;holding [v,ov,iv] (setItem ov iv v);release [v,ov,iv] []):=by intro _;rfl)
  (hs:swapsWithSole [.Subscript o i p] v pos.line X.env=pure false:=by rfl) (hw:swappedStores [.Subscript o i p] v X.env=pure none:=by rfl) (h1:(assignEach [.Subscript o i p] X.env).map (·.2)=[assign (.Subscript o i p) X.env]:=by rfl) :
  QS X (.Assign [.Subscript o i p] v pos) (Fq fv fo fi):=.mk <| PS.imp (OC (DZ hv).un (bP ho.un (DZ hi).un eK ha) hs hw h1) λE τ H zz=>by
 let⟨L,Y,M,out,Y',M',c,rs,hf,q⟩:=zz;erw[Fq]at hf;cbv at hf
 .rename_i d M1 e1;cbv at hf
  .rename_i x M2 e2;cbv at hf
   .rename_i j M3 e3;cbv at hf
    .rename_i M4 e4;ext hf;refine ⟨L,Y,M,_,_,c,rs,e1,λL1 H1 u s1 c1 r1=>⟨L1,Y,M1,_,_,c1,rs.stp s1,e2,λL2 H2 w s2 c2 r2=>⟨L2,Y,M2,_,_,c2,rs.stp (s1.trans s2),e3,λL3 H3 z s3 c3 r3=>?_⟩⟩⟩;let st:=(s1.trans s2).trans s3;erw[GH]at e4;cbv at e4
     .rename_i n k;cbv at e4
      .rename_i xs e5;cbv at e4
       .rename_i m e6;ext e4;let r2':=r2.stp s3;erw[zR,Rep]at r2';let⟨a,rfl,e7⟩:=r2';let⟨ws,e8,r8⟩:=c3.obj n a _ e7 e5;let⟨c9,s9⟩:=c3.write e7 e5 (zG.set ((r1.stp s2).stp s3) m r8);exact ⟨a,ws,k,m,rfl,by erw[Rep]at r3;calc r3,e8,by rw[r8.length];calc e6,q L3 _ (st.trans s9) c9 τ ((rs.stp st).stp s9)⟩
       .cases e4
      .cases e4
     .cases e4
    .cases hf
   .cases hf
  .cases hf
 .cases hf
def HP:D->Option V
 |.non=>some .non
 |.bl k=>some (.bl k)
 |.int i=>some (.int i)
 |.str x=>some (.str x)
 |_=>none
def JB (h:Rep L H d v) (e:HP d=some u):v=u:=by
 cases d with
 |non=>ext e;erw[Rep]at h;calc h
 |bl _=>ext e;erw[Rep]at h;calc h
 |int _=>ext e;erw[Rep]at h;calc h
 |str _=>ext e;erw[Rep]at h;calc h
 |tup _=>ext e
 |ref _=>ext e
 |fn _ _=>ext e
def Fw (neg:Bool):K2:=λx y M=>match x,y with
 |.dat d,.dat d'=>match HP d,HP d' with
  |some u,some w=>if Jb u w then some (.dat (.bl (if neg then !decide (u=w) else decide (u=w))),M) else none
  |_,_=>none
 |_,_=>none
def Qg (h:Fw neg x y M=some (r,M')):∃ d d' u w,x=.dat d/\y=.dat d'/\HP d=some u/\HP d'=some w/\Jb u w=true/\r=.dat (.bl (if neg then !decide (u=w) else decide (u=w)))/\M'=M:=by
 erw[Fw]at h;cbv at h
 .rename_i d d';cbv at h
  .rename_i u w e1 e2;cbv at h
   .rename_i hs;ext h;exact ⟨d,d',u,w,rfl,rfl,e1,e2,hs,rfl,rfl⟩
   .cases h
  .cases h
 .cases h
def N0 {K:Yb}:BG K rEq (Fw false):=by
 intro L M M' H H0 x y d v w Q c rx ry hk q;let⟨d1,d2,u,z,rfl,rfl,e1,e2,hs,rfl,rfl⟩:=Qg hk;let a1:=JB rx e1;let a2:=JB ry e2;subst a1 a2;calc ⟨hs,q L H _ (.refl L H) c (CP (L:=L) (H:=H))⟩
def Wj {K:Yb}:BG K rNe (Fw true):=by
 intro L M M' H H0 x y d v w Q c rx ry hk q;let⟨d1,d2,u,z,rfl,rfl,e1,e2,hs,rfl,rfl⟩:=Qg hk;let a1:=JB rx e1;let a2:=JB ry e2;subst a1 a2;calc ⟨hs,q L H _ (.refl L H) c (CP (L:=L) (H:=H))⟩
def Kx (neg:Bool) (K:Yb):R2:=λx y H Q=>∃ p q xs,x=.ref p/\y=.ref q/\SqL K H p xs/\SqL K H q []/\Q (.bl (if neg then !xs.isEmpty else xs.isEmpty)) H
def Lb (r:zT [] its):its=[]:=by ext r;rfl
def RK (hu:X.A.units<cLine):OpR X (compareOp .Eq) (Kx false X.K):=by
 intro zB s Y H x y v u Q I rx ry h;let⟨p,q,xs,rfl,rfl,h1,h2,hq⟩:=h;ext rx;ext ry;let⟨its,rv,pl,_⟩:=I.list h1;let⟨its2,rv2,pl2,_⟩:=I.list h2;cases Lb rv2;cases rv with
 |nil=>exact SeqAt.eq_listAt (e:=λ_=>true) pl.isList pl2.isList rfl hu (λj h1=>by simp at h1) ⟨.bl true,H,I,rfl,hq⟩
 |cons _ _=>calc SeqAt.eq_list_lengthsAt pl.isList pl2.isList (by simp) hu ⟨.bl false,H,I,rfl,hq⟩
def Si (hu:X.A.units<cLine):OpR X (compareOp .NotEq) (Kx true X.K):=by
 intro zB s Y H x y v u Q I rx ry h;let⟨p,q,xs,rfl,rfl,h1,h2,hq⟩:=h;ext rx;ext ry;let⟨its,rv,pl,_⟩:=I.list h1;let⟨its2,rv2,pl2,_⟩:=I.list h2;cases Lb rv2;cases rv with
 |nil=>exact SeqAt.RcNeAt.lists (e:=λ_=>true) pl.isList pl2.isList rfl hu (λj h1=>by simp at h1) _ _ _ _ ⟨.bl false,H,I,rfl,hq⟩
 |cons _ _=>calc SeqAt.RcNeAt.lists_lengths pl.isList pl2.isList (by simp) hu _ _ _ _ ⟨.bl true,H,I,rfl,hq⟩
def IV (neg:Bool):K2:=λx y M=>match B1 M x,B1 M y with
 |some xs,some []=>some (.dat (.bl (if neg then !xs.isEmpty else xs.isEmpty)),M)
 |_,_=>none
def MW {K:Yb} {neg:Bool}:BG K (Kx neg K) (IV neg):=by
 intro L M M' H H0 x y d v w Q c rx ry hk q;erw[IV]at hk;cbv at hk
 .rename_i xs e1 e2;ext hk;let⟨p1,vs,rfl,h1,r1⟩:=Dl c rx e1;let⟨p2,ws,rfl,h2,r2⟩:=Dl c ry e2;erw[zG]at r2;subst r2;refine ⟨p1,p2,vs,rfl,rfl,.inl h1,.inl h2,q L H _ (.refl L H) c ?_⟩;have:vs.isEmpty=xs.isEmpty:=by
   have:=r1.length;cases vs <;> cases xs <;> simp_all
  rw[this];exact (CP (L:=L) (H:=H))
 .cases hk
def kOr (k1 k2:K2):K2:=λx y M=>match k1 x y M with
 |some r=>some r
 |none=>k2 x y M
def Jn {K:Yb} {r1 r2:R2} {k1 k2:K2} (h1:BG K r1 k1) (h2:BG K r2 k2):BG K (λx y H Q=>r1 x y H Q\/r2 x y H Q) (kOr k1 k2):=by
 intro L M M' H H0 x y d v w Q c rx ry hk q;erw[kOr]at hk;cbv at hk
 .rename_i r e1;ext hk;exact .inl (h1 c rx ry e1 q)
 .exact .inr (h2 c rx ry hk q)
abbrev kEq:K2:=kOr (Fw false) (IV false)
abbrev kNe:K2:=kOr (Fw true) (IV true)
variable {f g:FE}
def dO (hu:X.A.units<cLine) (h1:QE X a f) (h2:QE X b g):QE X (.Compare a [.Eq] [b] pos) (fOp kEq f g):=JJ (Jn N0 MW) (NO.or (RK hu)) h1 h2 (Ec _)
def Te (hu:X.A.units<cLine) (h1:QE X a f) (h2:QE X b g):QT X (.Compare a [.Eq] [b] pos) (tst (fOp kEq f g)):=Ed (Jn N0 MW) (NO.or (RK hu)) h1 h2 (Ec _)
def aH (hu:X.A.units<cLine) (h1:QE X a f) (h2:QE X b g):QT X (.Compare a [.NotEq] [b] pos) (tst (fOp kNe f g)):=Ed (Jn Wj MW) (R9.or (Si hu)) h1 h2 (Ec _)
def HQ:KB:=λxs M=>match xs with
 |[.dat (.int i)]=>some (.dat (.int (if i<0 then -i else i)),M)
 |_=>none
def We {K:Yb}:Dc K (λxs H Q=>∃ i,xs=[.int i]/\Q (.int (if i<0 then -i else i)) H) HQ:=by
 intro L M M' H H0 xs d vs Q c r hk q;erw[HQ]at hk;cbv at hk
 .rename_i i;ext hk;let⟨v,rfl,r1⟩:=r.one;have:v=.int i:=by erw[zR,Rep]at r1;exact r1
  subst this;exact ⟨i,rfl,q L H _ (.refl L H) c (CO (L:=L) (H:=H))⟩
 .cases hk
end
section
variable {X:Cx} {a b c e:Expr} {es rest:Yi} {pos p apos cpos:Pos}
def dH {prog:Ym} {w:Yo} {A:Yn} {E:Yc} {s:Yl} {t b:Yt} {ws:Yf} {Q:Yc} (ht:IsTup s.heap t #[]) (hb:IsTup s.heap b ws.toArray) (h1:Q (.ref b) s) :
  wpAny (model prog w) A (binaryOp .Add (.ref t) (.ref b)) Q E s:=by
 let⟨⟨cls,dd,data,sl⟩,ho,hc,n,hd⟩:=id ht;let⟨⟨cls2,dd2,data2,sl2⟩,ho2,hc2,n2,hd2⟩:=id hb;simp only at hc hd hc2 hd2;subst hc hd hc2 hd2
 exact concat_meets ⟨_,ho,rfl⟩ ⟨_,ho2,rfl⟩ noFill_tuple_add seq_tuple_add PySem.F.slot_tuple_add PySem.F.entry_tuple_add (PySem.F.args_tuple_add_2 _ _)
   (tuple_addW0 t b #[] ws.toArray n n2 dd dd2 sl sl2 (by simp)) ⟨ho,ho2,h1⟩
def NR (K:Yb):R2:=λx y H Q=>∃ a b ys,x=.ref a/\y=.ref b/\SqT K H a []/\SqT K H b ys/\Q (.ref b) H
def gW:OpR X (binaryOp .Add) (NR X.K):=by
 intro zB s Y H x y v u Q I rx ry h;let⟨a,b,ys,rfl,rfl,ha,hb,q⟩:=h;ext rx;ext ry;let⟨its,r1,p1,_⟩:=I.tuple ha;let⟨its2,r2,p2,_⟩:=I.tuple hb;cases Lb r1;calc dH p1 p2 ⟨.ref b,H,I,rfl,q⟩
def HX:K2:=λx y M=>match Cc x,Cc y with
 |some xs,some ys=>if xs.length+ys.length<=sizeLine then some (.dat (.tup (xs++ys)),M) else none
 |_,_=>none
def iS {K:Yb}:BG K (λx y H Q=>Nu K x y H Q\/NR K x y H Q) HX:=by
 intro L M M' H H0 x y d v w Q c rx ry hk q;erw[HX]at hk;cbv at hk
 .rename_i xs ys e1 e2;cbv at hk
  .rename_i hz;ext hk;let⟨p1,vs,rfl,h1,r1⟩:=Dx rx e1;let⟨p2,ws,rfl,h2,r2⟩:=Dx ry e2;cases xs with
   |nil=>
    calc .inr ⟨p1,p2,ws,rfl,rfl,.of (by erw[zG]at r1;subst r1;calc h1),.of h2,q L H _ (.refl L H) c ?_⟩;erw[zR,Rep];calc ⟨p2,ws,rfl,h2,r2⟩
   |cons x0 xr=>
    let hv:vs≠[]:=λz=>by have:=r1.length;rw[z]at this;simp at this
    refine .inl ⟨p1,p2,vs,ws,rfl,rfl,.of h1,.of h2,hv,by rw[r1.length,r2.length];exact hz,λz=>?_,λz pp hp=>?_⟩
    .have:ys=[]:=by
      have:=r2.length;rw[z]at this;cases ys with
      |nil=>rfl
      |cons _ _=>simp at this
     subst this;calc q L H _ (.refl L H) c ?_;erw[zR,Rep];rw[DO];exact ⟨p1,vs,rfl,h1,r1⟩
    .exact q L _ _ (.upd hp) (c.upd hp) (Rep.newTup hp (r1.app r2))
  .cases hk
 .cases hk
abbrev zQ:K2:=kOr Xx HX
variable {f g:FE}
def aB (h1:QE X a f) (h2:QE X b g):QE X (.BinOp a .Add b pos) (fOp zQ f g):=E9 (Jn (Fd λ_ _ _ _=>CO) iS) (Tz.or (bG.or gW)) h1 h2
structure Kinds (K:Yb):Prop where
 k:∀ t T,t∈["NoneType", "bool", "int", "str", "list", "tuple", "dict"]->T∈["int", "bool", "str", "tuple"]->PySem.W.kitOne K (.type t) (.type T)=some (decide (t=T)||(decide (t = "bool")&&decide (T = "int")))
def DE (M:Mem):EV->Option String
 |.dat .non=>some "NoneType"
 |.dat (.bl _)=>some "bool"
 |.dat (.int _)=>some "int"
 |.dat (.str _)=>some "str"
 |.dat (.tup _)=>some "tuple"
 |.fl _=>some "list"
 |.dat (.ref n)=>match M[n]? with
  |some (.lst _)=>some "list"
  |some (.fro _)=>some "list"
  |some (.dict _)=>some "dict"
  |some (.dicT _)=>some "dict"
  |_=>none
 |.dat (.fn _ _)=>none
def bA {K:PySem.W.Frag} {L:List Addr} {M:Mem} {H H0:Hp} {x:EV} {v:V} {t:String} (c:Cor K L M H) (r:zR H0 L H x v) (h:DE M x=some t):TyOf K H v (.type t)/\t∈["NoneType", "bool", "int", "str", "list", "tuple", "dict"]:=by
 erw[DE]at h;cbv at h
 .cases h;erw[zR,Rep]at r;subst r;exact ⟨.non,by simp⟩
 .cases h;erw[zR,Rep]at r;subst r;exact ⟨.bl _,by simp⟩
 .cases h;erw[zR,Rep]at r;subst r;exact ⟨.int _,by simp⟩
 .cases h;erw[zR,Rep]at r;subst r;exact ⟨.str _,by simp⟩
 .cases h;erw[zR,Rep]at r;let⟨a,vs,rfl,e,_⟩:=r;exact ⟨.tup e,by simp⟩
 .cases h;let⟨p,vs,rfl,_,e,_⟩:=r;exact ⟨.lst e,by simp⟩
 .unfold zR Rep at r;let⟨a,rfl,e⟩:=r;cbv at h
  .rename_i e1;ext h;let⟨vs,q,_⟩:=c.obj _ a _ e e1;exact ⟨.lst q,by simp⟩
  .rename_i e1;ext h;let⟨o,vs,q,_⟩:=c.obj _ a _ e e1;exact ⟨.frz q,by simp⟩
  .rename_i e1;ext h;let⟨vs,q,_⟩:=c.obj _ a _ e e1;exact ⟨.dK q,by simp⟩
  .rename_i e1;ext h;let⟨vs,q,_⟩:=c.obj _ a _ e e1;exact ⟨.dT q,by simp⟩
  .cases h
 .cases h
def isT (t T:String):Bool:=decide (t=T)||(decide (t = "bool")&&decide (T = "int"))
def D9 (T:String) (f:FE):FE:=λY M=>match f Y M with
 |some (x,M1)=>match DE M1 x with
  |some t=>some (.dat (.bl (isT t T)),M1)
  |none=>none
 |none=>none
def P8 (K:Yb) (T:String):List V->Hp->VK->Prop:=λxs H Q=>∃ x t b,xs=[x,.ty T]/\TyOf K H x t/\PySem.W.kitOne K t (.type T)=some b/\Q (.bl b) H
def gE:CV X (.builtin "isinstance") (P8 X.K T):=by
 intro zB s Y H xs us Q I r h;let⟨x,t,b,rfl,ty,e,q⟩:=h;cases r with
 |cons r1 r2=>
  cases r2 with
  |cons r3 r4=>
   ext r4;ext r3;calc eZ I r1 ty e λtk=>⟨.bl b,H,I.tok _,rfl,q⟩
def MU (hK:Kinds X.K) (hT:T∈["int", "bool", "str", "tuple"]) (hg:Gl X "isinstance") (hm:X.mg "isinstance" = none) (hg2:Gl X y) (hm2:X.mg y=none) (hv2:bootBuiltins y=some (.type T)) (hn2:y ≠ "__name__") (hd2:(y==("__debug__" : Str))=false) (h:QE X e f)
  (he:starEach (e::[.Name y p2]) X.env=(false,eval e X.env)::starEach [.Name y p2] X.env:=by rfl) (he2:starEach [.Name y p2] X.env=(false,eval (.Name y p2) X.env)::starEach [] X.env:=by rfl) (hpl:(backTo pos (starEach [.Name y p2] X.env)).any (·.1)=false:=by rfl) :
  QE X (.Call (.Name "isinstance" p1) [e,.Name y p2] [] pos) (D9 T f) :=
 .mk <| PE.imp (Ot (r:=P8 X.K T) gE hg hm (by rfl) (G5 h.un (G5 (Sy (v:=.ty T) hg2 hm2 hv2 rfl hn2 hd2) Hs he2) he) () () he hpl) λτ H Q zz=>by
  let⟨L,Y,M,d,M',c,rs,hf,q⟩:=zz;erw[D9]at hf;cbv at hf
  .rename_i x M1 e1;cbv at hf
   .rename_i t e2;ext hf;refine (mkE c rs e1 (λL1 H1 v s1 c1 r1=>?_));let⟨ty,ht⟩:=bA c1 r1 e2;exact ⟨v,_,_,rfl,ty,hK.k t T ht hT,q L1 H1 _ s1 c1 (CP (L:=L1) (H:=H1))⟩
   .cases hf
  .cases hf
def zG.two (h:zG L H [d,d'] vs):∃ v v',vs=[v,v']/\Rep L H d v/\Rep L H d' v':=by
 erw[zG]at h;let⟨v,r,rfl,h1,h2⟩:=h;let⟨v',rfl,h3⟩:=h2.one;calc ⟨v,v',rfl,h1,h3⟩
section
variable {fa:FAE}
def aL (hg:Gl X "len") (hm:X.mg "len" = none) (ha:QAE X [e] fa) (he:starEach [e] X.env=(false,eval e X.env)::starEach [] X.env:=by rfl) (hpl:(backTo pos (starEach [] X.env)).any (·.1)=false:=by rfl):QE X (.Call (.Name "len" p) [e] [] pos) (fB AZ fa) :=
 Gf Xc eE PySem.boot_len hg hm ha () () he hpl
def Ro (hg:Gl X "tuple") (hm:X.mg "tuple" = none) (ha:QAE X [e] fa) (he:starEach [e] X.env=(false,eval e X.env)::starEach [] X.env:=by rfl) (hpl:(backTo pos (starEach [] X.env)).any (·.1)=false:=by rfl):QE X (.Call (.Name "tuple" p) [e] [] pos) (fB CC fa) :=
 MC VM Vp (by rfl) hg hm ha () () he hpl
def ZF (hg:Gl X "abs") (hm:X.mg "abs" = none) (ha:QAE X [e] fa) (he:starEach [e] X.env=(false,eval e X.env)::starEach [] X.env:=by rfl) (hpl:(backTo pos (starEach [] X.env)).any (·.1)=false:=by rfl):QE X (.Call (.Name "abs" p) [e] [] pos) (fB HQ fa) :=
 Gf We VJ (by rfl) hg hm ha () () he hpl
end
end
def Jh (sc scope:Y0):Bool:=scope.names.all λy=>
 (y.2 != .local||scope.names.lookup y.1==some .local)&&(y.2 != .cell||scope.names.lookup y.1==some .cell)&&(y.2 != .free||(sc.names.lookup y.1==some .cell||sc.names.lookup y.1==some .free))
def JH (N:Yk) (scope:Y0) (own:Yj):Bool:=(List.range N.length).all λi=>match N[i]? with
 |some x=>decide (i∈own)||(scope.names.lookup x==none)||(scope.names.lookup x==some .free)
 |none=>true
def Q7 (hk:scope.kind=.function) (hs:X.env.scope=sc) (hN:X.N=N) (h1:Jh sc scope=true) (h2:JH N scope own=true):CompIn X scope own:=by
 erw[Jh]at h1;rw[Ap]at h1;refine ⟨⟨hk,λy hy e=>?_,λy hy e=>?_,λy hy e=>?_⟩,λi x e=>?_⟩
 .have:=h1 y hy;simp[e]at this;exact this
 .have:=h1 y hy;simp[e]at this;exact this
 .have:=h1 y hy;simp[e]at this;show X.env.scope.names.lookup y.1=_\/X.env.scope.names.lookup y.1=_;rw[hs];exact this
 .unfold JH at h2;rw[Ap]at h2;rw[hN]at e;let hi:i<N.length:=(AK.mp e).1;have:=h2 i (~~~hi);rw[e]at this;simp only[Bool.or_eq_true,B4,beq_iff_eq,or_assoc]at this;calc this
def Js (K:Yb):Bool:=K.all λp=>match p.2.cls with
 |.type n=>n != "list"
 |_=>true
theorem QK:∀ {K:Yb},K.lookup a=some o->(a,o)∈K
 |[],h=>by ext h
 | (b,u)::r,h=>by
  let h':List.lookup a ((b,u)::r)=some o:=h;rw[FV]at h';cases q:a==b with
  |true=>rw[q]at h';ext h';rw[beq_iff_eq.mp q];calc Ax
  |false=>rw[q]at h';calc BF _ (QK h')
def T6 {K:PySem.W.Frag} (h:Js K=true) {o:Obj} (e:K.lookup a=some o) (hc:o.cls=.type "list"):False:=by
 erw[Js]at h;rw[Ap]at h;have:=h (a,o) (QK e);simp[hc]at this
theorem PV:∀ (ns:Ye),zG L H (ns.map D.int) (ns.map V.int)
 |[]=> .nil
 |n::r=> .cons (by erw[Rep];rfl) (PV r)
def LV (K:Yb):Bool:=OH.all λx=>(PySem.W.tabIn K x).isNone
def UC {K:Yb} {H:Hp} (h:LV K=true):HK K H:=λx hx c P e=>by
 erw[LV]at h;have:=Ap.mp h x hx;rw[e]at this;ext this
def UW (hO:Jr H):∀ b xs,H b≠some (.lst xs):=λb xs h1=>by
 rcases hO b with z|⟨o,xs,z⟩
 .rw[h1]at z;ext z
 .rw[h1]at z;ext z
def dQ {K:Yb} {m:FF} {H:Hp} {a:Yt} {ns:Ye} {E:XK} (hL:Js K=true) (hT:HK K H) (hO:∀ b xs,H b≠some (.lst xs)) (hS:SqL K H a (ns.map V.int)) (h:∃ M',m [.ref 0] [.fro (ns.map D.int)]=some (.bl true,M')) :
  spF K 1 m [.ref a] H (λv _=>v=.bl true) E:=by
 let⟨M',e⟩:=h;let hf:∃ o,H a=some (.frz o (.lst (ns.map V.int))):=by
  rcases hS with (h1|h1)|⟨o,its,n,h1,h2,_⟩
  .exact (hO _ _ h1).elim
  .exact h1
  .exact (T6 hL h1 h2).elim
 let⟨o,hf⟩:=hf;refine ⟨[a],[.ref 0],[.fro (ns.map D.int)],_,_,⟨rfl,by simp,λn b m e1 e2=>?_,hT⟩,.cons ?_ .nil,rfl,e,λL' H' v s c r=>?_⟩
 .cases n with
  |zero=>simp at e1 e2;subst e1;subst e2;calc ⟨o,_,hf,PV ns⟩
  |succ n=>simp at e1
 .unfold Rep;exact ⟨a,rfl,rfl⟩
 .unfold Rep at r;calc r
def Ok {α:Type} (x:Option (α × Mem)) (P:α->Mem->Prop):Prop:=∃ a M,x=some (a,M)/\P a M
def OkS (x:Option (Out × Sd × Mem)) (P:Out->Sd->Mem->Prop):Prop:=∃ o Y M,x=some (o,Y,M)/\P o Y M
def Ok.mono {α:Type} {x:Option (α × Mem)} {P Q:α->Mem->Prop} (h:Ok x P) (hq:∀ a M,P a M->Q a M):Ok x Q:=let ⟨a,M,e,p⟩:=h;⟨a,M,e,hq a M p⟩
def OkS.mono {x:Option (Out × Sd × Mem)} {P Q:Out->Sd->Mem->Prop} (h:OkS x P) (hq:∀ o Y M,P o Y M->Q o Y M):OkS x Q:=let ⟨a,Y,M,e,p⟩:=h;⟨a,Y,M,e,hq a Y M p⟩
def zq {α:Type} {a:α} {M:Mem} {P:α->Mem->Prop}:Ok (some (a,M)) P ↔ P a M:=⟨λ⟨_,_,e,p⟩=>by ext e;exact p,λp=>⟨a,M,rfl,p⟩⟩
def Hz {α:Type} {P:α->Mem->Prop}:Ok (none:Option (α × Mem)) P ↔ False:=⟨(λ⟨_,_,e,_⟩=>(nomatch e)),λh=>h.elim⟩
def dB {o:Out} {Y:Sd} {M:Mem} {P:Out->Sd->Mem->Prop}:OkS (some (o,Y,M)) P ↔ P o Y M:=⟨λ⟨_,_,_,e,p⟩=>by ext e;exact p,λp=>⟨o,Y,M,rfl,p⟩⟩
def zm {i:Nat}:Ok (zC i Y M) P ↔ ∃ d,Y[i]?=some (some d)/\P (.dat d) M:=by
 erw[zC];constructor
 .rintro ⟨a,M1,e,p⟩;cbv at e
  .rename_i d e1;ext e;exact ⟨d,e1,p⟩
  .cases e
 .rintro ⟨d,e1,p⟩;rw[e1];calc ⟨_,_,rfl,p⟩
def BA {d:D}:Ok (fC d Y M) P ↔ P (.dat d) M:=zq
def Av {k:K2}:Ok (fOp k f g Y M) P ↔ Ok (f Y M) λx M1=>Ok (g Y M1) λy M2=>Ok (k x y M2) P:=by
 erw[fOp];constructor
 .rintro ⟨a,M1,e,p⟩;cbv at e
  .rename_i x M2 e1;cbv at e
   .rename_i y M3 e2;exact ⟨x,M2,e1,y,M3,e2,a,M1,e,p⟩
   .cases e
  .cases e
 .rintro ⟨x,M2,e1,y,M3,e2,a,M1,e,p⟩;rw[e1];dsimp only;rw[e2];calc ⟨a,M1,e,p⟩
def Dq (P:D->Mem->Prop):EV->Mem->Prop
 |.dat d,M=>P d M
 |.fl xs,M=>P (.ref M.length) (M++[.lst xs])
def Bu {P:D->Mem->Prop}:Ok (toD f Y M) P ↔ Ok (f Y M) (Dq P):=by
 erw[toD];constructor
 .rintro ⟨a,M1,e,p⟩;cbv at e
  .rename_i d M2 e1;ext e;exact ⟨_,_,e1,p⟩
  .rename_i xs M2 e1;ext e;exact ⟨_,_,e1,p⟩
  .cases e
 .rintro ⟨x,M2,e1,p⟩;rw[e1];cases x with
  |dat d=>calc ⟨d,M2,rfl,p⟩
  |fl xs=>calc ⟨_,_,rfl,p⟩
def zJ {P:D->Mem->Prop} {d:D} {M:Mem}:Dq P (.dat d) M ↔ P d M:=Iff.rfl
def RA {P:D->Mem->Prop} {xs:List D} {M:Mem}:Dq P (.fl xs) M ↔ P (.ref M.length) (M++[.lst xs]):=Iff.rfl
def Ek:Ok (zF Y M) P ↔ P [] M:=zq
def DI {f:FD} {g:FA}:Ok (zD f g Y M) P ↔ Ok (f Y M) λd M1=>Ok (g Y M1) λds M2=>P (d::ds) M2:=by
 erw[zD];constructor
 .rintro ⟨a,M1,e,p⟩;cbv at e
  .rename_i x M2 e1;cbv at e
   .rename_i y M3 e2;ext e;exact ⟨x,M2,e1,y,_,e2,p⟩
   .cases e
  .cases e
 .rintro ⟨x,M2,e1,y,M3,e2,p⟩;rw[e1];dsimp only;rw[e2];calc ⟨_,_,rfl,p⟩
def Hg:Ok (zb Y M) P ↔ P [] M:=zq
def IP {f:FE} {g:FAE}:Ok (zK f g Y M) P ↔ Ok (f Y M) λd M1=>Ok (g Y M1) λds M2=>P (d::ds) M2:=by
 erw[zK];constructor
 .rintro ⟨a,M1,e,p⟩;cbv at e
  .rename_i x M2 e1;cbv at e
   .rename_i y M3 e2;ext e;exact ⟨x,M2,e1,y,_,e2,p⟩
   .cases e
  .cases e
 .rintro ⟨x,M2,e1,y,M3,e2,p⟩;rw[e1];dsimp only;rw[e2];calc ⟨_,_,rfl,p⟩
def F6 {a:FA}:Ok (Aq a Y M) P ↔ Ok (a Y M) λds M1=>ds.length<=sizeLine/\P (.fl ds) M1:=by
 erw[Aq];constructor
 .rintro ⟨x,M1,e,p⟩;cbv at e
  .rename_i ds M2 e1;cbv at e
   .rename_i hz;ext e;exact ⟨ds,_,e1,hz,p⟩
   .cases e
  .cases e
 .rintro ⟨ds,M1,e1,hz,p⟩;rw[e1];dsimp only;rw[AD hz];calc ⟨_,_,rfl,p⟩
def He {k:KB} {a:FAE}:Ok (fB k a Y M) P ↔ Ok (a Y M) λxs M1=>Ok (k xs M1) P:=by
 erw[fB];constructor
 .rintro ⟨x,M1,e,p⟩;cbv at e
  .rename_i ds M2 e1;exact ⟨ds,_,e1,x,M1,e,p⟩
  .cases e
 .rintro ⟨ds,M1,e1,p⟩;rw[e1];calc p
def IC {m:FF} {a:FA}:Ok (ze m a Y M) P ↔ Ok (a Y M) λds M1=>Ok (m ds M1) λd M2=>P (.dat d) M2:=by
 erw[ze];constructor
 .rintro ⟨x,M1,e,p⟩;cbv at e
  .rename_i ds M2 e1;cbv at e
   .rename_i d M3 e2;ext e;exact ⟨ds,_,e1,d,_,e2,p⟩
   .cases e
  .cases e
 .rintro ⟨ds,M1,e1,d,M2,e2,p⟩;rw[e1];dsimp only;rw[e2];calc ⟨_,_,rfl,p⟩
def Ea {k:KM} {a:FA}:Ok (fM k f a Y M) P ↔ Ok (f Y M) λx M1=>(∃ xs,B1 M1 x=some xs)/\Ok (a Y M1) λds M2=>Ok (k x ds M2) λd M3=>P (.dat d) M3:=by
 erw[fM];constructor
 .rintro ⟨x,M1,e,p⟩;cbv at e
  .rename_i y M2 e1;cbv at e
   .rename_i xs e2;cbv at e
    .rename_i ds M3 e3;cbv at e
     .rename_i d M4 e4;ext e;exact ⟨y,_,e1,⟨xs,e2⟩,ds,_,e3,d,_,e4,p⟩
     .cases e
    .cases e
   .cases e
  .cases e
 .rintro ⟨y,M1,e1,⟨xs,e2⟩,ds,M2,e3,d,M3,e4,p⟩;rw[e1];dsimp only;rw[e2];dsimp only;rw[e3];dsimp only;rw[e4];calc ⟨_,_,rfl,p⟩
def Px:Ok (AY Y M) P ↔ P none M:=zq
def Pp (P:Option Int->Mem->Prop):EV->Mem->Prop
 |.dat (.int i),M=>P (some i) M
 |_,_=>False
def OD {i:Int} {M:Mem}:Pp P (.dat (.int i)) M ↔ P (some i) M:=Iff.rfl
def RW:Ok (Af f Y M) P ↔ Ok (f Y M) (Pp P):=by
 erw[Af];constructor
 .rintro ⟨x,M1,e,p⟩;cbv at e
  .rename_i i M2 e1;ext e;exact ⟨_,_,e1,p⟩
  .cases e
 .rintro ⟨x,M1,e1,p⟩;rw[e1];cases x with
  |fl xs=>calc p.elim
  |dat d=>
   cases d with
   |int i=>calc ⟨_,_,rfl,p⟩
   |_=>calc p.elim
def PQ {l h:FO}:Ok (fSl f l h Y M) P ↔ Ok (f Y M) λx M1=>Ok (l Y M1) λlo M2=>Ok (h Y M2) λhi M3=>Ok (kSl x lo hi M3) P:=by
 erw[fSl];constructor
 .rintro ⟨x,M1,e,p⟩;cbv at e
  .rename_i y M2 e1;cbv at e
   .rename_i lo M3 e2;cbv at e
    .rename_i hi M4 e3;exact ⟨y,_,e1,lo,_,e2,hi,_,e3,x,M1,e,p⟩
    .cases e
   .cases e
  .cases e
 .rintro ⟨y,M1,e1,lo,M2,e2,hi,M3,e3,p⟩;rw[e1];dsimp only;rw[e2];dsimp only;rw[e3];calc p
def blP (P:Bool->Mem->Prop):EV->Mem->Prop
 |.dat (.bl k),M=>P k M
 |_,_=>False
def Fl {P:Bool->Mem->Prop} {k:Bool} {M:Mem}:blP P (.dat (.bl k)) M ↔ P k M:=Iff.rfl
def Jz {P:Bool->Mem->Prop}:Ok (tst f Y M) P ↔ Ok (f Y M) (blP P):=by
 erw[tst];constructor
 .rintro ⟨x,M1,e,p⟩;cbv at e
  .rename_i i M2 e1;ext e;exact ⟨_,_,e1,p⟩
  .cases e
 .rintro ⟨x,M1,e1,p⟩;rw[e1];cases x with
  |fl xs=>calc p.elim
  |dat d=>
   cases d with
   |bl i=>calc ⟨_,_,rfl,p⟩
   |_=>calc p.elim
def Of:Ok (Ab Y M) P ↔ P true M:=zq
def aE:Ok (EE s t Y M) P ↔ Ok (s Y M) λk M1=>if k then Ok (t Y M1) P else P false M1:=by
 erw[EE];constructor
 .rintro ⟨x,M1,e,p⟩;cbv at e
  .rename_i M2 e1;exact ⟨true,M2,e1,by dsimp only;rw[AD rfl];calc ⟨x,M1,e,p⟩⟩
  .rename_i hn;cases x with
   |true=>calc absurd e (hn M1)
   |false=>exact ⟨false,M1,e,by simpa using p⟩
 .rintro ⟨x,M1,e1,p⟩;rw[e1];cases x with
  |true=>simpa using p
  |false=>calc ⟨false,M1,rfl,by simpa using p⟩
def iB:Ok (CF s Y M) P ↔ Ok (s Y M) λk M1=>P (!k) M1:=by
 erw[CF];constructor
 .rintro ⟨x,M1,e,p⟩;cbv at e
  .rename_i k M2 e1;ext e;exact ⟨k,_,e1,p⟩
  .cases e
 .rintro ⟨k,M1,e1,p⟩;rw[e1];calc ⟨_,_,rfl,p⟩
def nxP (k:Sd->Mem->Prop) (P:Out->Sd->Mem->Prop):Out->Sd->Mem->Prop
 |.nx,Y,M=>k Y M
 |o,Y,M=>P o Y M
def zM {k:Sd->Mem->Prop}:nxP k P .nx Y M ↔ k Y M:=Iff.rfl
def VN {k:Sd->Mem->Prop} {d:D}:nxP k P (.ret d) Y M ↔ P (.ret d) Y M:=Iff.rfl
def Fe:OkS (BP Y M) P ↔ P .nx Y M:=dB
def zI:OkS (zN f g Y M) P ↔ OkS (f Y M) (nxP (λσ1 M1=>OkS (g σ1 M1) P) P):=by
 erw[zN];constructor
 .rintro ⟨o,σ1,M1,e,p⟩;cbv at e
  .rename_i σ2 M2 e1;exact ⟨_,_,_,e1,o,σ1,M1,e,p⟩
  .rename_i hn;calc ⟨o,σ1,M1,e,?_⟩;cases o with
   |nx=>calc absurd e (hn σ1 M1)
   |_=>exact p
 .rintro ⟨o,σ1,M1,e1,p⟩;rw[e1];cases o with
  |nx=>calc p
  |_=>calc ⟨_,_,_,rfl,p⟩
def ET {c:FT}:OkS (sIf c f g Y M) P ↔ Ok (c Y M) λk M1=>if k then OkS (f Y M1) P else OkS (g Y M1) P:=by
 erw[sIf];constructor
 .rintro ⟨o,σ1,M1,e,p⟩;cbv at e
  .rename_i M2 e1;exact ⟨_,_,e1,by dsimp only;rw[AD rfl];calc ⟨o,σ1,M1,e,p⟩⟩
  .rename_i M2 e1;exact ⟨_,_,e1,by simpa using ⟨o,σ1,M1,e,p⟩⟩
  .cases e
 .rintro ⟨x,M1,e1,p⟩;rw[e1];cases x with
  |true=>simpa using p
  |false=>simpa using p
def Ey {h:FE}:OkS (Aa h Y M) P ↔ Ok (h Y M) (Dq λd M1=>P (.ret d) Y M1):=by
 rw[<-Bu];erw[Aa];constructor
 .rintro ⟨o,σ1,M1,e,p⟩;cbv at e
  .rename_i d M2 e1;ext e;exact ⟨_,_,e1,p⟩
  .cases e
 .rintro ⟨x,M1,e1,p⟩;rw[e1];calc ⟨_,_,_,rfl,p⟩
def zc {i:Nat} {h:FE}:OkS (AN i h Y M) P ↔ Ok (h Y M) (Dq λd M1=>P .nx (Y.set i (some d)) M1):=by
 rw[<-Bu];erw[AN];constructor
 .rintro ⟨o,σ1,M1,e,p⟩;cbv at e
  .rename_i d M2 e1;ext e;exact ⟨_,_,e1,p⟩
  .cases e
 .rintro ⟨x,M1,e1,p⟩;rw[e1];calc ⟨_,_,_,rfl,p⟩
def Em {h:FE}:OkS (BL h Y M) P ↔ Ok (h Y M) λ_ M1=>P .nx Y M1:=by
 erw[BL];constructor
 .rintro ⟨o,σ1,M1,e,p⟩;cbv at e
  .rename_i d M2 e1;ext e;exact ⟨_,_,e1,p⟩
  .cases e
 .rintro ⟨x,M1,e1,p⟩;rw[e1];calc ⟨_,_,_,rfl,p⟩
def MV {v o i:FE}:OkS (Fq v o i Y M) P ↔ Ok (v Y M) (Dq λd M1=>Ok (o Y M1) λx M2=>Ok (i Y M2) (Dq λj M3=>∃ M4,GH x j d M3=some M4/\P .nx Y M4)):=by
 rw[<-Bu];erw[Fq];constructor
 .rintro ⟨o,σ1,M1,e,p⟩;cbv at e
  .rename_i d M2 e1;cbv at e
   .rename_i x M3 e2;cbv at e
    .rename_i j M4 e3;cbv at e
     .rename_i M5 e4;ext e;calc ⟨_,_,e1,_,_,e2,?_⟩;dsimp only;rw[<-Bu];exact ⟨_,_,e3,_,e4,p⟩
     .cases e
    .cases e
   .cases e
  .cases e
 .rintro ⟨d,M1,e1,x,M2,e2,p⟩;rw[<-Bu]at p;let⟨j,M3,e3,M4,e4,p⟩:=p;rw[e1];dsimp only;rw[e2];dsimp only;rw[e3];dsimp only;rw[e4];calc ⟨_,_,_,rfl,p⟩
def B3 {n:Nat} {ds:List D} {Q:D->Mem->Prop}:Ok (BH n f ds M) Q ↔ OkS (f (ds.map some++List.replicate (n-ds.length) none) M) λo _ M1=>match o with|.ret d=>Q d M1|.nx=>Q .non M1|_=>False:=by
 erw[BH];constructor
 .rintro ⟨o,M1,e,p⟩;cbv at e
  .rename_i d σ1 M2 e1;ext e;exact ⟨_,_,_,e1,p⟩
  .rename_i σ1 M2 e1;ext e;exact ⟨_,_,_,e1,p⟩
  .cases e
 .rintro ⟨o,σ1,M1,e1,p⟩;rw[e1];cases o with
  |ret d=>calc ⟨_,_,rfl,p⟩
  |nx=>calc ⟨_,_,rfl,p⟩
  |brk=>calc p.elim
  |cnt=>calc p.elim
theorem Ho {c:FT} {b:FS} (I:Nat->Sd->Mem->Prop) (hs:∀ m Y M,I m Y M->Ok (c Y M) λk M1=>if k then OkS (b Y M1) λo σ2 M2=>match o with|.nx=>∃ m',m'<m/\I m' σ2 M2|.cnt=>∃ m',m'<m/\I m' σ2 M2|.brk=>P .nx σ2 M2|.ret d=>P (.ret d) σ2 M2 else P .nx Y M1) :
  ∀ (n m:Nat) (Y:Sd) (M:Mem),m<n->I m Y M->OkS (Cf c b n Y M) P
 |0,m,Y,M,h,_=>absurd h (Nat.not_lt_zero _)
 |n+1,m,Y,M,h,hi=>by
  let⟨k,M1,e,q⟩:=hs m Y M hi;erw[Cf];rw[e];cases k with
  |false=>calc ⟨_,_,_,rfl,by simpa using q⟩
  |true=>
   rw[AD rfl]at q;let⟨o,σ2,M2,e2,q⟩:=q;dsimp only;rw[e2];cases o with
   |nx=>let⟨m',hm,q⟩:=q;calc Ho I hs n m' σ2 M2 () q
   |cnt=>let⟨m',hm,q⟩:=q;calc Ho I hs n m' σ2 M2 () q
   |brk=>calc ⟨_,_,_,rfl,q⟩
   |ret d=>calc ⟨_,_,_,rfl,q⟩
theorem Iw {g:FG} {b:FS} {all:List D} {gd:Option (Mem->Prop)} (I:List D->Sd->Mem->Prop)
  (hs:∀ x r Y M,I (x::r) Y M->Bv gd all M /\ ∃ σ1,g x Y=some σ1/\OkS (b σ1 M) λo σ2 M2=>match o with|.nx=>I r σ2 M2|.cnt=>I r σ2 M2|.brk=>P .nx σ2 M2|.ret d=>P (.ret d) σ2 M2)
  (he:∀ Y M,I [] Y M->Bv gd all M/\P .nx Y M):∀ (xs:List D) (Y:Sd) (M:Mem),I xs Y M->OkS (DJ g b all gd xs Y M) P
 |[],Y,M,hi=>by
  erw[DJ];let⟨h1,h2⟩:=he Y M hi;rw[AD h1];calc ⟨_,_,_,rfl,h2⟩
 |x::r,Y,M,hi=>by
  erw[DJ];let⟨h1,σ1,e1,o,σ2,M2,e2,q⟩:=hs x r Y M hi;rw[AD h1,e1];dsimp only;rw[e2];cases o with
  |nx=>calc Iw I hs he r σ2 M2 q
  |cnt=>calc Iw I hs he r σ2 M2 q
  |brk=>calc ⟨_,_,_,rfl,q⟩
  |ret d=>calc ⟨_,_,_,rfl,q⟩
def Du {i:FI} {g:FG} {b:FS}:OkS (B9 i g b Y M) P ↔ ∃ xs gd M1,i Y M=some (xs,gd,M1)/\OkS (DJ g b xs gd xs Y M1) P:=by
 erw[B9];constructor
 .rintro ⟨o,σ1,M1,e,p⟩;cbv at e
  .rename_i xs gd M2 e1;exact ⟨_,_,_,e1,_,_,_,e,p⟩
  .cases e
 .rintro ⟨xs,gd,M1,e1,p⟩;rw[e1];calc p
theorem Gu {g:FG} {tc:FT} {te:FE} {all:List D} {gd:Option (Mem->Prop)} (I:List D->List D->Mem->Prop)
  (hs:∀ x r acc M,I (x::r) acc M->Bv gd all M /\ ∃ σ1,g x Y=some σ1/\Ok (tc σ1 M) λk M1=>if k then Ok (te σ1 M1) (Dq λd M2=>I r (acc++[d]) M2) else I r acc M1)
  {Q:List D->Mem->Prop} (he:∀ acc M,I [] acc M->Bv gd all M/\Q acc M):∀ (xs acc:List D) (M:Mem),I xs acc M->Ok (BV g tc te Y all gd xs M) λys M1=>Q (acc++ys) M1
 |[],acc,M,hi=>by
  erw[BV];let⟨h1,h2⟩:=he acc M hi;rw[AD h1];calc ⟨_,_,rfl,by simpa using h2⟩
 |x::r,acc,M,hi=>by
  erw[BV];let⟨h1,σ1,e1,k,M1,e2,q⟩:=hs x r acc M hi;rw[AD h1,e1];dsimp only;rw[e2];cases k with
  |false=>calc Gu I hs he r acc M1 (~~~q)
  |true=>
   rw[AD rfl,<-Bu]at q;let⟨d,M2,e3,q⟩:=q;dsimp only;rw[e3];let⟨ys,M3,e4,p⟩:=Gu I hs he r (acc++[d]) M2 q;dsimp only;rw[e4];calc ⟨_,_,rfl,by simpa using p⟩
def F7 {own:Yj} {i:FI} {g:FG} {tc:FT} {te:FE} {Q:EV->Mem->Prop}:Ok (Ar own i g tc te Y M) Q ↔ ∃ xs gd M1,i Y M=some (xs,gd,M1)/\xs.length<=sizeLine/\Ok (BV g tc te (Cd own Y) xs gd xs M1) λys M2=>Q (.fl ys) M2:=by
 erw[Ar];constructor
 .rintro ⟨o,M1,e,p⟩;cbv at e
  .rename_i xs gd M2 e1;cbv at e
   .rename_i hz;cbv at e
    .rename_i ys M3 e2;ext e;exact ⟨_,_,_,e1,hz,_,_,e2,p⟩
    .cases e
   .cases e
  .cases e
 .rintro ⟨xs,gd,M1,e1,hz,ys,M2,e2,p⟩;rw[e1];dsimp only;rw[AD hz,e2];calc ⟨_,_,rfl,p⟩
def Fc {h:FE} {x:EV} {M1:Mem} {xs:List D} (e:h Y M=some (x,M1)) (e2:zr M1 x=some xs):AQ h Y M=some (xs,HD x xs,M1):=by
 erw[AQ];rw[e];dsimp only;rw[e2]
def XU {a:FA} {M1:Mem} {j:Int} (e:a Y M=some ([.int j],M1)) (h1:0<=j) (h2:j<2 ^ 62):Bx a Y M=some ((List.range j.toNat).map λ(k:Nat)=>D.int k,none,M1):=by
 erw[Bx];rw[e];dsimp only;rw[AD ⟨(),h2⟩]
def Eo:Ok (zQ (.dat (.int i)) (.dat (.int j)) M) P ↔ P (.dat (.int (i+j))) M:=zq
def JD:Ok (GY (.dat (.int i)) (.dat (.int j)) M) P ↔ GQ i j=true/\P (.dat (.int (i*j))) M:=by
 erw[GY,kI];dsimp only;split
 .rename_i h;rw[zq];simp[h]
 .rename_i h;rw[Hz];simp[h]
def F8:Ok (BW (.dat (.int i)) (.dat (.int j)) M) P ↔ 0<j/\P (.dat (.int (i % j))) M:=by
 erw[BW,kI];dsimp only;split
 .rename_i h;rw[zq];simp at h;simp[h]
 .rename_i h;rw[Hz];simp at h;simp;intro h';omega
def Kl:Ok (GP (.dat (.int i)) (.dat (.int j)) M) P ↔ (0<j/\j<1073741824)/\P (.dat (.int (i / j))) M:=by
 erw[GP,kI];dsimp only;split
 .rename_i h;rw[zq];simp at h;simp[h]
 .rename_i h;rw[Hz];simp at h;simp;intro h' h2;have:=h h';omega
def Kh:Ok (GO (.dat (.int i)) (.dat (.int j)) M) P ↔ (0<=j/\j<=1000000/\i.natAbs<2 ^ 64)/\P (.dat (.int (i ^ j.toNat))) M:=by
 erw[GO,kI];dsimp only;split
 .rename_i h;rw[zq];simp only[BE,B4]at h;simp[h]
 .rename_i h;rw[Hz];simp only[BE,B4,not_and]at h;simp only[false_iff,not_and];intro ⟨a,b,c⟩;calc absurd c (h ⟨a,b⟩)
def JR:Ok (kLt (.dat (.int i)) (.dat (.int j)) M) P ↔ P (.dat (.bl (decide (i<j)))) M:=zq
def aX:Ok (kLe (.dat (.int i)) (.dat (.int j)) M) P ↔ P (.dat (.bl (decide (i<=j)))) M:=zq
def Xf:Ok (kGe (.dat (.int i)) (.dat (.int j)) M) P ↔ P (.dat (.bl (decide (j<=i)))) M:=zq
def LD:Ok (kEq (.dat (.int i)) (.dat (.int j)) M) P ↔ P (.dat (.bl (decide (i=j)))) M:=by
 have:kEq (.dat (.int i)) (.dat (.int j)) M=some (.dat (.bl (decide (V.int i=V.int j))),M):=rfl;rw[this,zq];simp
def KH:Ok (kNe (.dat (.int i)) (.dat (.int j)) M) P ↔ P (.dat (.bl (decide (i≠j)))) M:=by
 have:kNe (.dat (.int i)) (.dat (.int j)) M=some (.dat (.bl (!decide (V.int i=V.int j))),M):=rfl;rw[this,zq];simp
def bD {xs ys:List D}:Ok (zQ (.dat (.tup xs)) (.dat (.tup ys)) M) P ↔ xs.length+ys.length<=sizeLine/\P (.dat (.tup (xs++ys))) M:=by
 have:zQ (.dat (.tup xs)) (.dat (.tup ys)) M=HX (.dat (.tup xs)) (.dat (.tup ys)) M:=rfl;rw[this];erw[HX];dsimp only[Cc];split
 .rename_i h;rw[zq];simp[h]
 .rename_i h;rw[Hz];simp[h]
def UI {x:EV} {xs:List D} (h:B1 M x=some xs) (hx:∀ d,x=.dat d->HP d=none):Ok (kNe x (.fl []) M) P ↔ P (.dat (.bl (!xs.isEmpty))) M:=by
 let e1:Fw true x (.fl []) M=none:=by cases x <;> rfl
 let e2:kNe x (.fl []) M=some (.dat (.bl (!xs.isEmpty)),M):=by
  erw[kNe,kOr];rw[e1];erw[IV];rw[h];rfl
 rw[e2,zq]
def Jq {x:EV} {xs:List D} {d:D} (h:zr M x=some xs) (hd:atI xs i=some d) (p:P (.dat d) M):Ok (kIx x (.dat (.int i)) M) P:=by
 have:kIx x (.dat (.int i)) M=some (.dat d,M):=by erw[kIx];dsimp only;rw[h];dsimp only;rw[hd]
 rw[this,zq];calc p
def RL {xs:List D} {k:Nat} {d:D} (h:xs[k]?=some d):atI xs (k:Int)=some d:=HR h
def Og {xs:List D} {i:Int} {d:D} (h0:0<=i) (h:xs[i.toNat]?=some d):atI xs i=some d:=by
 have:i=((i.toNat:Nat):Int):=()
 rw[this];calc HR h
def Qn {x:EV} {xs:List D} (h:zr M x=some xs):Ok (AZ [x] M) P ↔ P (.dat (.int xs.length)) M:=by
 have:AZ [x] M=some (.dat (.int xs.length),M):=by erw[AZ];dsimp only;rw[h]
 rw[this,zq]
def QF {x:EV} {xs:List D} (h:zr M x=some xs):Ok (CC [x] M) P ↔ P (.dat (.tup xs)) M:=by
 have:CC [x] M=some (.dat (.tup xs),M):=by erw[CC];dsimp only;rw[h]
 rw[this,zq]
def RQ:Ok (HQ [.dat (.int i)] M) P ↔ P (.dat (.int (if i<0 then -i else i))) M:=zq
def RD {x:EV} {xs:List D} {lo hi:Ys} (h:B1 M x=some xs) (ht:Cc x=none):Ok (kSl x lo hi M) P ↔ P (.fl (Bw xs lo hi)) M:=by
 have:kSl x lo hi M=some (.fl (Bw xs lo hi),M):=by erw[kSl];rw[ht];dsimp only;rw[h]
 rw[this,zq]
def CT {xs:List D}:zr M (.dat (.tup xs))=some xs:=rfl
def De {xs:List D}:zr M (.fl xs)=some xs:=rfl
def cV {xs:List D}:B1 M (.fl xs)=some xs:=rfl
def Dm {n:Nat} {xs:List D} (h:M[n]?=some (.lst xs)):B1 M (.dat (.ref n))=some xs:=by erw[B1];dsimp only;rw[h]
def Mu {n:Nat} {xs:List D} (h:M[n]?=some (.fro xs)):B1 M (.dat (.ref n))=some xs:=by erw[B1];dsimp only;rw[h]
def zj {n:Nat} {xs:List D} (h:M[n]?=some (.lst xs)):zr M (.dat (.ref n))=some xs:=Dm h
def SW {n:Nat} {xs:List D} (h:M[n]?=some (.fro xs)):zr M (.dat (.ref n))=some xs:=Mu h
def HS {n:Nat} {xs:List D} {d:D} {Q:D->Mem->Prop} (h:M[n]?=some (.lst xs)) (hz:xs.length<sizeLine):Ok (Bh (.dat (.ref n)) [d] M) Q ↔ Q .non (M.set n (.lst (xs++[d]))):=by
 have:Bh (.dat (.ref n)) [d] M=some (.non,M.set n (.lst (xs++[d]))):=by erw[Bh];dsimp only;rw[h];dsimp only;rw[AD hz]
 rw[this,zq]
def jC {n:Nat} {x:D} {xs:List D} {Q:D->Mem->Prop} (h:M[n]?=some (.lst (x::xs))):Ok (FN (.dat (.ref n)) [.int 0] M) Q ↔ Q x (M.set n (.lst xs)):=by
 have:FN (.dat (.ref n)) [.int 0] M=some (x,M.set n (.lst xs)):=by
  erw[FN];dsimp only;rw[h];dsimp only;let e:ixN (x::xs).length 0=some 0:=by erw[ixN];rw[AD (),AD (by simp)];rfl
  rw[e];dsimp only[List.getElem?_cons_zero];rw[AD ()];rfl
 rw[this,zq]
def QN {n k:Nat} {xs:List D} {d:D} (h:M[n]?=some (.lst xs)) (hk:k<xs.length):GH (.dat (.ref n)) (.int k) d M=some (M.set n (.lst (xs.set k d))):=by
 erw[GH];dsimp only;rw[h];dsimp only;let e:ixN xs.length (k:Int)=some k:=by erw[ixN];rw[AD (),AD ()];simp
 rw[e]
def Ol {m:FF} {ds:List D} {M:Mem} {Q:D->Mem->Prop} (h:Ok (m ds M) λd M1=>(D.und M.length d=true/\M.length<=M1.length /\ ∀ (j:Nat) u,j<M.length->M1[j]?=some u->MO.und M.length u=true)/\Q d (M1.take M.length)):Ok (Ff m ds M) Q:=by
 let⟨d,M1,e,⟨h1,h2,h3⟩,q⟩:=h;erw[Ff];rw[e];dsimp only;rw[AD]
 .exact ⟨_,_,rfl,q⟩
 .simp only[BE,B4,Ap];refine ⟨⟨h1,λu hu=>?_⟩,h2⟩;let⟨j,hj⟩:=List.getElem?_of_mem hu;let hlt:j<M.length:=by
   have:=(AK.mp hj).1;rw[Bg]at this;omega
  rw[List.getElem?_take_of_lt hlt]at hj;calc h3 j u hlt hj
def Pe {m:FF} {ds:List D} {M:Mem} {Q:D->Mem->Prop} (h0:D.unds 0 ds=true) (h:Ok (m ds []) λd _=>D.und 0 d=true/\Q d M):Ok (Gz m ds M) Q:=by
 let⟨d,M1,e,h1,q⟩:=h;erw[Gz];rw[AD h0,e];dsimp only;rw[AD h1];calc ⟨_,_,rfl,q⟩
def TIt.but (x:h.IsTupleIter a t i) (hs:Heap.ExtBut b h h') (n:a≠b):h'.IsTupleIter a t i:=x.extBut hs n
def Tup.but (x:h.IsTuple a its) (hs:Heap.ExtBut b h h') (n:a≠b):h'.IsTuple a its:=x.extBut hs n
def Hm (I:s.heap.IsTupleIter it t i) (T:s.heap.IsTuple t its) (hx:its[i]?=some x)
  (q:∀ h',h'.IsTupleIter it t (i+1)->Heap.SameBut it s.heap h'->Q x { s with heap:=h' }):wpAny (model prog w) A (Builtin.SmallTypes.nextOf (.ref it)) Q E s:=by
 let⟨o,O,C,FD⟩:=id I;let⟨u,U,_,m,G⟩:=T;erw[Builtin.SmallTypes.nextOf];calc AA (CA I.typeIs PySem.F.slot_tuple_iterator_next (BI PySem.F.slot_tuple_iterator_next I.typeIs PySem.F.entry_tuple_iterator_next ?_ (PySem.F.args_tuple_iterator_next_1 _)));calc AA (m:=field (.ref it) 0) (Ad O FD (x:=.ref t) rfl ?_);rw[AE (show ¬ ((Value.ref t==Value.none)=true) by calc Au)];calc AA (Ad O FD rfl ?_);calc AA (CH U G ?_);simp only[hx,Bc];calc AA (C8 O FD (by simp) (AB ⟨x,rfl,AB (q _ ⟨_,Cu _ O (Fh (Cr FD _)),(Obj.cls_mapFields ..).trans C,?_⟩ (CZ ..))⟩));rw[Cr FD];simp[rawInt]
def Ih (hh:A.handled=none) (I:s.heap.IsTupleIter it t i) (T:s.heap.IsTuple t its) (hx:its[i]?=none)
  (q:∀ h' e,Heap.ExtBut it s.heap h'->(∃ o,h'.get? e=some o/\o.cls=.type "StopIteration")->E (.ref e) { s with heap:=h' }):wpAny (model prog w) A (Builtin.SmallTypes.nextOf (.ref it)) Q E s:=by
 let⟨o,O,C,FD⟩:=id I;let⟨u,U,_,m,G⟩:=T;erw[Builtin.SmallTypes.nextOf];calc AA (CA I.typeIs PySem.F.slot_tuple_iterator_next (BI PySem.F.slot_tuple_iterator_next I.typeIs PySem.F.entry_tuple_iterator_next ?_ (PySem.F.args_tuple_iterator_next_1 _)));calc AA (m:=field (.ref it) 0) (Ad O FD (x:=.ref t) rfl ?_);rw[AE (show ¬ ((Value.ref t==Value.none)=true) by calc Au)];calc AA (Ad O FD rfl ?_);calc AA (CH U G ?_);simp only[hx,Bc];calc AA (BX (AA (C8 O FD (by simp) ?_)));calc AA ?_;simp only[newTuple,newExc];calc AA (A9 (AA (DQ (by first|rfl|(simp only[firstArgMember];rfl)) (A9 ?_ (by size_fits)))) (by size_fits));simp only[raiseNew];calc AA (wpAny_handled ?_);first|rw[hh]|rw[show A.in1.handled=none from hh]
 calc AA (AB (wpAny_throw (q _ _ (((CZ ..).extBut.push _).push _) ⟨_,AL _ rfl,rfl⟩)))
structure ZipT (h:Heap) (z TI TO i1 i2 t1 t2:Yt) (f:Yu) (k1 k2:Nat):Prop where
 z:IsZip h z TI TO f
 ti:IsPair h TI (.ref i1) (.ref i2)
 to:∃ a b,IsPair h TO a b
 a:h.IsTupleIter i1 t1 k1
 b:h.IsTupleIter i2 t2 k2
def Tv {z TI TO i1 i2 t1 t2:Yt} {k:Nat} {xs ys:Yp} {x y:Yu} {Q:Option Value->Shared->Prop} (D:ZipApart z TI TO i1 i2 t1 t2) (Z:ZipT s.heap z TI TO i1 i2 t1 t2 .none k k)
  (T1:s.heap.IsTuple t1 xs) (T2:s.heap.IsTuple t2 ys) (hx:xs[k]?=some x) (hy:ys[k]?=some y)
  (q:∀ h',ZipT h' z TI TO i1 i2 t1 t2 (rawInt ⇑s) (k+1) (k+1)->IsPair h' ⇑s x y ->
   (∀ c o,c∉[z,TO,i1,i2]->s.heap.get? c=some o->h'.get? c=some o)->Q (some (.ref ⇑s)) { s with heap:=h' }):wpAny (model prog w) A (pyNext (.ref z)) Q E s:=by
 let⟨Z0,P0,⟨a,b,O0⟩,I1,I2⟩:=Z;let ty:s.TypeIs (.ref z) "zip" := ⟨_,Z0,rfl⟩;erw[pyNext];calc AA (CN (CA ty Es (BI Es ty PySem.F.entry_zip_next ?_ (PySem.F.args_zip_next_1 _))));calc AA (m:=field (.ref z) 2) (Ad Z0 rfl rfl ?_);calc AA (Ad Z0 rfl rfl ?_);calc AA (CH P0 rfl ?_);calc AA ?_;erw[Builtin.SmallTypes.ownedTupleIsFree];calc AA (Ad Z0 rfl rfl (AB ?_));simp only[if_true];refine AA (BX (AA (Ad Z0 rfl rfl (AA (C2 Z0 (by simp) λh1 Z1 e1=>?_)))));replace Z1:IsZip h1 z TI TO .ellipsis:=Z1;calc AA ?_;simp only[List.forIn_cons,List.forIn_nil,List.zipIdx_cons,List.zipIdx_nil];refine AA (AA (D7 (AA (Hm (TIt.but I1 e1.extBut D.i1z) (Tup.but T1 e1.extBut D.l1z) hx λh2 J1 e2=>AB ?_))));let O2:IsPair h2 TO a b:=e2.extBut _ _ D.TOi1 (e1.extBut _ _ D.TOz O0);refine AA (CH O2 rfl (AA (wpAny_updateSeq_pair O2 λh3 O3 e3=>AA (wpAny_letGo (AB ?_)))));replace O3:IsPair h3 TO x b:=O3
 refine AA (AA (D7 (AA (Hm (TIt.but (TIt.but (TIt.but I2 e1.extBut D.i2z) e2.extBut D.i12.symm) e3.extBut D.TOi2.symm)
  (Tup.but (Tup.but (Tup.but T2 e1.extBut D.l2z) e2.extBut D.l2i1) e3.extBut D.l2TO) hy λh4 J2 e4=>AB ?_))))
 let O4:IsPair h4 TO x b:=e4.extBut _ _ D.TOi2 O3;refine AA (CH O4 rfl (AA (wpAny_updateSeq_pair O4 λh5 O5 e5=>AA (wpAny_letGo (AB (AB ?_))))));replace O5:IsPair h5 TO x y:=O5;calc AA (CH O5 rfl (AA (wpAny_newTuple ?_)));let sz:h5.objs.size=⇑s:=by rw[e5.1,e4.1,e3.1,e2.1,e1.1]
 let Z5:IsZip h5 z TI TO .ellipsis:=e5.extBut _ _ D.TOz.symm (e4.extBut _ _ D.i2z.symm (e3.extBut _ _ D.TOz.symm (e2.extBut _ _ D.i1z.symm Z1)));let kp:∀ c o,c∉[z,TO,i1,i2]->s.heap.get? c=some o->h5.get? c=some o:=λc o n e=>by
  simp only[AJ,Aw,Ay,not_or]at n;let⟨n1,n2,n3,n4⟩:=n;exact e5.extBut _ _ n2 (e4.extBut _ _ n4 (e3.extBut _ _ n2 (e2.extBut _ _ n3 (e1.extBut _ _ n1 e))))
 let A5:h5.IsTupleIter i1 t1 (k+1):=TIt.but (TIt.but (TIt.but J1 e3.extBut D.TOi1.symm) e4.extBut D.i12) e5.extBut D.TOi1.symm;let B5:h5.IsTupleIter i2 t2 (k+1):=TIt.but J2 e5.extBut D.TOi2.symm;let zl:z<h5.objs.size:=AI Z5;calc AA ?_;erw[Builtin.SmallTypes.ownedTupleHandOut];let Z6:IsZip (h5.push { cls:=.type "tuple", data:=.seq #[x,y] }) z TI TO .ellipsis:=AH _ Z5;refine AA (C2 Z6 (by simp) λh7 Z7 e7=>?_);replace Z7:IsZip h7 z TI TO (rawInt h5.objs.size):=Z7;refine C2 Z7 (by simp) λh8 Z8 e8=>?_;replace Z8:IsZip h8 z TI TO (rawInt h5.objs.size):=Z8;let up:∀ c o,c≠z->h5.get? c=some o->h8.get? c=some o:=λc o n e=>e8.extBut _ _ n (e7.extBut _ _ n (AH _ e));let N8:IsPair h8 h5.objs.size x y:=e8.extBut _ _ (Ca zl) (e7.extBut _ _ (Ca zl) (AL _ rfl));rw[sz]at Z8 N8;calc AB ⟨_,rfl,?_⟩;rw[sz];refine AB (q h8 ⟨Z8,up _ _ D.TIz (kp _ _ (by simp[D.TIz,D.TITO,D.TIi1,D.TIi2]) P0),⟨_,_,up _ _ D.TOz O5⟩,?_,?_⟩ N8 λc o n e=>up c o (λm=>n (by simp[m])) (kp c o n e))
 .obtain ⟨o,e,r⟩:=A5;exact ⟨o,up _ _ D.i1z e,r⟩
 .obtain ⟨o,e,r⟩:=B5;calc ⟨o,up _ _ D.i2z e,r⟩
def XO {z TI TO i1 i2 t1 t2:Yt} {k:Nat} {xs ys:Yp} {Q:Option Value->Shared->Prop} (hh:A.handled=none) (D:ZipApart z TI TO i1 i2 t1 t2) (Z:ZipT s.heap z TI TO i1 i2 t1 t2 .none k k)
  (T1:s.heap.IsTuple t1 xs) (T2:s.heap.IsTuple t2 ys) (he:xs[k]?=none\/ys[k]?=none)
  (q:∀ h',(∀ c o,c∉[z,TO,i1,i2]->s.heap.get? c=some o->h'.get? c=some o)->Q none { s with heap:=h' }):wpAny (model prog w) A (pyNext (.ref z)) Q E s:=by
 let⟨Z0,P0,⟨a,b,O0⟩,I1,I2⟩:=Z;let ty:s.TypeIs (.ref z) "zip" := ⟨_,Z0,rfl⟩
 let stop:∀ (e:Addr) (h':Heap),(∀ c o,c∉[z,TO,i1,i2]->s.heap.get? c=some o->h'.get? c=some o)->(∃ o,h'.get? e=some o/\o.cls=.type "StopIteration") ->
   wpAny (model prog w) A (do if (<- isInstance (.ref e) (.type "StopIteration")) then pure none else throw (.ref e):Sem (Option Value)) Q E { s with heap:=h' }:=λe h' k1 ⟨o,e1,e2⟩=>
  AA (Eb ⟨o,e1,e2⟩ isSubtype_stop (AB (q h' k1)))
 erw[pyNext];calc AA (CN (CA ty Es (BI Es ty PySem.F.entry_zip_next ?_ (PySem.F.args_zip_next_1 _))));calc AA (m:=field (.ref z) 2) (Ad Z0 rfl rfl ?_);calc AA (Ad Z0 rfl rfl ?_);calc AA (CH P0 rfl ?_);calc AA ?_;erw[Builtin.SmallTypes.ownedTupleIsFree];calc AA (Ad Z0 rfl rfl (AB ?_));simp only[if_true];refine AA (BX (AA (Ad Z0 rfl rfl (AA (C2 Z0 (by simp) λh1 Z1 e1=>?_)))));replace Z1:IsZip h1 z TI TO .ellipsis:=Z1;calc AA ?_;simp only[List.forIn_cons,List.forIn_nil,List.zipIdx_cons,List.zipIdx_nil];cases hx:xs[k]? with
 |none=>
  refine AA (AA (D7 (AA (Ih hh (TIt.but I1 e1.extBut D.i1z) (Tup.but T1 e1.extBut D.l1z) hx λh2 e e2 he=>?_))));let⟨oe,o1,o2⟩:=he;let Z2:IsZip h2 z TI TO .ellipsis:=e2 _ _ D.i1z.symm Z1;let ne:e≠z:=λm=>by subst m;rw[Z2]at o1;ext o1;simp at o2
  refine C2 Z2 (by simp) λh3 _ e3=>stop e h3 (λc o n x=>?_) ⟨oe,e3.extBut _ _ ne o1,o2⟩;simp only[AJ,Aw,Ay,not_or]at n;calc e3.extBut _ _ n.1 (e2 _ _ n.2.2.1 (e1.extBut _ _ n.1 x))
 |some x=>
  let hy:ys[k]?=none:=by
   rcases he with m|m
   .rw[hx]at m;ext m
   .exact m
  refine AA (AA (D7 (AA (Hm (TIt.but I1 e1.extBut D.i1z) (Tup.but T1 e1.extBut D.l1z) hx λh2 J1 e2=>AB ?_))));let O2:IsPair h2 TO a b:=e2.extBut _ _ D.TOi1 (e1.extBut _ _ D.TOz O0);refine AA (CH O2 rfl (AA (wpAny_updateSeq_pair O2 λh3 O3 e3=>AA (wpAny_letGo (AB ?_)))))
  refine AA (AA (D7 (AA (Ih hh (TIt.but (TIt.but (TIt.but I2 e1.extBut D.i2z) e2.extBut D.i12.symm) e3.extBut D.TOi2.symm)
   (Tup.but (Tup.but (Tup.but T2 e1.extBut D.l2z) e2.extBut D.l2i1) e3.extBut D.l2TO) hy λh4 e e4 he=>?_))))
  let⟨oe,o1,o2⟩:=he;let Z4:IsZip h4 z TI TO .ellipsis:=e4 _ _ D.i2z.symm (e3.extBut _ _ D.TOz.symm (e2.extBut _ _ D.i1z.symm Z1));let ne:e≠z:=λm=>by subst m;rw[Z4]at o1;ext o1;simp at o2
  refine C2 Z4 (by simp) λh5 _ e5=>stop e h5 (λc o n x=>?_) ⟨oe,e5.extBut _ _ ne o1,o2⟩;simp only[AJ,Aw,Ay,not_or]at n;calc e5.extBut _ _ n.1 (e4 _ _ n.2.2.2 (e3.extBut _ _ n.2.1 (e2.extBut _ _ n.2.2.1 (e1.extBut _ _ n.1 x))))
abbrev Hh (h:Heap) (a:Addr):Heap:=h.push { cls:=.type "tuple_iterator", data:=.fields #[.ref a,.int 0 0] }
abbrev JY (h:Heap) (a b:Yt):Heap:=Hh (Hh h a) b
abbrev Iz (h:Heap) (a b:Addr):Heap:=(JY h a b).push { cls:=.type "tuple", data:=.seq #[.ref h.objs.size,.ref (Hh h a).objs.size] }
abbrev J6 (h:Heap) (a b:Addr):Heap:=(Iz h a b).push { cls:=.type "tuple", data:=.seq #[.none,.none] }
abbrev HC (h:Heap) (a b:Addr):Heap:=(J6 h a b).push { cls:=.type "zip", data:=.fields #[.none,.bool false,.bool false,.ref (JY h a b).objs.size,.ref (Iz h a b).objs.size] }
def SY (a b:Addr) (xs ys:Array Value):Meets (Builtin.«zip.__new__» ⟨[.type "zip", .ref a,.ref b],[]⟩) (λ_ R s=>s.heap.IsTuple a xs/\s.heap.IsTuple b ys/\R (.ok (.ret (.ref (J6 s.heap a b).objs.size))) { s with heap:=HC s.heap a b }) :=
 .of_wp λprog w A R s h=>by
  let⟨hp,g,d,tk,os⟩:=s;let⟨Ta,Tb,h⟩:=h;let sz:=sub_zip;let U1:Heap.IsTuple (Shared.heap ⟨hp,g,d,tk,os⟩) a xs:=Ta;let U2:Heap.IsTuple (Shared.heap ⟨hp.push { cls:=.type "tuple_iterator", data:=.fields #[.ref a,.int 0 0] },g,d,tk,os⟩) b ys:=Heap.IsTuple.push Tb _;wp_walk using E1 U1,E1 U2;calc ⟨_,rfl,h⟩
def Wx (Ta:s.heap.IsTuple a xs) (Tb:s.heap.IsTuple b ys)
  (h:∀ h',ZipT h' (⇑s+4) (⇑s+2) (⇑s+3) ⇑s (⇑s+1) a b .none 0 0->(∀ c o,s.heap.get? c=some o->h'.get? c=some o)->Q (.ref (⇑s+4)) { s with heap:=h' }) :
  wpAny (model prog w) A (call (.type "zip") [.ref a,.ref b]) Q E s:=by
 refine callType_new PySem.F.called_zip () (PySem.F.typeCall_zip_2 _ _) (PySem.F.newCall_zip_2 _ _) (λobj=>PySem.F.args_object_init_3 obj _ _) PySem.F.entry_zip_new (SY a b xs ys) ⟨Ta,Tb,?_⟩;let q1:(Hh s.heap a).objs.size=⇑s+1:=Bn ..;let q2:(JY s.heap a b).objs.size=⇑s+2:=by rw[Bn,q1]
 let q3:(Iz s.heap a b).objs.size=⇑s+3:=by rw[Bn,q2]
 let q4:(J6 s.heap a b).objs.size=⇑s+4:=by rw[Bn,q3]
 let u:∀ {h:Heap} {c:Yt} {o p:Obj},h.get? c=some o->(h.push p).get? c=some o:=λe=>AH _ e;let p5:(HC s.heap a b).get? (J6 s.heap a b).objs.size=some _:=AL _ rfl;let p4:(HC s.heap a b).get? (Iz s.heap a b).objs.size=some _:=u (AL _ rfl);let p3:(HC s.heap a b).get? (JY s.heap a b).objs.size=some _:=u (u (AL _ rfl));let p2:(HC s.heap a b).get? (Hh s.heap a).objs.size=some _:=u (u (u (AL _ rfl)));let p1:(HC s.heap a b).get? ⇑s=some _:=u (u (u (u (AL _ rfl))));rw[q2,q3,q4]at p5;rw[q1,q2]at p3;rw[q3]at p4;rw[q1]at p2;rw[q4];calc ⟨⟨_,p5,rfl⟩,h _ ⟨p5,p3,⟨_,_,p4⟩,⟨_,p1,rfl,rfl⟩,⟨_,p2,rfl,rfl⟩⟩ λc o x=>u (u (u (u (u x))))⟩
def Pt {X:Cx} {zB:Yd} {Y:L2.St} {H:Hp} {s:Yl} {h':Heap} {t':Nat} {ch:Yg} {T:Yt} {o:HO} (I:Inv X zB Y H s) (hf:∀ b∈ch,Bq X zB H b)
  (k:∀ b u,b∉ch->s.heap.get? b=some u->h'.get? b=some u) (hT:⇑s<=T) (new:Am X.prog X.w (upd H T o) h' T o):Inv X zB Y (upd H T o) { s with heap:=h',toks:=t' }:=by
 let hn:H T=none:=I.hok.fresh hT;let nch:∀ b u,H b=some u->b∉ch:=λb u e z=>by rw[(hf b z).1]at e;ext e
 let un:∀ b u,H b=some u->upd H T o b=some u:=λb u e=>by rw[zS (DW e hn)];exact e
 refine I.step (λb hb=>⟨(hf b hb).2.2.2.1,(hf b hb).2.1,(hf b hb).2.2.2.2.1,(hf b hb).2.2.2.2.2⟩) (λb u _ _ hc e _=>k b u hc e) (λb u _ _ hc e _=>⟨u.slots,k b u hc e⟩)
  (λb u _ e n=>by rw[zS (λz=>by rw[z]at e;calc absurd (AI e) (Nat.not_lt.mpr hT))];calc n) (λb u hc e=>⟨u,k b u hc e⟩) (λb xs e=>un b _ e) (λb p u e=>un b _ e) (λb ps e=>⟨#[],by rw[un b _ e];simp⟩) (λm hm=>?_) (λb u e=>?_) I.bare
 .obtain ⟨p,es,ep,ho,r⟩:=hm;exact ⟨p,es,ep,k _ p (λz=>(hf _ z).2.1 rfl) ho,r⟩
 .by_cases hb:b=T
  .subst hb;rw[CY]at e;ext e;exact new
  .rw[zS hb]at e;refine (I.hok b u e).stay (λc v hc q=>k c v ?_ q) (λc q=>un c _ q) λc xs q=>un c _ q;rcases hc with z|z
   .rw[z];exact nch b u e
   .exact nch c _ z
def G4 {X:Cx} {zB:Yd} {Y:L2.St} {H:Hp} {s:Yl} {h':Heap} {t':Nat} {ch:Yg} (I:Inv X zB Y H s) (hf:∀ b∈ch,Bq X zB H b)
  (k:∀ b u,b∉ch->s.heap.get? b=some u->h'.get? b=some u):Inv X zB Y H { s with heap:=h',toks:=t' }:=by
 let nch:∀ b u,H b=some u->b∉ch:=λb u e z=>by rw[(hf b z).1]at e;ext e
 refine I.step (λb hb=>⟨(hf b hb).2.2.2.1,(hf b hb).2.1,(hf b hb).2.2.2.2.1,(hf b hb).2.2.2.2.2⟩) (λb u _ _ hc e _=>k b u hc e) (λb u _ _ hc e _=>⟨u.slots,k b u hc e⟩)
  (λb u _ e n=>n) (λb u hc e=>⟨u,k b u hc e⟩) (λb xs e=>e) (λb p u e=>e) (λb ps e=>⟨#[],by rw[e];simp⟩) (λm hm=>?_) (λb u e=>?_) I.bare
 .obtain ⟨p,es,ep,ho,r⟩:=hm;exact ⟨p,es,ep,k _ p (λz=>(hf _ z).2.1 rfl) ho,r⟩
 .refine (I.hok b u e).stay (λc v hc q=>k c v ?_ q) (λc q=>q) λc xs q=>q;rcases hc with z|z
  .rw[z];exact nch b u e
  .exact nch c _ z
def Itz (K:Yb) (a b:Yt):It :=
 ⟨λi H=>∃ xs ys x y,SqT K H a xs/\SqT K H b ys/\xs[i]?=some x/\ys[i]?=some y,
  λi H v H'=>∃ T x y,v=.ref T/\H T=none/\H'=upd H T (.tup [x,y])/\(∀ xs,SqT K H a xs->xs[i]?=some x) /\ ∀ ys,SqT K H b ys->ys[i]?=some y,
  λi H=>∃ xs ys,SqT K H a xs/\SqT K H b ys/\(xs.length<=i\/ys.length<=i)⟩
def Tg {P:Ym} {w:Yo} {K:Yb} {es:Yi} {ek:Nat} {ep:Pos} {z TI TO i1 i2 a b:Yt} (D:ZipApart z TI TO i1 i2 a b) :
  Turn P w K (.Tuple es ek ep) (Itz K a b) [z,TI,TO,i1,i2] z (λi h=>ZipT h z TI TO i1 i2 a b .none i i) where
 mem:=by simp
 obj:=λi h Z c hc=>by
  let⟨Z0,P0,⟨x,y,O0⟩,⟨o1,e1,_,d1⟩,⟨o2,e2,_,d2⟩⟩:=Z;simp only[AJ,Aw,Ay]at hc;rcases hc with rfl|rfl|rfl|rfl|rfl
  .exact ⟨_,Z0,λv m=>by ext m⟩
  .exact ⟨_,P0,λv m=>by ext m⟩
  .exact ⟨_,O0,λv m=>by ext m⟩
  .exact ⟨_,e1,λv m=>by rw[d1]at m;ext m⟩
  .exact ⟨_,e2,λv m=>by rw[d2]at m;ext m⟩
 keep:=λi h h' Z k=>by
  let⟨Z0,P0,⟨x,y,O0⟩,⟨o1,e1,r1⟩,⟨o2,e2,r2⟩⟩:=Z;exact ⟨k z (by simp) _ Z0,k TI (by simp) _ P0,⟨x,y,k TO (by simp) _ O0⟩,⟨o1,k i1 (by simp) _ e1,r1⟩,⟨o2,k i2 (by simp) _ e2,r2⟩⟩
 item:=by
  intro X hP hw hK hc i zB s Y H E I hf Z hg;subst hP hw hK;let⟨xs,ys,x,y,sa,sb,hx,hy⟩:=hg;let⟨its,rv,p1,z1⟩:=I.tuple sa;let⟨its2,rv2,p2,z2⟩:=I.tuple sb;let⟨u,hu,ru⟩:=rv.get hx;let⟨u2,hu2,ru2⟩:=rv2.get hy;refine Tv D Z (show s.heap.IsTuple a its.toArray from p1) (show s.heap.IsTuple b its2.toArray from p2) (~~~hu) (~~~hu2) λh' Z' N' kp=>⟨_,rfl,?_⟩;refine wpAny_letOwnedTupleGo_zip Z'.z λh2 Z2 e2=>?_;let hch:∀ c∈[z,TO,i1,i2],Bq X zB H c:=λc hm=>hf c (by
   simp only[AJ,Aw,Ay]at hm ⊢;rcases hm with q|q|q|q <;> simp[q])
  let kk:∀ c o,c∉[z,TO,i1,i2]->s.heap.get? c=some o->h2.get? c=some o:=λc o n e=>e2.extBut _ _ (λm=>n (by simp[m])) (kp c o n e);let zlt:z<⇑s:=AI Z.z;let NT:IsPair h2 ⇑s u u2:=e2.extBut _ _ (Ca zlt) N';let hfr:H ⇑s=none:=I.hok.fresh (AF _);refine ⟨.ref ⇑s,upd H ⇑s (.tup [x,y]),Pt (s:=s) I hch kk (AF _) ?_,rfl,⟨_,x,y,rfl,hfr,rfl,λws hw=>?_,λws hw=>?_⟩,?_,λc hm=>?_⟩
  .exact ⟨by show 2<=sizeLine;decide,[u,u2],.cons ru (.cons ru2 .nil),⟨_,NT,rfl,⟨_,rfl⟩,rfl⟩⟩
  .rw[I.tuple_inj hw sa];exact hx
  .rw[I.tuple_inj hw sb];exact hy
  .obtain ⟨_,P1,⟨q1,q2,O1⟩,⟨o1,f1,r1⟩,⟨o2,f2,r2⟩⟩:=Z';exact ⟨Z2,e2.extBut _ _ D.TIz P1,⟨q1,q2,e2.extBut _ _ D.TOz O1⟩,⟨o1,e2.extBut _ _ D.i1z f1,r1⟩,⟨o2,e2.extBut _ _ D.i2z f2,r2⟩⟩
  .have lt:c<⇑s:=by
    let⟨Z0,P0,⟨q1,q2,O0⟩,⟨o1,f1,_⟩,⟨o2,f2,_⟩⟩:=Z;simp only[AJ,Aw,Ay]at hm;rcases hm with rfl|rfl|rfl|rfl|rfl
    .exact AI Z0
    .exact AI P0
    .exact AI O0
    .exact AI f1
    .exact AI f2
   rw[zS (Ah lt)];exact (hf c hm).1
 done:=by
  intro X hP hw hK hc i zB s Y H E I hf Z hg;subst hP hw hK;let⟨xs,ys,sa,sb,hz⟩:=hg;let⟨its,rv,p1,z1⟩:=I.tuple sa;let⟨its2,rv2,p2,z2⟩:=I.tuple sb;let l1:=rv.length;let l2:=rv2.length;refine XO (I.ok.hd hc) D Z (show s.heap.IsTuple a its.toArray from p1) (show s.heap.IsTuple b its2.toArray from p2) ?_ λh' kp=>⟨rfl,G4 I (λc hm=>hf c (by
   simp only[AJ,Aw,Ay]at hm ⊢;rcases hm with q|q|q|q <;> simp[q])) kp⟩
  rcases hz with q|q
  .exact .inl (by simp;omega)
  .exact .inr (by simp;omega)
 self:=λ_ _ _ _ _ Z h=>wpAny_pyIter_zip Z.z h
def gT {ta:TA} (hg:Gl X "zip") (hm:X.mg "zip" = none) (ha:PA X [a,b] ta) (hs:starEach [a,b] X.env=[(false,eval a X.env),(false,eval b X.env)]:=by rfl) (hs2:starEach [b] X.env=[(false,eval b X.env)]:=by rfl) :
  PI X (.Tuple es ek ep) (.Call (.Name "zip" p) [a,b] [] pos) (λY H R=>ta Y H λvs H1=>∃ l1 l2 xs ys,vs=[.ref l1,.ref l2]/\SqT X.K H1 l1 xs/\SqT X.K H1 l2 ys/\R (Itz X.K l1 l2) H1):=by
 intro zB s Y H R I h;refine Call_ (Ce I hg hm (by rfl) (PyProof.Rows.callWith_type1 (thn (ha pos zB s Y H _ I h) λus s1 ⟨vs,H1,I1,r1,q1⟩=>?_) (by rw[hs,hs2]) (by rw[hs2];rfl)));let⟨l1,l2,xs,ys,rfl,s1',s2',q⟩:=q1;cases r1 with
 |cons r rr=>
  cases rr with
  |cons r' rr=>
   ext rr;ext r;ext r';let⟨its,rv,p1,_⟩:=I1.tuple s1';let⟨its2,rv2,p2,_⟩:=I1.tuple s2';let d1:l1<⇑s1:=by let⟨_,e,_⟩:=p1;exact AI e
   let d2:l2<⇑s1:=by let⟨_,e,_⟩:=p2;exact AI e
   refine Wx (show s1.heap.IsTuple l1 its.toArray from p1) (show s1.heap.IsTuple l2 its2.toArray from p2) λh' Z kp=>wpAny_pyIter_zip Z.z ?_;refine ⟨⇑s1+4,[⇑s1+4,⇑s1+2,⇑s1+3,⇑s1,⇑s1+1],_,_,H1,rfl,I1.kept kp,Tg (zipApart_new d1 d2),Z,λc hc=>?_,q⟩;let ge:⇑s1<=c:=by
    simp only[AJ,Aw,Ay]at hc;rcases hc with rfl|rfl|rfl|rfl|rfl
    .exact Dn _ 4
    .exact Dn _ 2
    .exact Dn _ 3
    .exact AF _
    .exact Dn _ 1
   calc I1.fpOk ge (I1.hok.fresh ge)
def IY (g:FA):FI:=λY M=>match g Y M with
 |some ([.tup xs,.tup ys],M1)=>some ((xs.zip ys).map λq=>D.tup [q.1,q.2],none,M1)
 |_=>none
def gF (hg:Gl X "zip") (hm:X.mg "zip" = none) (ha:QA X [a,b] g) (hs:starEach [a,b] X.env=[(false,eval a X.env),(false,eval b X.env)]:=by rfl) (hs2:starEach [b] X.env=[(false,eval b X.env)]:=by rfl) :
  QI X (.Tuple es ek ep) (.Call (.Name "zip" p) [a,b] [] pos) (IY g):=.mk <| PI.imp (gT hg hm ha.un hs hs2) λτ H R zz=>by
 let⟨L,Y,M,xs,gd,M',c,rs,hf,q⟩:=zz;erw[IY]at hf;cbv at hf
 .rename_i ds es' M1 e1;ext hf;refine ⟨L,Y,M,_,_,c,rs,e1,λL1 H1 vs s1 c1 r1=>?_⟩;let⟨v,v',rfl,r2,r3⟩:=r1.two;unfold Rep at r2 r3;let⟨l1,ws1,rfl,h1,q1⟩:=r2;let⟨l2,ws2,rfl,h2,q2⟩:=r3;refine ⟨l1,l2,ws1,ws2,rfl,.of h1,.of h2,q L1 H1 _ s1 c1 λL2 H2 M2 s2 c2 _=>?_⟩;let k1:=s2.tup l1 ws1 h1;let k2:=s2.tup l2 ws2 h2;let p1:=q1.stp s2;let p2:=q2.stp s2;refine ⟨λi d hd=>?_,⟨ws1,ws2,.of k1,.of k2,?_⟩⟩
  .rw[AW]at hd;cases e2:(ds.zip es')[i]? with
   |none=>rw[e2]at hd;ext hd
   |some pr=>
    rw[e2]at hd;ext hd;let⟨f1,f2⟩:=List.getElem?_zip_eq_some.mp e2;let⟨u,hu,ru⟩:=p1.get f1;let⟨u2,hu2,ru2⟩:=p2.get f2;refine ⟨⟨ws1,ws2,u,u2,.of k1,.of k2,hu,hu2⟩,λv H3 hy=>?_⟩;let⟨T,x,y,rfl,hT,rfl,hxx,hyy⟩:=hy;let ex:=hxx ws1 (.of k1);let ey:=hyy ws2 (.of k2);rw[hu]at ex;ext ex;rw[hu2]at ey;ext ey;exact ⟨λa o e=>by rw[zS (DW e hT)];calc e,Rep.newTup hT (.cons ru (.cons ru2 .nil))⟩
  .rw[AG,List.length_zip,p1.length,p2.length];omega
 .cases hf
def HJ (i j:Nat):FG:=λd Y=>match d with
 |.tup [x,y]=>some ((Y.set i (some x)).set j (some y))
 |_=>none
abbrev gP2 (K:Yb) (i j:Nat):TG:=Kq K 2 (Gg (Cq i) (Gg (Cq j) K9))
def WR {K:Yb} {i j:Nat}:GOk (gP2 K i j) (HJ i j):=by
 intro L H Y Y' τ d v Q rs r hf q;erw[HJ]at hf;cbv at hf
 .rename_i x y;ext hf;erw[Rep]at r;let⟨a,vs,rfl,e,r⟩:=r;let⟨v1,v2,rfl,r1,r2⟩:=r.two;exact ⟨a,_,rfl,.of e,rfl,v1,[v2],rfl,v2,[],rfl,rfl,q _ ((rs.set r1).set r2)⟩
 .cases hf
def hU {K:Yb} {own:Yj} {i j:Nat} (hi:i∈own) (hj:j∈own):Dd own (gP2 K i j) (HJ i j):=by
 intro L H Y Y' τ τ0 d v Q rs ex r hf q;erw[HJ]at hf;cbv at hf
 .rename_i x y;ext hf;erw[Rep]at r;let⟨a,vs,rfl,e,r⟩:=r;let⟨v1,v2,rfl,r1,r2⟩:=r.two;exact ⟨a,_,rfl,.of e,rfl,v1,[v2],rfl,v2,[],rfl,rfl,q _ ((rs.set r1).set r2) ((ex.set hi).set hj)⟩
 .cases hf
section
variable {X:Cx} {a b c e:Expr} {es:Yi} {pos p p2 pos2:Pos} {f g h:FE}
theorem Qi:∀ {bs:List Bool} {its:Yf},zT (bs.map V.bl) its -> ∀ (i:Nat) v,its[i]?=some v -> ∃ k,bs[i]?=some k/\v=.bool k
 |[],_,.nil,_,_,h=>by simp at h
 |k::bs,_,.cons r t,0,v,h=>by
  simp at h;subst h;calc ⟨k,rfl,r⟩
 |k::bs,_,.cons r t,i+1,v,h=>by
  let⟨k',e1,e2⟩:=Qi t i v (~~~h);calc ⟨k',by simpa using e1,e2⟩
def bL (bs:List Bool):((List.range bs.length).all λi=>(bs[i]?).getD true)=bs.all id:=by
 rw[C9,Ap,Ap];constructor
 .intro q k hk;let⟨i,hi,rfl⟩:=EY hk;have:=q i (DR.mpr hi);rw[AM hi]at this;exact this
 .intro q i hi;rw[AM (DR.mp hi)];calc q _ (Bd _)
def Om (K:Yb) (F:List Bool->Bool):List V->Hp->VK->Prop:=λxs H Q=>∃ q bs,xs=[.ref q]/\SqL K H q (bs.map V.bl)/\Q (.bl (F bs)) H
def Su (hc:X.calm=true):CV X (.builtin "all") (Om X.K λbs=>bs.all id):=by
 intro zB s Y H xs us Q I r h;let⟨l,bs,rfl,hq,q⟩:=h;let⟨u,rfl,rx⟩:=EX r;ext rx;let⟨its,rv,pl,_⟩:=I.list hq;let hlt:l<⇑s:=by let⟨_,z,_⟩:=pl.isList;exact AI z
 refine call_all_walk (wpAny_pyIter_list pl.isList ⟨⇑s,[⇑s,l],[⇑s],its.toArray.size,_,_,λi=>(bs[i]?).getD true,rfl,Walks.list (A:=X.A.in1) (I.ok.hd hc) _ l (Ah hlt) its.toArray,
  ⟨⟨_,AL _ rfl,rfl,rfl⟩,pl.isList.push _⟩,λi v s' Q' E' hP hQ=>?_,λh' tk hk=>?_⟩)
 .obtain ⟨k,z,rfl⟩:=Qi rv i v (~~~hP);dsimp only at hQ;rw[z]at hQ;exact E7 hQ
 .have hl:=rv.length;rw[AG]at hl;rw[AO,<-hl,bL];calc ⟨.bl _,H,I.kept (t':=tk) λb o z=>hk b o (λm=>by rw[Ae.mp m]at z;calc BN _ (AI z)) (AH _ z),rfl,q⟩
def FQ:List D->Option (List Bool)
 |[]=>some []
 |.bl k::r=>match FQ r with
  |some bs=>some (k::bs)
  |none=>none
 |_=>none
theorem Qp:∀ {ds:List D} {bs:List Bool} {vs:List V},FQ ds=some bs->zG L H ds vs->vs=bs.map V.bl
 |[],bs,vs,e,r=>by ext e;erw[zG]at r;calc r
 |d::ds,bs,vs,e,r=>by
  erw[zG]at r;let⟨v,r',rfl,r1,r2⟩:=r;cases d with
  |bl k=>
   erw[FQ]at e;cases q:FQ ds with
   |none=>rw[q]at e;ext e
   |some bs'=>
    rw[q]at e;ext e;erw[Rep]at r1;rw[r1,Qp q r2];rfl
  |_=>ext e
def HI (F:List Bool->Bool):KB:=λxs M=>match xs with
 |[x]=>match B1 M x with
  |some ds=>match FQ ds with
   |some bs=>some (.dat (.bl (F bs)),M)
   |none=>none
  |none=>none
 |_=>none
def YJ {K:Yb} {F:List Bool->Bool}:Dc K (Om K F) (HI F):=by
 intro L M M' H H0 xs d vs Q c r hk q;erw[HI]at hk;cbv at hk
 .rename_i x;cbv at hk
  .rename_i ds e1;cbv at hk
   .rename_i bs e2;ext hk;let⟨v,rfl,r1⟩:=r.one;let⟨l,ws,rfl,h1,r2⟩:=Dl c r1 e1;have:=Qp e2 r2;subst this;exact ⟨l,bs,rfl,.inl h1,q L H _ (.refl L H) c (CP (L:=L) (H:=H))⟩
   .cases hk
  .cases hk
 .cases hk
abbrev Dw:KB:=HI λbs=>bs.all id
section
variable {fa:FAE}
def YI (hc:X.calm=true) (hg:Gl X "all") (hm:X.mg "all" = none) (ha:QAE X [e] fa) (he:starEach [e] X.env=(false,eval e X.env)::starEach [] X.env:=by rfl) (hpl:(backTo pos (starEach [] X.env)).any (·.1)=false:=by rfl):QE X (.Call (.Name "all" p) [e] [] pos) (fB Dw fa) :=
 Gf YJ (Su hc) (by rfl) hg hm ha () () he hpl
end
def V9 (h:B1 M x=some ds) (hb:FQ ds=some bs):Ok (HI F [x] M) P ↔ P (.dat (.bl (F bs))) M:=by
 have:HI F [x] M=some (.dat (.bl (F bs)),M):=by erw[HI];dsimp only;rw[h];dsimp only;rw[hb]
 rw[this,zq]
theorem NW:∀ bs:List Bool,FQ (bs.map D.bl)=some bs
 |[]=>rfl
 |k::bs=>by rw[Ag];erw[FQ];rw[NW bs]
def Kk:V->Bool
 |.non=>true
 |.bl _=>true
 |_=>false
def OJ:OpR X (compareOp .Is) (λx y H Q=>Kk y=true/\Q (.bl (decide (x=y))) H):=by
 intro zB s Y H x y v u Q I rx ry h;let⟨hp,q⟩:=h;cases y with
 |non=>
  ext ry;refine wpAny_is_plain (by cases x <;> first|(ext rx;rfl)|(let⟨t,rfl⟩:=rx;rfl)) (zn I q ?_);cases x <;> first|(ext rx;rfl)|(let⟨t,rfl⟩:=rx;rfl)
 |bl k=>
  ext ry;refine wpAny_is_plain (by cases x <;> first|(ext rx;rfl)|(let⟨t,rfl⟩:=rx;rfl)) (zn I q ?_);cases x with
  |bl k'=>ext rx;cases k <;> cases k' <;> rfl
  |_=>first|(ext rx;rfl)|(let⟨t,rfl⟩:=rx;rfl)
 |_=>ext hp
def isD:EV->D->Option Bool
 |x,.non=>match x with
  |.dat .non=>some true
  |_=>some false
 |x,.bl k=>match x with
  |.dat (.bl k')=>some (decide (k'=k))
  |_=>some false
 |_,_=>none
def kIs (neg:Bool):K2:=λx y M=>match y with
 |.dat d=>match isD x d with
  |some k=>some (.dat (.bl (if neg then !k else k)),M)
  |none=>none
 |_=>none
def i7 (rx:zR H0 L H x v) (ry:Rep L H d w) (e:isD x d=some k):Kk w=true/\decide (v=w)=k:=by
 cases d with
 |non=>
  erw[Rep]at ry;subst ry;calc ⟨rfl,?_⟩;cases x with
  |fl xs=>let⟨q,vs,rfl,_⟩:=rx;ext e;rfl
  |dat d'=>
   cases d' with
   |non=>erw[zR,Rep]at rx;subst rx;ext e;rfl
   |bl _=>erw[zR,Rep]at rx;subst rx;ext e;rfl
   |int _=>erw[zR,Rep]at rx;subst rx;ext e;rfl
   |str _=>erw[zR,Rep]at rx;subst rx;ext e;rfl
   |tup _=>erw[zR,Rep]at rx;let⟨q,vs,rfl,_⟩:=rx;ext e;rfl
   |ref _=>erw[zR,Rep]at rx;let⟨q,rfl,_⟩:=rx;ext e;rfl
   |fn _ _=>erw[zR,Rep]at rx;let⟨rfl,_⟩:=rx;ext e;rfl
 |bl k'=>
  erw[Rep]at ry;subst ry;calc ⟨rfl,?_⟩;cases x with
  |fl xs=>let⟨q,vs,rfl,_⟩:=rx;ext e;rfl
  |dat d'=>
   cases d' with
   |non=>erw[zR,Rep]at rx;subst rx;ext e;rfl
   |bl j=>erw[zR,Rep]at rx;subst rx;ext e;cases j <;> cases k' <;> rfl
   |int _=>erw[zR,Rep]at rx;subst rx;ext e;rfl
   |str _=>erw[zR,Rep]at rx;subst rx;ext e;rfl
   |tup _=>erw[zR,Rep]at rx;let⟨q,vs,rfl,_⟩:=rx;ext e;rfl
   |ref _=>erw[zR,Rep]at rx;let⟨q,rfl,_⟩:=rx;ext e;rfl
   |fn _ _=>erw[zR,Rep]at rx;let⟨rfl,_⟩:=rx;ext e;rfl
 |_=>ext e
def Ru (h:kIs neg x y M=some (r,M')):∃ d k,y=.dat d/\isD x d=some k/\r=.dat (.bl (if neg then !k else k))/\M'=M:=by
 erw[kIs]at h;cbv at h
 .rename_i d;cbv at h
  .rename_i k e1;ext h;exact ⟨d,k,rfl,e1,rfl,rfl⟩
  .cases h
 .cases h
def OW {K:Yb}:BG K (λx y H Q=>Kk y=true/\Q (.bl (decide (x=y))) H) (kIs false):=by
 intro L M M' H H0 x y d v w Q cc rx ry hk q;let⟨d',k,rfl,e,rfl,rfl⟩:=Ru hk;let⟨h1,h2⟩:=i7 rx ry e;calc ⟨h1,?_⟩;rw[h2];calc q L H _ (.refl L H) cc (CP (L:=L) (H:=H))
def Xq (h1:QE X a f) (h2:QE X b g):QE X (.Compare a [.Is] [b] pos) (fOp (kIs false) f g):=JJ OW OJ h1 h2 (Ec _)
def Rg (h1:QE X a f) (h2:QE X b g):QT X (.Compare a [.Is] [b] pos) (tst (fOp (kIs false) f g)):=Ed OW OJ h1 h2 (Ec _)
def HM (k k':K2) (f g h:FE):FE:=λY M=>match f Y M with
 |some (x,M1)=>match g Y M1 with
  |some (y,M2)=>match k x y M2 with
   |some (.dat (.bl true),M3)=>match h Y M3 with
    |some (w,M4)=>k' y w M4
    |none=>none
   |some (.dat (.bl false),M3)=>some (.dat (.bl false),M3)
   |_=>none
  |none=>none
 |none=>none
def jB {K:Yb} {r r':R2} {k k':K2} (hk:BG K r k) (hk':BG K r' k') {τ:Sv} {H:Hp} {Q:VK} (z:trE K (HM k k' f g h) τ H Q):OX r r' (trE K f) (trE K g) (trE K h) τ H Q:=by
 let⟨L,Y,M,d,M',cc,rs,hf,q⟩:=z;erw[HM]at hf;cbv at hf
 .rename_i x M1 e1;cbv at hf
  .rename_i y M2 e2;refine (mkE cc rs e1 (λL1 H1 v s1 c1 r1=>(mkE c1 (rs.stp s1) e2 (λL2 H2 w s2 c2 r2=>?_))));cbv at hf
   .rename_i M3 e3;cbv at hf
    .rename_i u M4 e4;refine hk (H0:=H) c2 (r1.stp s2) (r2.back s1 cc s2.sub) e3 λL3 H3 t s3 c3 r3=>⟨true,GJ r3,EC ?_⟩;refine (mkE c3 (rs.stp ((s1.trans s2).trans s3)) e4 (λL4 H4 w4 s4 c4 r4=>?_));let s13:=(s1.trans s2).trans s3;refine hk' (H0:=H) c4 (((r2.back s1 cc s2.sub).stp s3).stp s4) (r4.back s13 cc s4.sub) hf λL5 H5 u5 s5 c5 r5=>?_;exact q L5 H5 u5 ((s13.trans s4).trans s5) c5 (r5.back (s13.trans s4) cc s5.sub)
    .cases hf
   .rename_i M3 e3;ext hf;refine hk (H0:=H) c2 (r1.stp s2) (r2.back s1 cc s2.sub) e3 λL3 H3 t s3 c3 r3=>⟨false,GJ r3,EG ?_⟩;exact q L3 H3 _ ((s1.trans s2).trans s3) c3 (by have:=GJ r3;subst this;calc r3)
   .cases hf
  .cases hf
 .cases hf
def dS (hk:BG X.K r k) (hk':BG X.K r' k') (ho:OpR X (compareOp op) r) (ho':OpR X (compareOp op') r') (h1:QE X a f) (h2:QE X b g) (h3:QE X c h)
  (hm:lastMarks [op,op'] [b,c]=false:=by with_unfolding_all rfl):QE X (.Compare a [op,op'] [b,c] pos) (HM k k' f g h):=.mk <| PE.imp (Sa ho ho' h1.un h2.un h3.un hm) λ_ _ _ z=>jB hk hk' z
section
variable {M:Mem} {Y:Sd} {P:EV->Mem->Prop}
def XJ:Ok (HM k k' f g h Y M) P ↔ Ok (f Y M) λx M1=>Ok (g Y M1) λy M2=>Ok (k x y M2) (blP λt M3=>if t then Ok (h Y M3) λw M4=>Ok (k' y w M4) P else P (.dat (.bl false)) M3):=by
 erw[HM];constructor
 .rintro ⟨x,M1,z,q⟩;cbv at z
  .rename_i y M2 e1;cbv at z
   .rename_i y' M3 e2;cbv at z
    .rename_i M4 e3;cbv at z
     .rename_i w M5 e4;exact ⟨_,_,e1,_,_,e2,_,_,e3,by rw[Fl,AD rfl];calc ⟨_,_,e4,_,_,z,q⟩⟩
     .cases z
    .rename_i M4 e3;ext z;exact ⟨_,_,e1,_,_,e2,_,_,e3,by rw[Fl];simpa using q⟩
    .cases z
   .cases z
  .cases z
 .rintro ⟨x,M1,e1,y,M2,e2,t,M3,e3,q⟩;rw[e1];dsimp only;rw[e2];dsimp only;rw[e3];cases t with
  |fl _=>calc q.elim
  |dat d=>
   cases d with
   |bl t=>
    rw[Fl]at q;cases t with
    |true=>
     rw[AD rfl]at q;let⟨w,M4,e4,q⟩:=q;dsimp only;rw[e4];calc q
    |false=>calc ⟨_,_,rfl,by simpa using q⟩
   |_=>calc q.elim
end
def IU (f:FE):FE:=λY M=>match f Y M with
 |some (.dat (.int i),M1)=>some (.dat (.int (-i)),M1)
 |_=>none
def gA (h1:QE X a f):QE X (.UnaryOp .USub a pos) (IU f):=.mk <| PE.imp (Wb Vg h1.un) λτ H Q zz=>by
 let⟨L,Y,M,d,M',cc,rs,hf,q⟩:=zz;erw[IU]at hf;cbv at hf
 .rename_i i M1 e1;ext hf;refine (mkE cc rs e1 (λL1 H1 v s1 c1 r1=>?_));exact ⟨i,by erw[zR,Rep]at r1;calc r1,q L1 H1 _ s1 c1 (CO (L:=L1) (H:=H1))⟩
 .cases hf
def D8:KB:=λxs M=>match xs with
 |[x]=>match zr M x with
  |some ys=>some (.fl ys,M)
  |none=>none
 |_=>none
def Vm:Dc X.K (λxs H Q=>∃ q ys,xs=[.ref q]/\(SqL X.K H q ys\/SqT X.K H q ys) /\ ∀ l,H l=none->Q (.ref l) (upd H l (.lst ys))) D8:=by
 intro L M M' H H0 xs d vs Q cc r hk q;erw[D8]at hk;cbv at hk
 .rename_i x;cbv at hk
  .rename_i ys e1;ext hk;let⟨v,rfl,r1⟩:=r.one;let⟨l,ws,rfl,hs,r2⟩:=FR cc r1 e1;refine ⟨l,ws,rfl,hs,λk hk=>?_⟩;exact q L _ _ (.upd hk) (cc.upd hk) (zR.newLst (.refl L H) cc cc hk r2)
  .cases hk
 .cases hk
def aR (hg:Gl X "list") (hm:X.mg "list" = none) (ha:QAE X [e] fa) (he:starEach [e] X.env=(false,eval e X.env)::starEach [] X.env:=by rfl) (hpl:(backTo pos (starEach [] X.env)).any (·.1)=false:=by rfl):QE X (.Call (.Name "list" p) [e] [] pos) (fB D8 fa) :=
 MC Vm Zu (by rfl) hg hm ha () () he hpl
end
open AutoSeq1 (wpAny_loadPart')
def TH {r:Yt} {lo hi:Int} {t u v:Tok} {n:Nat} {Q:List Value->Shared->Prop} (hh:A.handled=none) (R:IsRange s.heap r lo hi 1 t u v) (sm:Builtin.Range.small lo hi 1=true) (hn:Builtin.Range.rangeSize lo hi 1=n) (hz:n<=2 ^ 24)
  (q:∀ h' tk (acc:Yp),(∀ b o,s.heap.get? b=some o->h'.get? b=some o)->ItemsOf (λi v=>∃ t,v=.int (lo+i*1) t) acc n->Q acc.toList { s with heap:=h',toks:=tk }):wpAny (model prog w) A (collect (.ref r)) Q E s:=by
 erw[collect];calc AA (wpAny_runValue (Cb PySem.F.entry_proto_collect ?_));rw[DK PySem.F.plain_proto_collect _];calc AA (A9 (AB ⟨ED PySem.F.plain_list_iadd _,Cb PySem.F.entry_list_iadd ?_⟩));rw[DK PySem.F.plain_list_iadd _];let S0:(s.heap.push { cls:=.type "list", data:=.seq ([]:List Value).toArray }).get? ⇑s=some { cls:=.type "list", data:=.seq #[] 0 }:=AL _ rfl
 let fin:∀ (h':Heap) (tk:Nat) (acc:Array Value) (k:Nat),(∀ b o,b≠⇑s->(s.heap.push { cls:=.type "list", data:=.seq ([]:List Value).toArray }).get? b=some o->h'.get? b=some o) ->
   h'.get? ⇑s=some { cls:=.type "list", dict:=none,data:=.seq acc k,slots:=#[] }->ItemsOf (λi v=>∃ t,v=.int (lo+i*1) t) acc n ->
   wpAny (model prog w) A (match Value.ref ⇑s with
    |Value.ref a=>do
     match (<- load a).data with
      |Data.seq xs _=>pure xs.toList
      |_=>unsupported "internal:collect"
    |_=>unsupported "internal:collect") Q E { s with heap:=h',toks:=tk }:=λh' tk acc k kp e it=>by
  refine AA (wpAny_load e (AB (q h' tk acc (λb o m=>kp b o (Ah (AI m)) (AH _ m)) it)))
 refine An (wpAny_extend_range
  (R:=λr s'=>r=.ok (.ret (.ref ⇑s)) /\ ∃ h' tk acc k,s'={ s with heap:=h',toks:=tk }/\(∀ b o,b≠⇑s->(s.heap.push { cls:=.type "list", data:=.seq ([]:List Value).toArray }).get? b=some o->h'.get? b=some o) /\
   h'.get? ⇑s=some { cls:=.type "list", dict:=none,data:=.seq acc k,slots:=#[] }/\ItemsOf (λi v=>∃ t,v=.int (lo+i*1) t) acc n)
  hh (AH _ R) sm hn hz ⇑s (.ref ⇑s) 0 S0 λh' tk acc k kp e it=>⟨rfl,h',tk,acc,k,rfl,kp,e,it⟩) (λf s' z=>?_) (λe s' z=>?_)
 .cases f with
  |done f=>
   let⟨e,h',tk,acc,k,rfl,z1,z2,z3⟩:=z;ext e;calc fin h' tk acc k z1 z2 z3
  |again c'=>exact ⟨z.1,codeAny_mono z.2 λr s'' z=>by let⟨rfl,h',tk,acc,k,rfl,z1,z2,z3⟩:=z;calc fin h' tk acc k z1 z2 z3⟩
 .exact absurd z.1 (by simp)
def YV (r:Yt) (lo hi:Int) (t u v:Tok) (n:Nat) (sm:Builtin.Range.small lo hi 1=true) (hn:Builtin.Range.rangeSize lo hi 1=n) (hz:n<=2 ^ 24) :
  Meets (Builtin.«tuple.__new__» ⟨[.type "tuple", .ref r],[]⟩) (λA R s=>A.handled=none/\IsRange s.heap r lo hi 1 t u v /\
   ∀ (h':Heap) (tk:Nat) (acc:Array Value),(∀ b o,s.heap.get? b=some o->h'.get? b=some o)->ItemsOf (λi v=>∃ t,v=.int (lo+i*1) t) acc n->R (.ok (.ret (.ref h'.objs.size))) { s with heap:=h'.push { cls:=.type "tuple", data:=.seq acc },toks:=tk }) :=
 .of_wp λprog w A R s h=>by
  let⟨hp,g,d,tk,os⟩:=s;let⟨hh,Ra,h⟩:=h;let h1:=sub_tuple_self;let h2:=init_tuple_lookup;let h3:=madeHere_tuple;let T:Shared.TypeIs ⟨hp,g,d,tk,os⟩ (.ref r) "range" := ⟨_,Ra,rfl⟩;wp_walk using wpAny_loadPart' Ra,Co T,TH (show A.in1.handled=none from hh) Ra sm hn hz;intro h' tk' acc kp it;calc AA (m:=Builtin.Tuple.tupleExact acc.toList.toArray) ?_;erw[Builtin.Tuple.tupleExact];let sz:acc.toList.toArray.size<=sizeLine:=by rw[AO,BU,it.1,sizeLine_eq];omega
  calc A9 (AB ⟨_,rfl,?_⟩) sz;let e:acc.toList.toArray=acc:=by simp
  rw[e];calc h h' tk' acc kp it
section
variable {X:Cx} {a e:Expr} {es:Yi} {pos p p2 pos2:Pos} {f:FE}
def dJ:CV X (.type "range") (λxs H Q=>∃ j,xs=[.int j] /\ ∀ l,H l=none->Q (.ref l) (upd H l (.rng 0 j))):=by
 intro zB s Y H xs us Q I r h;let⟨j,rfl,q⟩:=h;let⟨u,rfl,rx⟩:=EX r;let⟨t,rfl⟩:=rx;refine call_range_1 ⟨.ref ⇑s,_,I.laid (λb o z=>AH _ z) (AF _) ?_,rfl,q _ (I.hok.fresh (AF _))⟩;calc ⟨_,_,_,AL _ rfl⟩
def upV (n:Nat):List V:=(List.range n).map λ(k:Nat)=>V.int k
def TF (h:ItemsOf (λi v=>∃ t,v=.int ((0:Int)+i*1) t) acc n):zT (upV n) acc.toList:=by
 let⟨hz,hi⟩:=h;have:∀ (xs:Yf) (k:Nat),(∀ j v,xs[j]?=some v -> ∃ t,v=Value.int ((k+j:Nat):Int) t)->zT ((List.range' k xs.length).map λ(k:Nat)=>V.int k) xs:=by
  intro xs;induction xs with
  |nil=>intro k _;calc .nil
  |cons x xs ih=>
   intro k hk;rw[C0,List.range'_succ,Ag];refine .cons ?_ (ih (k+1) λj v e=>?_)
   .obtain ⟨t,e⟩:=hk 0 x rfl;exact ⟨t,by simpa using e⟩
   .obtain ⟨t,e'⟩:=hk (j+1) v (~~~e);exact ⟨t,by rw[e'];congr 2;omega⟩
 let q:=this acc.toList 0 (λj v e=>by
  let⟨t,e'⟩:=hi j v (~~~e);calc ⟨t,by rw[e'];congr 1;omega⟩)
 erw[upV];rw[List.range_eq_range'];rw[BU,hz]at q;calc q
def eJ (h0:0<=j) (h1:j<=16777216):Builtin.Range.small 0 j 1=true/\Builtin.Range.rangeSize 0 j 1=(j.toNat:Int):=by
 calc ⟨small_one () () () (),?_⟩;rw[rangeSize_one];split <;> omega
def cJ (mk:List V->HO):List V->Hp->VK->Prop:=λxs H Q=>∃ r j,xs=[.ref r]/\H r=some (.rng 0 j)/\0<=j/\j<=16777216 /\ ∀ l,H l=none->Q (.ref l) (upd H l (mk (upV j.toNat)))
def WL (n:Nat):(upV n).length=n:=by erw[upV];simp
def cQ (hc:X.calm=true):CV X (.type "tuple") (cJ HO.tup):=by
 intro zB s Y H xs us Q I r h;let⟨l,j,rfl,hr,h0,h1,q⟩:=h;let⟨u,rfl,rx⟩:=EX r;ext rx;let⟨t,u,v,er⟩:=(show Am X.prog X.w H s.heap l (.rng 0 j)from I.hok l _ hr);let⟨sm,sz⟩:=eJ h0 h1
 refine callType_new PySem.F.called_tuple () (PySem.F.typeCall_tuple_1 _) (PySem.F.newCall_tuple_1 _) (λobj=>PySem.F.args_object_init_2 obj _) PySem.F.entry_tuple_new (YV l 0 j t u v j.toNat sm sz ())
  ⟨I.ok.hd hc,er,λh' tk acc kp it=>⟨⟨_,AL _ rfl,rfl⟩,?_⟩⟩
 let I1:Inv X zB Y H { s with heap:=h',toks:=tk }:=I.kept kp;refine ⟨.ref h'.objs.size,_,I1.laid (t':=tk) (λb o z=>AH _ z) (AF _) ?_,rfl,q _ (I1.hok.fresh (AF _))⟩;calc ⟨by rw[WL,sizeLine_eq];omega,acc.toList,TF it,by simpa using C4.new h' acc⟩
def upD (n:Nat):List D:=(List.range n).map λ(k:Nat)=>D.int k
def Sk (n:Nat):zG L H (upD n) (upV n):=by
 have:∀ xs:List Nat,zG L H (xs.map λ(k:Nat)=>D.int k) (xs.map λ(k:Nat)=>V.int k):=by
  intro xs;induction xs with
  |nil=>calc .nil
  |cons x xs ih=>exact .cons CO ih
 calc this _
def HH (f:FE):FE:=λY M=>match f Y M with
 |some (.dat (.int j),M1)=>if 0<=j/\j<=16777216 then some (.dat (.tup (upD j.toNat)),M1) else none
 |_=>none
def cR (hc:X.calm=true) (hg:Gl X "tuple") (hm:X.mg "tuple" = none) (hg2:Gl X "range") (hm2:X.mg "range" = none) (ha:QE X a f)
  (he:starEach [Expr.Call (.Name "range" p2) [a] [] pos2] X.env=(false,eval (Expr.Call (.Name "range" p2) [a] [] pos2) X.env)::starEach [] X.env:=by rfl) (hpl:(backTo pos (starEach [] X.env)).any (·.1)=false:=by rfl)
  (he2:starEach [a] X.env=(false,eval a X.env)::starEach [] X.env:=by rfl) (hpl2:(backTo pos2 (starEach [] X.env)).any (·.1)=false:=by rfl) :
  QE X (.Call (.Name "tuple" p) [.Call (.Name "range" p2) [a] [] pos2] [] pos) (HH f) :=
 .mk <| PE.imp (LK (cQ hc) hg hm (by rfl) (G5 (LK dJ hg2 hm2 boot_range (G5 ha.un Hs he2) () () he2 hpl2) Hs he) () () he hpl) λτ H Q zz=>by
  let⟨L,Y,M,d,M',c,rs,hf,q⟩:=zz;erw[HH]at hf;cbv at hf
  .rename_i j M1 e1;cbv at hf
   .rename_i hb;ext hf;refine (mkE c rs e1 (λL1 H1 v s1 c1 r1=>⟨j,by erw[zR,Rep]at r1;rw[r1],λl hl=>⟨l,j,rfl,CY,hb.1,hb.2,λk hk=>?_⟩⟩));exact q L1 _ _ ((s1.trans (.upd hl)).trans (.upd hk)) ((c1.upd hl).upd hk) (Rep.newTup hk (Sk _))
   .cases hf
  .cases hf
section
variable {M:Mem} {Y:Sd} {P:EV->Mem->Prop}
def Xg (e:f Y M=some (.dat (.int j),M)) (h0:0<=j) (h1:j<=16777216) (q:P (.dat (.tup (upD j.toNat))) M):Ok (HH f Y M) P:=by
 calc ⟨_,_,?_,q⟩;erw[HH];rw[e];dsimp only;rw[AD ⟨h0,h1⟩]
end
end
def IQ:Expr->Bool
 |.Starred .. =>false
 |_=>true
def zO (h:IQ e=true):starEach (e::es) env=(false,eval e env)::starEach es env:=by
 cases e <;> first|rfl|ext h
def HW (h:IQ e=true):starEach [e] env=[(false,eval e env)]:=zO h
def Lr (h:IQ e=true) (h':IQ e'=true):starEach [e,e'] env=[(false,eval e env),(false,eval e' env)]:=by rw[zO h,HW h']
theorem HU:∀ {es:Yi},es.all IQ=true->(backTo pos (starEach es env)).any (·.1)=false
 |[],_=>rfl
 |e::es,h=>by
  rw[List.all_cons,BE]at h;rw[zO h.1];have:=HU (pos:=pos) (env:=env) h.2;simpa [backTo] using this
def Cor.pushO {K:Yb} {L:Yg} {M:List MO} {H:Hp} {p:Yt} {o:HO} {m:MO} (c:Cor K L M H) (h:H p=none) (new:DF K (L++[p]) (L2.upd H p o) p m) :
  Cor K (L++[p]) (M++[m]) (L2.upd H p o)/\Stp L H (L++[p]) (L2.upd H p o):=by
 let hp:p∉L:=λz=>by let⟨o,e⟩:=c.tracked z;rw[h]at e;ext e
 let st:Stp L H (L++[p]) (L2.upd H p o):=by
  refine ⟨⟨[p],rfl⟩,λa ha=>?_,λa o e _ _=>?_,λa o e=>?_,λa o u e=>?_,J0 (λa o u e=>?_) λa ps e=>?_⟩
  .rcases AR.mp ha with z|z
   .exact .inl z
   .have:a=p:=by simpa using z
    subst this;exact .inr h
  all_goals (rw[zS (DW e h)];calc e)
 refine ⟨⟨by simp[c.len],?_,λn a m e1 e2=>?_,c.tab.stp st⟩,st⟩
 .rw[Ds];exact ⟨c.nd,by simp,λa ha b hb z=>by
   have:b=p:=by simpa using hb
   subst this;subst z;calc hp ha⟩
 .by_cases hn:n<L.length
  .rw[Bf hn]at e1;rw[Bf (by rw[<-c.len];calc hn)]at e2;exact (c.obj n a m e1 e2).stp st λo _ e=>by rw[zS (DW e h)];exact e
  .have hn':n=L.length:=by
    have:=(AK.mp e1).1;rw[AV]at this;simp at this;omega
   subst hn';simp at e1;rw[c.len]at e2;simp at e2;subst e1;subst e2;calc new
def DF.nt {K:Yb} {L:Yg} {H:Hp} {a:Yt} {m:MO} (h:DF K L H a m) {o:HO} (e:H a=some o):NT o:=λps z=>by
 subst z;cases m with
 |lst xs=>let⟨vs,e',_⟩:=h;rw[e]at e';ext e'
 |fro xs=>let⟨o,vs,e',_⟩:=h;rw[e]at e';ext e'
 |dict ps=>let⟨vs,e',_⟩:=h;rw[e]at e';ext e'
 |dicT ps=>let⟨vs,e',_⟩:=h;rw[e]at e';ext e'
 |set _=>let⟨o,u,e'⟩:=h;rw[e]at e';ext e'
 |froT ps=>let⟨o,vs,e',_⟩:=h;rw[e]at e';ext e'
 |froK ps=>let⟨o,vs,e',_⟩:=h;rw[e]at e';ext e'
def Cor.nt {K:Yb} {L:Yg} {M:List MO} {H:Hp} {n:Nat} {p:Yt} {o:HO} (c:Cor K L M H) (h1:L[n]?=some p) (ho:H p=some o):NT o :=
 (c.obj n p _ h1 (AM (by rw[<-c.len];calc (AK.mp h1).1))).nt ho
def Cor.put {K:Yb} {L:Yg} {M:List MO} {H:Hp} {n:Nat} {p:Yt} {o o':HO} {m:MO} (c:Cor K L M H) (h1:L[n]?=some p) (ho:H p=some o) (ht:∀ xs,o≠.tup xs) (hf:∀ a u,o≠.frz a u)
  (new:Stp L H L (L2.upd H p o')->DF K L (L2.upd H p o') p m):Cor K L (M.set n m) (L2.upd H p o')/\Stp L H L (L2.upd H p o'):=by
 let st:Stp L H L (L2.upd H p o'):=by
  let nt:=c.nt h1 ho;refine ⟨⟨[],by simp⟩,λa ha=> .inl ha,λa o e ha _=>?_,λa xs e=>?_,λa b u e=>?_,J0 (λa b u e=>?_) λa ps e=>?_⟩
  .rw[zS (show a≠p from λz=>ha (by rw[z];calc CM h1))];exact e
  .rw[zS (GA e ho (λz=>ht xs z.symm))];exact e
  .rw[zS (GA e ho (λz=>hf b u z.symm))];exact e
  .rw[zS (GA e ho (λz=>hf b u z.symm))];exact e
  .rw[zS (GA e ho (λz=>nt ps z.symm))];exact e
 refine ⟨⟨by simp[c.len],c.nd,λk a m' e1 e2=>?_,c.tab.stp st⟩,st⟩;rw[DN]at e2;cbv at e2
 .rename_i hk;subst hk;rw[h1]at e1;ext e1;cbv at e2
  .cases e2;exact new st
  .cases e2
 .rename_i hk;let hne:a≠p:=λz=>hk (by
   subst z;calc (List.getElem?_inj (AK.mp h1).1 c.nd).mp (h1.trans e1.symm))
  exact (c.obj k a m' e1 e2).stp st λo _ e=>by rw[zS hne];calc e
section
variable {X:Cx} {a b e:Expr} {pos:Pos} {f g:FE}
def Hn (fk fv:FE):FE:=λY M=>match toD fk Y (M++[.dict []]) with
 |some (k,M1)=>match toD fv Y M1 with
  |some (v,M2)=>match M2[M.length]?,Az k with
   |some (.dict []),some _=>some (.dat (.ref M.length),M2.set M.length (.dict [(k,v)]))
   |_,_=>none
  |none=>none
 |none=>none
def Ig (h:Rep L H d v) (e:Az d=some k):v=kV k:=by
 cases d with
 |int i=>ext e;erw[Rep]at h;calc h
 |str x=>ext e;erw[Rep]at h;calc h
 |_=>ext e
def gM {fk fv:FE} (h1:QE X a fk) (h2:QE X b fv):QE X (.Dict [some a] [b] pos) (Hn fk fv):=.mk <| PE.imp (U4 (SE (DZ h1).un (DZ h2).un S5) rfl rfl (by simp) (by simp)) λτ H Q ⟨L,Y,M,d,M',c,rs,hf,q⟩ p hp=>by
 erw[Hn]at hf;cbv at hf
 .rename_i k M1 e1;cbv at hf
  .rename_i v M2 e2;cbv at hf
   .rename_i kk e3 e4;ext hf;let⟨c0,s0⟩:=c.pushO (m:=.dict []) hp ⟨[],CY,rfl⟩;refine ⟨L++[p],Y,_,_,_,c0,rs.stp s0,e1,λL1 H1 x st1 c1 r1=>⟨L1,Y,M1,_,_,c1,(rs.stp s0).stp st1,e2,λL2 H2 y st2 c2 r2=>?_⟩⟩;let st:=(s0.trans st1).trans st2;let hx:=Ig r1 e4;let lp:L2[M.length]?=some p:=by
     let⟨N,hN⟩:=(st1.trans st2).pre;rw[hN,<-c.len];simp
    let⟨vs,ev,dv⟩:=c2.obj _ p _ lp e3;erw[AS]at dv;subst dv;calc ⟨ev,[(kk,y)],by rw[hx];rfl,by simp,?_⟩;let⟨c3,s3⟩:=c2.put (m:=.dict [(k,v)]) lp ev (λ_ z=>by ext z) (λ_ _ z=>by ext z) λs3=>⟨_,CY,kk,y,[],rfl,e4,r2.stp s3,rfl⟩;calc q _ _ _ (st.trans s3) c3 ?_;erw[zR,Rep];exact ⟨p,rfl,lp⟩
   .cases hf
  .cases hf
 .cases hf
def EW (M:Mem):EV->Option (List D)
 |.fl xs=>some xs
 |.dat (.ref n)=>match M[n]? with
  |some (.lst xs)=>some xs
  |_=>none
 |_=>none
def LN {K:Yb} {L:Yg} {M:Mem} {H H0:Hp} {x:EV} {v:V} {xs:List D} (c:Cor K L M H) (r:zR H0 L H x v) (h:EW M x=some xs):∃ a vs,v=.ref a/\H a=some (.lst vs)/\zG L H xs vs:=by
 cases x with
 |fl ys=>
  ext h;let⟨p,vs,rfl,_,e,_,r⟩:=r;calc ⟨p,vs,rfl,e,r⟩
 |dat d=>
  cases d with
  |ref n=>
   erw[zR,Rep]at r;let⟨a,rfl,e⟩:=r;erw[EW]at h;dsimp only at h;cbv at h
   .rename_i ys q;ext h;let⟨vs,e1,r1⟩:=c.obj n a _ e q;exact ⟨a,vs,rfl,e1,r1⟩
   .cases h
  |_=>ext h
def EH:K2:=λx y M=>match EW M x,EW M y with
 |some xs,some ys=>if xs.length+ys.length<=sizeLine then some (.fl (xs++ys),M) else none
 |_,_=>none
def Sq {K:Yb}:BG K QH EH:=by
 intro L M M' H H0 x y d v w Q c rx ry hk q;erw[EH]at hk;cbv at hk
 .rename_i xs ys e1 e2;cbv at hk
  .rename_i hz;ext hk;let⟨l,vs,rfl,h1,r1⟩:=LN c rx e1;let⟨l2,ws,rfl,h2,r2⟩:=LN c ry e2;refine ⟨l,l2,vs,ws,rfl,rfl,h1,h2,by rw[r1.length,r2.length];exact hz,λp hp=>?_⟩;exact q L _ _ (.upd hp) (c.upd hp) (zR.newLst (.refl L H) c c hp (r1.app r2))
  .cases hk
 .cases hk
def i9 (h1:QE X a f) (h2:QE X b g):QE X (.BinOp a .Add b pos) (fOp EH f g):=E9 Sq Wu h1 h2
end
end L3
namespace LR
open PySem.Sem (wp)
def N2:mroOf (.type "reversed")=pure [.type "reversed", .type "object"]:=by rw[mroOf_type];kernel_rfl
def ZQ:typeLookup (.type "reversed") "__new__" = pure (some (.builtin "reversed.__new__")):=by rw[Dt,Dj];kernel_rfl
def Kc:Manifest.owners.lookup (String.ofList ['d','e','s','r','e','v','e','r'].reverse)=some Manifest.sig_reversed:=by kernel_rfl
def XQ:Slot "reversed" "__init__" "object.__init__" := .of (owner := "object") (n := "__init__") (by rw[Dt,Dj];kernel_rfl) (by decide+kernel) (by decide+kernel) (by decide+kernel) (by first|exact .inl (by decide+kernel)|calc .inr (by decide+kernel)) (by rw[D2];kernel_rfl)
def IT:Slot "reversed" "__next__" "reversed.__next__" := .of (owner := "reversed") (n := "__next__") (by rw[Dt,Dj];kernel_rfl) (by decide+kernel) (by decide+kernel) (by decide+kernel) (by first|exact .inl (by decide+kernel)|calc .inr (by decide+kernel)) (by rw[D2];kernel_rfl)
def Pn:Slot "reversed" "__iter__" "reversed.__iter__" := .of (owner := "reversed") (n := "__iter__") (by rw[Dt,Dj];kernel_rfl) (by decide+kernel) (by decide+kernel) (by decide+kernel) (by first|exact .inl (by decide+kernel)|calc .inr (by decide+kernel)) (by rw[D2];kernel_rfl)
def MN:Slot "reversed" "__length_hint__" "reversed.__length_hint__" := .of (owner := "reversed") (n := "__length_hint__") (by rw[Dt,Dj];kernel_rfl) (by decide+kernel) (by decide+kernel) (by decide+kernel) (by first|exact .inl (by decide+kernel)|calc .inr (by decide+kernel)) (by rw[D2];kernel_rfl)
def Li:typeLookup (.type "reversed") "__len__" = pure none:=by rw[Dt,Dj];kernel_rfl
def Sx:typeLookup (.type "tuple") "__reversed__" = pure none:=by rw[Dt,Dj];kernel_rfl
def Qd (a:Value):argsOk "reversed.__next__" ⟨[a],[]⟩:=by
 erw[argsOk];rw[signature?_of (n:=['_','_','t','x','e','n','_','_']) (by kernel_rfl) Kc];kernel_rfl
def Zx (a:Value):argsOk "reversed.__iter__" ⟨[a],[]⟩:=by
 erw[argsOk];rw[signature?_of (n:=['_','_','r','e','t','i','_','_']) (by kernel_rfl) Kc];kernel_rfl
def bJ (a:Value):argsOk "reversed.__length_hint__" ⟨[a],[]⟩:=by
 erw[argsOk];rw[signature?_of (n:=['_','_','t','n','i','h','_','h','t','g','n','e','l','_','_']) (by kernel_rfl) Kc];kernel_rfl
def Le:TypeCalled "reversed" "reversed.__new__" "object.__init__" :=
 ⟨by decide+kernel,by decide+kernel,⟨_,_,N2⟩,madeBy_type N2 ZQ (by decide+kernel),by decide+kernel,by rw[D2];kernel_rfl,XQ⟩
def dM (a:Value):checkTypeCall "reversed" ⟨[a],[]⟩=pure Unit.unit:=by kernel_rfl
def Sm (a:Value):checkBuiltinCall "reversed.__new__" ⟨[.type "reversed", a],[]⟩=pure Unit.unit:=by kernel_rfl
def Vx:entryFor table "reversed.__new__" = some Builtin.«reversed.__new__»:=entryFor_of_tree (by kernel_rfl)
def N4:entryFor table "reversed.__next__" = some Builtin.«reversed.__next__»:=entryFor_of_tree (by kernel_rfl)
def jJ:entryFor table "reversed.__length_hint__" = some Builtin.«reversed.__length_hint__»:=entryFor_of_tree (by kernel_rfl)
def VA:entryFor table "reversed.__iter__" = some Builtin.«dict_keyiterator.__iter__» :=
 entryFor_alias (id' := "dict_keyiterator.__iter__") (by kernel_rfl) (by first|rfl|decide+kernel|(erw[String.splitOn];simp +decide [String.splitOnAux])) (by decide+kernel) (by kernel_rfl)
def T5:bootBuiltins "reversed" = some (.type "reversed"):=by rfl
open PySem.Sem (wp)
open AutoSeq1 (wpAny_loadPart')
def iP:isSubtype (.type "tuple") (.type "dict")=pure false:=by rw[D2];kernel_rfl
def CK (t:Addr) (i:Int):Obj:={ cls:=.type "reversed", data:=.fields #[.ref t,rawInt i] }
def dZ (t:Addr) (items:Array Value):Meets (Builtin.«reversed.__new__» ⟨[.type "reversed", .ref t],[]⟩) (λ_ R s=>IsTup s.heap t items/\items.size<=sizeLine /\ ∀ tk,R (.ok (.ret (.ref ⇑s))) { s with heap:=s.heap.push (CK t (items.size-1)),toks:=tk }) :=
 .of_wp λprog w A R s h=>by
  let⟨ht,hz,h⟩:=h;let hT:=ht.typeIs;let hsub:=Le.sub;let hsz:(items.size:Int)<2 ^ 63:=by have:=(show sizeLine<=1000000000 by decide);omega
  wp_walk using Co hT,wpAny_specialOf hT Sx;calc DQ iP ?_;try dsimp only
  rw[AE ()];calc AA (wpAny_specialOf hT Dy.lookup ?_);try dsimp only
  rw[AD ()];calc AB ?_;try dsimp only
  rw[AE ()];calc AA (len_tuple ht () ?_);calc AA (DQ rfl ?_);wp_walk;calc ⟨_,rfl,h _⟩
section
variable {s:Yl}
def Zv {t:Yt} {items:Yp} {Q:Yc} (ht:IsTup s.heap t items) (hz:items.size<=sizeLine) (h:∀ tk,Q (.ref ⇑s) { s with heap:=s.heap.push (CK t (items.size-1)),toks:=tk }) :
  wpAny (model prog w) A (call (.type "reversed") [.ref t]) Q E s :=
 callType_new Le () (dM _) (Sm _) (λobj=>F.args_object_init_2 obj _) Vx (dZ t items) ⟨ht,hz,λtk=>⟨⟨_,AL _ rfl,rfl⟩,h tk⟩⟩
def EU {I t:Addr} {i:Int} (h:s.heap.get? I=some (CK t i)):s.TypeIs (.ref I) "reversed" := ⟨_,h,rfl⟩
def Qt {I t:Yt} {i:Int} {Q:Yc} (hI:s.heap.get? I=some (CK t i)) (h:Q (.ref I) s):wpAny (model prog w) A (pyIter (.ref I)) Q E s:=by
 calc wpAny_pyIter_slot (EU hI) Pn (BI Pn (EU hI) VA ?_ (Zx _));calc AB ⟨_,rfl, "reversed", _,EU hI,IT.lookup,h⟩
def Mj {I t:Yt} {i:Nat} {items:Yp} {x:Yu} {Q:Option Value->Shared->Prop} (hI:s.heap.get? I=some (CK t i)) (ht:IsTup s.heap t items) (hz:items.size<=sizeLine) (hx:items[i]?=some x) (hne:t≠I)
  (hQ:∀ h' tk,h'.get? I=some (CK t (i-1))->Heap.SameBut I s.heap h'->s.toks<=tk->Q (some x) { s with heap:=h',toks:=tk }):wpAny (model prog w) A (pyNext (.ref I)) Q E s:=by
 let hT:=EU hI;let hlt:i<items.size:=by
  rcases Nat.lt_or_ge i items.size with z|z
  .exact z
  .rw[Array.getElem?_eq_none z]at hx;ext hx
 let hsz:(items.size:Int)<2 ^ 63:=by have:=(show sizeLine<=1000000000 by decide);omega
 erw[pyNext];calc AA (CN (CA hT IT (BI IT hT N4 ?_ (Qd _))));show wpAny _ _ (field (.ref I) 0 >>= _) _ _ s;calc AA (Ad hI rfl rfl ?_);calc AA (Ad hI rfl rfl ?_);show wpAny _ _ (if (i:Int)<0 then _ else _) _ _ s;rw[AE ()];calc AA (wpAny_specialOf ht.typeIs Dy.lookup ?_);rw[AE ()];calc AA (wpAny_mkInt ?_);let hj:seqIndex? (i:Int) items.size=some i:=by erw[seqIndex?];simp;omega
 calc AA (CN (getItem_tuple ht () () hj hx ?_));calc AA (Ad hI rfl rfl ?_);calc AA (C8 hI rfl (by simp) (AB ⟨x,rfl,AB (hQ _ _ ?_ (CZ ..) (CQ _))⟩));calc (Cu _ hI (Fh (Cr rfl _))).trans (by simp[Obj.mapFields,CK,rawInt])
def KZ {I t:Yt} {Q:Option Value->Shared->Prop} (hh:A.handled=none) (hI:s.heap.get? I=some (CK t (-1))) (hQ:∀ h',Heap.ExtBut I s.heap h'->Q none { s with heap:=h' }):wpAny (model prog w) A (pyNext (.ref I)) Q E s:=by
 let hT:=EU hI;erw[pyNext];calc AA (CN (CA hT IT (BI IT hT N4 ?_ (Qd _))));show wpAny _ _ (field (.ref I) 0 >>= _) _ _ s;calc AA (Ad hI rfl rfl ?_);calc AA (Ad hI rfl rfl ?_);show wpAny _ _ (if (-1:Int)<0 then _ else _) _ _ s;rw[AD ()];calc AA (BX (AA ?_));calc AA (C8 hI rfl (by simp) ?_);let e1:=Cu (Obj.mapFields λvs=>vs.set! 1 (rawInt (-1))) hI (Fh (Cr rfl _));calc C8 e1 (Cr rfl _) (by simp) ?_;calc AA ?_;erw[Builtin.SmallTypes.stopIteration];calc AA ?_;simp only[newExc,newTuple];calc AA (A9 (AA (DQ (by first|rfl|(simp only[firstArgMember];rfl)) (A9 ?_ (by size_fits)))) (by size_fits));simp only[raiseNew];calc AA (wpAny_handled ?_);rw[show A.in1.handled=none from hh];calc AA (AB (wpAny_throw ?_));calc AA (Eb ⟨_,AL _ rfl,rfl⟩ isSubtype_stop (AB ?_));calc hQ _ ((((CZ ..).trans (CZ ..)).extBut.push _).push _)
end
def Ws {prog:Ym} {w:Yo} {A:Yn} (hh:A.handled=none) (I t:Yt) (hne:t≠I) (items:Yp) (hz:items.size<=sizeLine) :
  Walks prog w A I [I,t] [I] items.size (λi v=>items[items.size-1-i]?=some v) (λi h=>h.get? I=some (CK t ((items.size:Int)-1-(i:Nat)))/\IsTup h t items) where
 sub:=λb hb=>by simp at hb;simp[hb]
 frame:=λ_ _ _ st hk=>⟨hk I (by simp) _ st.1,let ⟨o,ho,r⟩:=st.2;⟨o,hk t (by simp) o ho,r⟩⟩;item:=λi s Q E hi st hQ=>by
  let e:(items.size:Int)-1-(i:Nat)=((items.size-1-i:Nat):Int):=()
  let hI:=st.1;rw[e]at hI;refine Mj hI st.2 hz (x:=items[items.size-1-i]) (by simp) hne λh' tk hI' hs' _=>?_;refine hQ _ h' tk (by simp) ⟨?_,st.2.extBut hs'.extBut hne⟩ λb o hb ee=>hs'.extBut b o (λh=>hb (by simp[h])) ee;rw[hI'];congr 2;push_cast;omega
 done:=λs Q E st hQ=>KZ hh (by rw[st.1];congr 2;omega) λh' he'=>hQ h' s.toks λb o hb ee=>he' b o (λh=>hb (by simp[h])) ee;self:=λ_ _ _ _ st hQ=>Qt st.1 hQ
def bM {I t:Yt} {i:Nat} {items:Yp} {Q:Yc} (hI:s.heap.get? I=some (CK t ((i:Int)-1))) (ht:IsTup s.heap t items) (hz:items.size<=sizeLine) (hi:i<=items.size)
  (h:∀ u tk,s.toks<=tk->Q (.int i u) { s with toks:=tk }):wpAny (model prog w) A (call (.builtin "reversed.__length_hint__") [.ref I]) Q E s:=by
 let hT:=EU hI;let hsz:(items.size:Int)<2 ^ 63:=by have:=(show sizeLine<=1000000000 by decide);omega
 calc BI MN hT jJ ?_ (bJ _);show wpAny _ _ (field (.ref I) 0 >>= _) _ _ s;calc AA (Ad hI rfl (x:=.ref t) rfl ?_);rw[AE (show ¬ ((Value.ref t==Value.none)=true) by calc Au)];calc AA (len_tuple ht () ?_);calc AA (DQ rfl ?_);calc AA (Ad hI rfl rfl ?_);show wpAny _ _ (if (items.size:Int)<(i:Int)-1+1 then _ else _) _ _ _;rw[AE (),show (i:Int)-1+1=i by omega];calc AA (wpAny_mkInt (AB ⟨_,rfl,h _ _ (by show s.toks<=s.toks+1+1+1;omega)⟩))
def UR:isSubtype (.type "reversed") (.type "reversed")=pure true:=Le.sub
def gH {I t:Yt} {items:Yp} {Q:Bool->Shared->Prop} (hI:s.heap.get? I=some (CK t ((items.size:Int)-1))) (ht:IsTup s.heap t items) (hz:items.size<=sizeLine) (h0:0<items.size)
  (h:∀ tk,s.toks<=tk->Q true { s with toks:=tk }):wpAny (model prog w) A (Builtin.List.listLengthHint (.ref I)) Q E s:=by
 let hT:=EU hI;erw[Builtin.List.listLengthHint];calc AA (wpAny_specialOf hT Li ?_);calc AA (wpAny_specialOf hT MN.lookup ?_);let hsp:splitId "reversed.__length_hint__" = some ("reversed", "__length_hint__"):=by decide+kernel
 dsimp only;rw[hsp];refine AA (Eb hT UR ?_);rw[AE (),AE (by decide+kernel)];refine AA (BX (AA (DQ (MN.bind _) ?_)));refine AA (CN (bM hI ht hz (AF _) λu tk htk=>?_));dsimp only;let hsz:=(show sizeLine<=1000000000 by decide);let e9:∀ n:Int,asInt? (.int n u)=pure (some n):=λ_=>rfl;rw[e9];generalize hN:(items.size:Int)=N;refine AA (AB ?_);dsimp only;let f1:Builtin.List.listFitsIndex N=true:=by
  erw[Builtin.List.listFitsIndex];rw[BE,B4,B4];constructor <;> omega
 let f2:Builtin.List.listTooLong N.toNat=false:=by
  erw[Builtin.List.listTooLong];rw[decide_eq_false_iff_not,<-hN,Bc];exact Nat.not_lt.mpr hz
 rw[f1,f2,AE (),AE (),AE ()];calc AB ?_;rw[show (N != 0)=true by simp;omega];calc h tk htk
def Vk {I t:Yt} {items:Yp} {Q:List Value->Shared->Prop} (hh:A.handled=none) (hI:s.heap.get? I=some (CK t ((items.size:Int)-1))) (ht:IsTup s.heap t items) (hne:t≠I) (hz:items.size<=sizeLine) (h0:0<items.size)
  (hQ:∀ (s':Yl) (acc:Yp),Moved [I] (λa b=>b=a) s s'->ItemsOf (λi v=>items[items.size-1-i]?=some v) acc items.size->Q acc.toList s'):wpAny (model prog w) A (collect (.ref I)) Q E s:=by
 let hItl:I<⇑s:=AI hI;let htl:t<⇑s:=by let⟨o,ho,_⟩:=ht;exact AI ho
 let hSI:⇑s≠I:=λe=>BN _ (e▸hItl);let hSf:⇑s∉[I,t]:=λhm=>by
  rcases AJ.mp hm with e|e
  .exact hSI e
  .exact BN _ (Ae.mp e▸htl)
 let W:=(Ws (prog:=prog) (w:=w) (A:=A.in1) hh I t hne items hz).toS;erw[collect];calc AA (wpAny_runValue (Cb F.entry_proto_collect ?_));rw[DK F.plain_proto_collect _];calc AA (A9 (AB ⟨ED F.plain_list_iadd _,Cb F.entry_list_iadd ?_⟩));rw[DK F.plain_list_iadd _];generalize hH:s.heap.push { cls:=.type "list", data:=.seq ([]:List Value).toArray }=H;let hI1:H.get? I=some (CK t ((items.size:Int)-1)):=by rw[<-hH];exact AH _ hI
 let ht1:IsTup H t items:=by rw[<-hH];exact ht.push _
 let hS1:H.get? ⇑s=some { cls:=.type "list", data:=.seq ([]:List Value).toArray }:=by rw[<-hH];exact AL _ rfl
 show wpAny _ A.in1 (Builtin.List.listExtendWith (.ref ⇑s) (.ref I) (.ref ⇑s)) _ _ { s with heap:=H };erw[Builtin.List.listExtendWith];calc AA (Co (EU hI1) ?_);let h1:Builtin.List.listSameRef (.ref ⇑s) (.ref I)=false:=by simp[Builtin.List.listSameRef,hSI]
 let h2:(Value.type "reversed" == Value.type "list")=false:=()
 let h3:(Value.type "reversed" == Value.type "tuple")=false:=()
 simp only[h1,h2,h3,Bool.or_false,CL,B6];refine AA (Qt hI1 ?_);refine AA (BQ (gH hI1 ht1 hz h0 λtk htk=>?_));rw[AD (by rw[Bool.true_or])];refine AA (BX (AA ?_));refine AA (wpAny_updateSeq hS1 rfl ?_);let hS2:=Cu (Obj.mapSeq (·.push Value.none)) hS1 rfl;refine wpAny_updateSeq hS2 rfl ?_;let hS3:=Cu (Obj.mapSeq (·.pop)) hS2 rfl;generalize hH3:(H.update ⇑s (Obj.mapSeq (·.push Value.none))).update ⇑s (Obj.mapSeq (·.pop))=H3 at hS3;let oth:∀ b o,b≠⇑s->H.get? b=some o->H3.get? b=some o:=λb o hb e=>by
  rw[<-hH3];exact (Cz _ _ (Ne.symm hb)).trans ((Cz _ _ (Ne.symm hb)).trans e)
 let hI3:=oth I _ (Ne.symm hSI) hI1;let hI4:H3.get? I=some (CK t ((items.size:Int)-1-((0:Nat):Int))):=by rw[hI3];congr 2;omega
 let ht3:IsTup H3 t items:=by let⟨o,ho,r⟩:=ht1;exact ⟨o,oth t o (λe=>BN _ (e▸htl)) ho,r⟩
 refine AB ⟨ED F.plain_extend_loop _,codeAny_extend_loopS W hz _ hSf _ items.size 0 { s with heap:=H3,toks:=tk } _ _ rfl (BK _) ⟨hI4,ht3⟩ hS3 (ItemsOf.nil _) λs' acc' c' hm hS' hacc=>?_⟩;refine AA (wpAny_load hS' (AB (hQ s' acc' ⟨λb o hb e=>hm.heap b o (λq=>?_) (oth b o (λz=>BN _ (z▸AI e)) (by rw[<-hH];calc AH _ e)),hm.gens,hm.drawn,hm.os,Ao htk hm.toks⟩ hacc)));rcases AJ.mp q with z|z
 .exact BN _ (z▸AI e)
 .exact hb z
open PySem.Sem (wp)
open AutoSeq1 (wpAny_loadPart')
def ZE (hh:A.handled=none) (hI:s.heap.get? I=some (CK t ((items.size:Int)-1))) (ht:IsTup s.heap t items) (hne:t≠I) (hz:items.size<=sizeLine) (h0:0<items.size)
  (h:∀ (s':Shared) (acc:Array Value),Moved [I] (λa b=>b=a) s s'->ItemsOf (λi v=>items[items.size-1-i]?=some v) acc items.size->Q₁ (.ref ⇑s') { s' with heap:=s'.heap.push { cls:=.type "tuple", data:=.seq acc } }) :
  codeAny (model prog w) A (.call (.builtin "tuple.__new__") ⟨[.type "tuple", .ref I],[]⟩) (wants Q₁ E) s:=by
 calc codeAny_of_tree ?_;show wpAny _ A.in1 (do checkBuiltinCall "tuple.__new__" ⟨[.type "tuple", .ref I],[]⟩;again (.builtin "tuple.__new__" ⟨[.type "tuple", .ref I],[]⟩)) _ _ s;calc AA (DQ (F.newCall_tuple_1 _) (AB ⟨ED F.plain_tuple_new _,Cb F.entry_tuple_new ?_⟩));rw[DK F.plain_tuple_new _];let hsub:=sub_tuple_self;let hinit:=init_tuple_lookup;let hmh:=madeHere_tuple;let hTI:=EU hI;wp_walk using Co hTI,Vk (A:=A.in1) hh hI ht hne hz h0;intro s' acc hm hacc;show wpAny _ _ (Builtin.Tuple.tupleExact acc.toList.toArray >>= λv=>ret v) _ _ _;erw[Builtin.Tuple.tupleExact];let e:acc.toList.toArray=acc:=by simp
 rw[e];calc AA (A9 (AB (h s' acc hm hacc)) (by show acc.size<=sizeLine;rw[hacc.1];calc hz))
def iM (hh:A.handled=none) (hI:s.heap.get? I=some (CK t ((items.size:Int)-1))) (ht:IsTup s.heap t items) (hne:t≠I) (hz:items.size<=sizeLine) (h0:0<items.size)
  (h:∀ (s':Shared) (acc:Array Value),Moved [I] (λa b=>b=a) s s'->ItemsOf (λi v=>items[items.size-1-i]?=some v) acc items.size->Q (.ref ⇑s') { s' with heap:=s'.heap.push { cls:=.type "tuple", data:=.seq acc } }) :
  wpAny (model prog w) A (call (.type "tuple") [.ref I]) Q E s:=by
 refine callType_codes (Q₁:=λobj s₁=>s₁.TypeIs obj "tuple" /\ Q obj s₁) F.called_tuple (F.typeCall_tuple_1 _) F.entry_object_init (ZE hh hI ht hne hz h0 λs' acc hm hacc=>⟨⟨_,AL _ rfl,rfl⟩,h s' acc hm hacc⟩) λobj s₁ h₁=>?_;calc ⟨h₁.1,F.args_object_init_2 obj _,object_init_meets F.called_tuple.init.lookup F.called_tuple.made () prog w A.in1 _ s₁ ⟨h₁.1,rfl,h₁.2⟩⟩
end LR
namespace L3
open L2
def Wh {its:Yf} {acc:Yp} (h:ItemsOf (λi v=>its.toArray[its.toArray.size-1-i]?=some v) acc its.toArray.size):acc.toList=its.reverse:=by
 let⟨hz,hi⟩:=h;apply Fg;intro i;by_cases q:i<its.length
 .have hl:i<acc.size:=by rw[hz];simpa using q
  let e:=hi i acc[i] (by simp[hl]);rw[Bo,DC hl,List.getElem?_reverse q];simpa using e.symm
 .rw[D0 (by simp at hz ⊢;omega),D0 (by simp;omega)]
def eN (K:Yb) (te:TE):TE:=λY H Q=>te Y H λx H1=>∃ a xs,x=.ref a/\SqT K H1 a xs/\0<xs.length /\ ∀ q,H1 q=none->Q (.ref q) (upd H1 q (.tup xs.reverse))
def Uy (hc:X.calm=true) (hgT:Gl X "tuple") (hmT:X.mg "tuple" = none) (hgR:Gl X "reversed") (hmR:X.mg "reversed" = none) (ha:PE X e te)
  (hs:starEach [e] X.env=(false,eval e X.env)::starEach [] X.env:=by rfl) (hpl:(backTo pos2 (starEach [] X.env)).any (·.1)=false:=by rfl)
  (hs':starEach [.Call (.Name "reversed" p2) [e] [] pos2] X.env=(false,eval (.Call (.Name "reversed" p2) [e] [] pos2) X.env)::starEach [] X.env:=by rfl) (hpl':(backTo pos (starEach [] X.env)).any (·.1)=false:=by rfl) :
  PE X (.Call (.Name "tuple" p) [.Call (.Name "reversed" p2) [e] [] pos2] [] pos) (eN X.K te):=by
 intro zB s Y H Q I h;calc ER (Ce I hgT hmT (by rfl) ?_ () ());calc callWith_type1 ?_ hs' hpl';rw[hs'];calc E6 ?_;calc ER (Ce I hgR hmR LR.T5 ?_ () ());let ha':PE X e te:=ha;calc callWith_type1 ?_ hs hpl;rw[hs];refine E6 (thn (ha zB s Y H _ I h) λu s1 ⟨x,H1,I1,r1,q⟩=>Fi ?_);let⟨a,xs,rfl,hx,h0,q⟩:=q;ext r1;let⟨its,rv,ht,hz⟩:=I1.tuple hx;let hz':its.toArray.size<=sizeLine:=by rw[AO,<-rv.length];exact hz
 let h0':0<its.toArray.size:=by rw[AO,<-rv.length];exact h0
 refine LR.Zv ht hz' λtk=>Fi ?_;let I2:Inv X zB Y H1 { s1 with heap:=s1.heap.push (LR.CK a (its.toArray.size-1)),toks:=tk }:=I1.kept λb o e=>AH _ e;let hal:a<⇑s1:=by let⟨o,ho,_⟩:=ht;exact AI ho
 let hne:a≠⇑s1:=Ah hal;let fp:Bq X zB H1 ⇑s1:=I1.fpOk (AF _) (I1.hok.fresh (AF _));let⟨f0,f1,f2,f3,f4,f5⟩:=fp;refine LR.iM (I2.ok.hd hc) (AL _ rfl) (ht.push _) hne hz' h0' λs' acc hm hacc=>?_;let I3:Inv X zB Y H1 { s1 with heap:=s'.heap,toks:=s'.toks }:=I1.turned (λb o hb e=>hm.heap b o (~~~hb) (AH _ e)) f0 f1 f3 f4 f5;let es':s'={ s1 with heap:=s'.heap,toks:=s'.toks }:=by
  let⟨h',g',d',tk',os'⟩:=s';let e1:=hm.gens;let e2:=hm.drawn;let e3:=hm.os;dsimp only at e1 e2 e3 ⊢;rw[e1,e2,e3]
 let hf:H1 ⇑s'=none:=I3.hok.fresh (AF _);rw[es'];refine ⟨.ref ⇑s',upd H1 ⇑s' (.tup xs.reverse),I3.laid (λb u e=>AH _ e) (AF _) ?_,rfl,q _ hf⟩;calc ⟨by rw[List.length_reverse];calc hz,acc.toList,by rw[Wh hacc];calc rv.reverse,⟨_,AL _ rfl,rfl,⟨0,by show Data.seq acc 0=Data.seq acc.toList.toArray 0;rw[Array.toArray_toList]⟩,rfl⟩⟩
def FU (f:FE):FE:=λY M=>match f Y M with
 |some (.dat (.tup xs),M1)=>if 0<xs.length then some (.dat (.tup xs.reverse),M1) else none
 |_=>none
theorem NV:∀ {xs ys:List D} {vs ws:List V},zG L H xs vs->zG L H ys ws->zG L H (xs++ys) (vs++ws)
 |[],ys,vs,ws,r,s=>by erw[zG]at r;subst r;calc s
 |x::xs,ys,vs,ws,r,s=>by
  erw[zG]at r;let⟨v,r',rfl,r1,r2⟩:=r;calc .cons r1 (NV r2 s)
theorem Kb:∀ {xs:List D} {vs:List V},zG L H xs vs->zG L H xs.reverse vs.reverse
 |[],vs,r=>by erw[zG]at r;subst r;calc .nil
 |x::xs,vs,r=>by
  erw[zG]at r;let⟨v,r',rfl,r1,r2⟩:=r;rw[List.reverse_cons,List.reverse_cons];calc NV (Kb r2) (.cons r1 .nil)
def aK (hc:X.calm=true) (hgT:Gl X "tuple") (hmT:X.mg "tuple" = none) (hgR:Gl X "reversed") (hmR:X.mg "reversed" = none) (h1:QE X e f)
  (hs:starEach [e] X.env=(false,eval e X.env)::starEach [] X.env:=by rfl) (hpl:(backTo pos2 (starEach [] X.env)).any (·.1)=false:=by rfl)
  (hs':starEach [.Call (.Name "reversed" p2) [e] [] pos2] X.env=(false,eval (.Call (.Name "reversed" p2) [e] [] pos2) X.env)::starEach [] X.env:=by rfl) (hpl':(backTo pos (starEach [] X.env)).any (·.1)=false:=by rfl) :
  QE X (.Call (.Name "tuple" p) [.Call (.Name "reversed" p2) [e] [] pos2] [] pos) (FU f) :=
 .mk <| PE.imp (Uy hc hgT hmT hgR hmR h1.un hs hpl hs' hpl') λτ H Q zz=>by
  let⟨L,Y,M,d,M',c,rs,hf,q⟩:=zz;erw[FU]at hf;cbv at hf
  .rename_i xs M1 e1;cbv at hf
   .rename_i h0;ext hf;refine ⟨L,Y,M,_,_,c,rs,e1,λL1 H1 v s1 c1 r1=>?_⟩;let⟨a,ws,rfl,e2,r2⟩:=Dx r1 rfl;refine ⟨a,ws,rfl,.of e2,by rw[r2.length];exact h0,λp hp=>?_⟩;exact q L1 _ _ (s1.trans (.upd hp)) (c1.upd hp) (Rep.newTup hp (Kb r2))
   .cases hf
  .cases hf
def DS:List D->Option (List Int)
 |[]=>some []
 |.int i::r=>match DS r with
  |some bs=>some (i::bs)
  |none=>none
 |_=>none
theorem Hi:∀ {ds:List D} {bs:Ye} {vs:List V},DS ds=some bs->zG L H ds vs->vs=bs.map V.int
 |[],bs,vs,e,r=>by ext e;erw[zG]at r;calc r
 |d::ds,bs,vs,e,r=>by
  erw[zG]at r;let⟨v,r',rfl,r1,r2⟩:=r;cases d with
  |int k=>
   erw[DS]at e;cases q:DS ds with
   |none=>rw[q]at e;ext e
   |some bs'=>
    rw[q]at e;ext e;erw[Rep]at r1;rw[r1,Hi q r2];rfl
  |_=>ext e
theorem HA:∀ xs:List Int,DS (xs.map D.int)=some xs
 |[]=>rfl
 |x::r=>by rw[Ag];erw[DS];rw[HA r]
def V4 (xs:Ye):(xs.map V.int).all Ei=true:=by
 rw[Ap];intro x hx;let⟨i,_,rfl⟩:=AU.mp hx;rfl
def UU (i:Int) (xs:Ye):inV (.int i) (xs.map V.int)=xs.any λy=>decide (y=i):=by
 erw[inV];rw[List.any_map];congr 1
def kIn (neg:Bool):K2:=λx y M=>match x with
 |.dat (.int i)=>match zr M y with
  |some ds=>match DS ds with
   |some xs=>some (.dat (.bl (if neg then !(xs.any λy=>decide (y=i)) else xs.any λy=>decide (y=i))),M)
   |none=>none
  |none=>none
 |_=>none
def Lu {K:Yb} {neg:Bool}:BG K (rIn K neg) (kIn neg):=by
 intro L M M' H H0 x y d v w Q cc rx ry hk q;erw[kIn]at hk;cbv at hk
 .rename_i i;cbv at hk
  .rename_i ds e1;cbv at hk
   .rename_i xs e2;ext hk;let ev:v=.int i:=by erw[zR,Rep]at rx;exact rx
    let⟨p,vs,rfl,hs,r⟩:=FR cc ry e1;have:=Hi e2 r;subst this;calc ⟨p,_,rfl,hs,by rw[ev];rfl,V4 xs,?_⟩;rw[ev,UU];exact q L H _ (.refl L H) cc (CP (L:=L) (H:=H))
   .cases hk
  .cases hk
 .cases hk
def bI (h1:QE X a f) (h2:QE X b g) (hm:behindInMarks .In b=false:=by rfl):QE X (.Compare a [.In] [b] pos) (fOp (kIn false) f g):=JJ Lu OL h1 h2 hm
def UD (h1:QE X a f) (h2:QE X b g) (hm:behindInMarks .In b=false:=by rfl):QT X (.Compare a [.In] [b] pos) (tst (fOp (kIn false) f g)):=Ed Lu OL h1 h2 hm
def WA (h1:QE X a f) (h2:QE X b g) (hm:behindInMarks .NotIn b=false:=by rfl):QT X (.Compare a [.NotIn] [b] pos) (tst (fOp (kIn true) f g)):=Ed Lu fZ h1 h2 hm
end L3
end
namespace ST
open PySem
abbrev Up (xs:Array Nat):Prop:=xs.toList.Pairwise (· < ·)
def Up.get (h:Up xs) (hik:i<k) (hk:k<xs.size):xs[i]'()<xs[k]:=by
 have:=List.pairwise_iff_getElem.mp h i k (by simpa using (show i<xs.size by omega)) (~~~hk) hik;simpa using this
theorem Mq (h:Up xs) (j:Nat):∀ (fuel lo hi:Nat),lo<=hi->hi<=xs.size->hi-lo<=fuel->(∀ i (hi':i<xs.size),i<lo->xs[i]<j)->(∀ i (hi':i<xs.size),hi<=i->j<=xs[i]) ->
  (SetTable.below.go xs j fuel lo hi<=xs.size)/\(∀ i (hi':i<xs.size),i<SetTable.below.go xs j fuel lo hi->xs[i]<j)/\(∀ i (hi':i<xs.size),SetTable.below.go xs j fuel lo hi<=i->j<=xs[i])
 |0,lo,hi,h1,h2,h3,a,b=>by
  have:lo=hi:=()
  subst this;erw[SetTable.below.go];calc ⟨h2,a,b⟩
 |fuel+1,lo,hi,h1,h2,h3,a,b=>by
  erw[SetTable.below.go];by_cases hl:lo<hi
  .rw[AD hl];dsimp only;let hm:(lo+hi) / 2<xs.size:=()
   let eg:xs.getD ((lo+hi) / 2) j=xs[(lo+hi) / 2]:=by simp[Array.getD,hm]
   rw[eg];by_cases hc:xs[(lo+hi) / 2]<j
   .rw[AD hc];refine Mq h j fuel _ _ () h2 () (λi hi' hlt=>?_) b;rcases Nat.lt_or_ge i ((lo+hi) / 2)with z|z
    .exact Nat.lt_trans (h.get z hm) hc
    .have:i=(lo+hi) / 2:=()
     subst this;exact hc
   .rw[AE hc];refine Mq h j fuel _ _ () () () a (λi hi' hge=>?_);rcases Nat.lt_or_ge ((lo+hi) / 2) i with z|z
    .have:=h.get z hi';omega
    .have:i=(lo+hi) / 2:=()
     subst this;omega
  .rw[AE hl];have:lo=hi:=()
   subst this;calc ⟨h2,a,b⟩
def Jx (h:Up xs) (j:Nat):SetTable.below xs j<=xs.size/\(∀ i (hi':i<xs.size),i<SetTable.below xs j->xs[i]<j)/\(∀ i (hi':i<xs.size),SetTable.below xs j<=i->j<=xs[i]):=by
 erw[SetTable.below];calc Mq h j xs.size 0 xs.size (BK _) (AF _) () (λi _ z=>()) (λi hi' z=>())
def gB (h:Up xs):SetTable.below xs 0=0:=by
 let⟨a,b,c⟩:=Jx h 0;rcases Nat.eq_zero_or_pos (SetTable.below xs 0)with z|z
 .exact z
 .have:=b 0 () z;omega
def Xe (h:Up xs) (hk:k<xs.size):SetTable.below xs (xs[k]+1)=k+1:=by
 let⟨a,b,c⟩:=Jx h (xs[k]+1);rcases Nat.lt_trichotomy (SetTable.below xs (xs[k]+1)) (k+1)with z|z|z
 .have:=c k hk ();omega
 .exact z
 .have h1:k+1<xs.size:=()
  have:=b (k+1) h1 z;have:=h.get (show k<k+1 by omega) h1;omega
def ZJ {α:Type} (xs:Array α) (p:Nat) (x:α):(SetTable.insertAt xs p x).toList=xs.toList.take p++x::xs.toList.drop p:=by
  erw[SetTable.insertAt];simp;have:xs.toList.length<=xs.size:=by simp
  rw[E8 (by simp)]
def YQ (h : Up xs) (hj : j ∉ xs.toList) : Up (SetTable.insertAt xs (SetTable.below xs j) j) := by
  obtain ⟨a, b, c⟩ := Jx h j;unfold Up;rw [ZJ];rw [List.pairwise_append];have hT : ∀ x ∈ xs.toList.take (SetTable.below xs j), x < j := fun x hx => by
    let⟨i,hi,e⟩:=EY hx;rw[List.getElem_take]at e;rw[Bg]at hi
    have h1 : i < xs.size := by have : xs.toList.length = xs.size := by simp
                                omega
    have:=b i h1 ();rw[<-e];simpa using this
  have hD : ∀ x ∈ xs.toList.drop (SetTable.below xs j), j < x := fun x hx => by
    let⟨i,hi,e⟩:=EY hx;rw[List.getElem_drop]at e;rw[Dh]at hi
    have h1 : SetTable.below xs j + i < xs.size := by have : xs.toList.length = xs.size := by simp
                                                      omega
    let h2:=c _ h1 ();let h3:x≠j:=λz=>hj (z▸List.mem_of_mem_drop hx);let e':xs[SetTable.below xs j+i]=x:=by simpa using e
    omega
  refine ⟨h.sublist (List.take_sublist _ _),DA.mpr ⟨hD,h.sublist (List.drop_sublist _ _)⟩,λx hx y hy=>?_⟩;rcases AJ.mp hy with z|z
  .rw[z];exact hT x hx
  .exact Nat.lt_trans (hT x hx) (hD y z)
def OO (j:Nat):SetTable.has #[] j=false:=by
 erw[SetTable.has];simp
def Tp {t:SetTable} (h:Up t.place) (he:t.slot j=.empty):j∉t.place.toList:=λhm=>by
 let⟨a,b,c⟩:=Jx h j;let⟨k,hk,e⟩:=EY hm;let hk':k<t.place.size:=by simpa using hk
 let e':t.place[k]=j:=by simpa using e
 let eb:SetTable.below t.place j=k:=by
  rcases Nat.lt_trichotomy (SetTable.below t.place j) k with z|z|z
  .have h1:SetTable.below t.place j<t.place.size:=()
   have:=c _ h1 (AF _);have:=h.get z hk';omega
  .exact z
  .have:=b k hk' z;omega
 erw[SetTable.slot]at he;rw[eb,AD (by simp[hk',e'])]at he;ext he
theorem N3 (hd:t.dummies = #[]):∀ (fuel:Nat) (p:SetTable.Probe) {j:Nat} {d:Option Nat},p.dummy=none->SetTable.probe.go t hashAt h fuel p=some (.empty j d)->d=none/\t.slot j=.empty
 |0,_,_,_,_,e=>by erw[SetTable.probe.go]at e;ext e
 |fuel+1,p,j,d,hp,e=>by
  erw[SetTable.probe.go]at e;cbv at e
  .rename_i hs;ext e;exact ⟨hp,hs⟩
  .rename_i hs;erw[SetTable.slot]at hs;dsimp only at hs;rw[hd,OO]at hs;split at hs <;> first|cases hs|simp at hs
  .split at e
   .cases e
   .refine N3 hd fuel _ ?_ e;erw[SetTable.advance];split <;> simp[hp]
def Uc {t:SetTable} (hu:Up t.place) (hd:t.dummies = #[]) (e:t.freeSlot h=some (j,b)):b=false/\j∉t.place.toList:=by
 erw[SetTable.freeSlot]at e;cbv at e
 .rename_i j' d hp;erw[SetTable.probe]at hp;let⟨h1,h2⟩:=N3 hd _ _ (by rfl) hp;subst h1;simp at e;let⟨rfl,rfl⟩:=e;exact ⟨rfl,Tp hu h2⟩
 .cases e
structure TabOk (w:Yo) (t:SetTable):Prop where
 led:t.led = !w.params.followText "set-order"
 up:Up t.place
 nod:t.dummies = #[]
def YA (n:Nat):Up (Array.range n):=by
 erw[Up];rw[Array.toList_range];calc List.pairwise_lt_range
def TabOk.standIn (h:TabOk w t) (n:Nat):TabOk w (t.standIn n):=⟨h.led,YA n,rfl⟩
def TabOk.orStandIn (h:TabOk w t) (n:Nat):TabOk w (t.orStandIn n):=by
 erw[SetTable.orStandIn];split
 .exact h
 .exact h.standIn n
def TabOk.put (h:TabOk w t) (hj:j∉t.place.toList):TabOk w (t.put j).1:=by
 erw[SetTable.put];calc ⟨h.led,YQ h.up hj,?_⟩;rw[h.nod,OO];rfl
theorem TabOk.layNew (h:TabOk w t) (es:Yw) (hh:Int) (x:Yu):TabOk w (layNew t es hh x).2.1:=by
 erw[PySem.layNew];split
 .rename_i j b e;exact (h.put (Uc h.up h.nod e).2).orStandIn _
 .exact h.standIn _
def TabOk.relaid (h:TabOk w t) (e:t.relaid hs wanted=some (t',order)):TabOk w t':=by
 erw[SetTable.relaid,SetTable.laid]at e;cases q:SetTable.layClean (SetTable.sizeAbove wanted-1) hs with
 |none=>rw[q]at e;ext e
 |some owner=>
  rw[q]at e;simp only[Option.bind_eq_bind,Option.bind_some,Option.pure_def,Option.some.injEq,Prod.mk.injEq]at e;let⟨rfl,_⟩:=e;calc ⟨h.led,?_,rfl⟩;erw[Up];rw[List.pairwise_map,List.pairwise_filterMap];refine List.pairwise_lt_range.imp λ{a b} hab x hx y hy=>?_;cases o1:owner.getD a none with
  |none=>rw[o1]at hx;ext hx
  |some u=>
   cases o2:owner.getD b none with
   |none=>rw[o2]at hy;ext hy
   |some v=>
    rw[o1]at hx;rw[o2]at hy;ext hx;ext hy;calc hab
theorem TabOk.relayAll (h:TabOk w t) (es:Yw) (wanted:Nat):TabOk w (relayAll t es wanted).2.1:=by
 erw[PySem.relayAll];split
 .rename_i t' order e;dsimp only;split
  .exact h.relaid e
  .exact h.standIn _
 .exact h.standIn _
theorem TabOk.plain (h:TabOk w t) (b:Bool):TabOk w { t with plain:=b }:=⟨h.led,h.up,h.nod⟩
def TabOk.fresh:TabOk w (SetTable.fresh 0 0 (!w.params.followText "set-order")):=⟨rfl,List.Pairwise.nil,rfl⟩
open Sem (wp)
set_option genInjectivity true in
inductive F2 {α β:Type} (R:α->β->Prop):List α->List β->Prop
 |nil:F2 R [] []
 |cons {x y xs ys}:R x y->F2 R xs ys->F2 R (x::xs) (y::ys)
section
variable [DecidableEq K]
def Mc (knd:KeyKind prog w K) (e:Int × Value) (k:K):Prop:=(knd.is k e.2=true/\e.1=knd.hash k)/\e.2.scannable=true
structure SetK (knd:KeyKind prog w K) (o:Obj) (es:Yw) (ep:Nat) (t:SetTable) (ks:List K):Prop where
 ex:o.ExactSet
 data:o.data=.set es ep t
 tab:TabOk w t
 fits:t.fits es.size=true
 bound:es.size<scanBound
 ent:∃ ks',ks'.Perm ks/\F2 (Mc knd) es.toList ks'
def ins (ks:List K) (k:K):List K:=if k∈ks then ks else ks++[k]
variable {knd:KeyKind prog w K}
theorem Jj {α β:Type} {R:α->β->Prop}:∀ {xs:List α} {ys:List β},F2 R xs ys->xs.length=ys.length
 |_,_,.nil=>rfl
 |_,_,.cons _ h=>by simp[Jj h]
theorem LC {α β:Type} {R:α->β->Prop}:∀ {xs:List α} {ys:List β},F2 R xs ys -> ∀ x∈xs,∃ y∈ys,R x y
 |_,_,.nil,x,hx=>by ext hx
 |_,_,.cons h r,x,hx=>by
  rcases AJ.mp hx with z|z
  .subst z;exact ⟨_,Ax,h⟩
  .obtain ⟨y,hy,q⟩:=LC r x z;calc ⟨y,BF _ hy,q⟩
theorem Nk {α β:Type} {R:α->β->Prop}:∀ {xs:List α} {ys:List β},F2 R xs ys -> ∀ y∈ys,∃ x∈xs,R x y
 |_,_,.nil,x,hx=>by ext hx
 |_,_,.cons h r,x,hx=>by
  rcases AJ.mp hx with z|z
  .subst z;exact ⟨_,Ax,h⟩
  .obtain ⟨y,hy,q⟩:=Nk r x z;calc ⟨y,BF _ hy,q⟩
theorem RU {α β:Type} {R:α->β->Prop}:∀ {xs:List α} {ys:List β} {us:List α} {vs:List β},F2 R xs ys->F2 R us vs->F2 R (xs++us) (ys++vs)
 |_,_,_,_,.nil,h=>h
 |_,_,_,_,.cons h r,q=> .cons h (RU r q)
def P5 {α β:Type} {R:α->β->Prop} {xs xs':List α} (p:xs'.Perm xs):∀ {ys:List β},F2 R xs ys -> ∃ ys',ys'.Perm ys/\F2 R xs' ys':=by
 let p':=p.symm;clear p;induction p' with
 |nil=>intro ys h;calc ⟨ys,.refl _,h⟩
 |cons x _ ih=>
  intro ys h;cases h with
  |cons h r=>
   let⟨ys',q1,q2⟩:=ih r;calc ⟨_,q1.cons _,.cons h q2⟩
 |swap x y l=>
  intro ys h;cases h with
  |cons h r=>
   cases r with
   |cons h2 r=>
    calc ⟨_,List.Perm.swap _ _ _,.cons h2 (.cons h r)⟩
 |trans _ _ ih1 ih2=>
  intro ys h;let⟨ys',q1,q2⟩:=ih1 h;let⟨ys'',r1,r2⟩:=ih2 q2;calc ⟨ys'',r1.trans q1,r2⟩
def SetK.size (h:SetK knd o es ep t ks):es.size=ks.length:=by
 let⟨ks',p,f⟩:=h.ent;rw[<-p.length_eq,<-Jj f,BU]
def SetK.elems (h:SetK knd o es ep t ks):ElemsOf knd es.toList:=λe he=>by
 let⟨ks',p,f⟩:=h.ent;let⟨k,_,q⟩:=LC f e he;calc ⟨⟨k,q.1⟩,q.2⟩
def SetK.mem (h:SetK knd o es ep t ks) (k:K):k∈ks ↔ ∃ e∈es.toList,knd.is k e.2=true:=by
 let⟨ks',p,f⟩:=h.ent;rw[<-p.mem_iff];constructor
 .intro hk;let⟨e,he,q⟩:=Nk f k hk;exact ⟨e,he,q.1.1⟩
 .rintro ⟨e,he,q⟩;let⟨k',hk',q'⟩:=LC f e he;rw[knd.inj e.2 k k' q q'.1.1];calc hk'
variable {s:Yl}
def SetK.typeIs (h:SetK knd o es ep t ks) (ho:s.heap.get? a=some o):s.TypeIs (.ref a) "set" := ⟨o,ho,h.ex.1⟩
def Nm {h:Heap} (ho:h.get? a=some o) (hd:o.data=.set es ep t) :
  (h.update a (Obj.putSet es' t')).get? a=some { o with data:=.set es' (ep+1) t' }:=by
 have:=Cu (Obj.putSet es' t') ho (by rw[putSet_of es' t' hd];rfl);rw[putSet_of es' t' hd]at this;calc this
def Uk {Q:Bool->Shared->Prop} (hkey:knd.is k x=true) (hsc:x.scannable=true) (ho:s.heap.get? a=some o) (hS:SetK knd o es ep t ks) (hroom:ks.length+1<scanBound)
  (h:∀ h' o' es' ep' t' b,Heap.SameBut a s.heap h'->h'.get? a=some o'->SetK knd o' es' ep' t' (ins ks k)->Q b { s with heap:=h' }) :
  wpAny (model prog w) A (setAddHashed a x (knd.hash k)) Q E s:=by
 let hd:=hS.data;let hf:=hS.fits;let hel:=hS.elems;let hb:=hS.bound;let hb1:es.size+1<scanBound:=by rw[hS.size];exact hroom
 erw[setAddHashed,setAddHashedIn];calc BQ (AA (wpAny_setState_of ho hd hf ?_));dsimp only;rw[byScan_of hsc hb hel];simp only[↓reduceIte];erw[setAddByScan];calc AA ?_;calc AA (BX ?_);calc AA (wpAny_setScan_of hkey ho hd hf hel ?_);cases hr:List.findIdx? (λe=>knd.is k e.2) es.toList with
 |some j=>
  let⟨hj,hpj,_⟩:=List.findIdx?_eq_some_iff_getElem.mp hr;let hSk:k∈ks:=(hS.mem k).mpr ⟨es.toList[j],Bd hj,hpj⟩;calc AB (AB ?_);let e:s={ s with heap:=s.heap }:=by ext s;rfl
  rw[e];calc h s.heap o es ep t _ (Heap.SameBut.refl a s.heap) ho ?_;erw[ins];rw[AD hSk];calc hS
 |none=>
  let hSk:k∉ks:=λhk=>by
   let⟨e,he,hp⟩:=(hS.mem k).mp hk;have:=List.findIdx?_eq_none_iff.mp hr e he;rw[hp]at this;exact Bool.noConfusion this
  let hgw:∀ (b:Bool) {s₁:Shared} {Q':Unit->Shared->Prop},Q' Unit.unit s₁->wpAny (model prog w) A (match b with|true=>rule "set.scan.the-table-gave-way" |false=>pure Unit.unit) Q' E s₁ :=
   λb s₁ Q' hq=>by cases b <;> first|exact AB hq|exact BX hq
  let hperm:=layNew_perm t es (knd.hash k) x;let hfits:=layNew_fits t es (knd.hash k) x;let htab:=hS.tab.layNew es (knd.hash k) x;generalize hL:layNew t es (knd.hash k) x=L at hperm hfits htab ⊢;let⟨es1,t1,wasDummy,gave⟩:=L;rw[Array.toList_push]at hperm;let hb1':es1.size<scanBound:=by rw[<-BU,hperm.length_eq,AV,BU];simpa using hb1
  let⟨ks',p,f⟩:=hS.ent;let f1:F2 (Mc knd) (es.toList++[(knd.hash k,x)]) (ks'++[k]):=RU f (.cons ⟨⟨hkey,rfl⟩,hsc⟩ .nil);let⟨ks1,p1,f2⟩:=P5 hperm f1;let pI:ks1.Perm (ins ks k):=by
   erw[ins];rw[AE hSk];exact p1.trans (p.append_right _)
  refine AA (hgw _ ?_)
  let tail:∀ t2:SetTable,TabOk w t2->t2.fits es1.size=true->wpAny (model prog w) A (do
    storeSet a es1 t2
    if (!wasDummy&&t2.tooFull)=true then do
      (match (relayAll t2 es1 (SetTable.grown es1.size)).2.2 with|true=>rule "set.scan.the-table-gave-way" |false=>pure Unit.unit)
      storeSet a (relayAll t2 es1 (SetTable.grown es1.size)).1 (relayAll t2 es1 (SetTable.grown es1.size)).2.1;pure (some true)
     else pure (some true)) (λr s'=>wpAny (model prog w) A (match r with|some added=>pure added|none=>setAddHashedIn a x (knd.hash k) 99999) Q E s') E s:=by
   intro t2 T2 F2;calc AA (wpAny_storeSet_of ho hd ?_ (fits_of_scanBound hb1'));let g1:=Nm (es':=es1) (t':=t2) ho hd;let sb1:=CZ s.heap a (Obj.putSet es1 t2);let S1:SetK knd { o with data:=.set es1 (ep+1) t2 } es1 (ep+1) t2 (ins ks k):=⟨hS.ex,rfl,T2,F2,hb1',ks1,pI,f2⟩;split
   .have hp:=relayAll_perm t2 es1 (SetTable.grown es1.size);let hfr:=relayAll_fits t2 es1 (SetTable.grown es1.size);let htr:=T2.relayAll es1 (SetTable.grown es1.size);generalize hRl:relayAll t2 es1 (SetTable.grown es1.size)=Rl at hp hfr htr ⊢;let⟨es2,t3,gave2⟩:=Rl;let hsz:es2.size=es1.size:=by rw[<-BU,hp.length_eq,BU]
    let hb2:es2.size<scanBound:=by rw[hsz];exact hb1'
    let⟨ks2,p2,f3⟩:=P5 hp f2;calc AA (hgw _ ?_);calc AA (wpAny_storeSet_of g1 rfl ?_ (fits_of_scanBound hb2));let g2:=Nm (es':=es2) (t':=t3) g1 rfl;exact AB (AB (h _ _ _ _ _ _ (sb1.trans (CZ _ a _)) g2 ⟨hS.ex,rfl,htr,hfr,hb2,ks2,p2.trans pI,f3⟩))
   .exact AB (AB (h _ _ _ _ _ _ sb1 g1 S1))
  split
  .refine AA ?_;rw[hashByValue_scannable 8 hsc];refine AB ?_;refine tail _ ?_ ?_
   .split
    .exact htab
    .exact htab.plain _
   .split
    .exact hfits
    .exact SetTable.fits_plain_off hfits
  .refine AA (AB ?_);simp only[↓reduceIte];calc tail _ htab hfits
def zt (w:World):Obj:={ cls:=.type "set", dict:=none,data:=.set #[] 0 (.fresh 0 0 (!w.params.followText "set-order")) }
def SetK.fresh:SetK knd (zt w) #[] 0 (.fresh 0 0 (!w.params.followText "set-order")) []:=⟨⟨rfl,rfl,rfl⟩,rfl,.fresh,by rfl,(),[],.refl _,.nil⟩
end
open PySem.Spec PyProof.Rows
open Sem (wp)
def Nf:Manifest.owners.lookup (String.ofList ['r','o','t','a','r','e','t','i','_','t','e','s'].reverse)=some Manifest.sig_set_iterator:=by kernel_rfl
def EB:Slot "set_iterator" "__next__" "set_iterator.__next__" := .of (owner := "set_iterator") (n := "__next__") (by rw[Dt,Dj];kernel_rfl) (by decide+kernel) (by decide+kernel) (by decide+kernel) (by first|exact .inl (by decide+kernel)|calc .inr (by decide+kernel)) (by rw[D2];kernel_rfl)
def NH:Slot "set_iterator" "__iter__" "set_iterator.__iter__" := .of (owner := "set_iterator") (n := "__iter__") (by rw[Dt,Dj];kernel_rfl) (by decide+kernel) (by decide+kernel) (by decide+kernel) (by first|exact .inl (by decide+kernel)|calc .inr (by decide+kernel)) (by rw[D2];kernel_rfl)
def Jt (a:Value):argsOk "set_iterator.__next__" ⟨[a],[]⟩:=by
 erw[argsOk];rw[signature?_of (n:=['_','_','t','x','e','n','_','_']) (by kernel_rfl) Nf];kernel_rfl
def Rp (a:Value):argsOk "set_iterator.__iter__" ⟨[a],[]⟩:=by
 erw[argsOk];rw[signature?_of (n:=['_','_','r','e','t','i','_','_']) (by kernel_rfl) Nf];kernel_rfl
def JZ:entryFor table "set_iterator.__next__" = some Builtin.«set_iterator.__next__»:=entryFor_of_tree (by kernel_rfl)
def Rv:entryFor table "set_iterator.__iter__" = some Builtin.«dict_keyiterator.__iter__» :=
 entryFor_alias (id' := "dict_keyiterator.__iter__") (by kernel_rfl) (by first|rfl|decide+kernel|(erw[String.splitOn];simp +decide [String.splitOnAux])) (by decide+kernel) (by kernel_rfl)
def bH:entryFor table "set.__iter__" = some Builtin.«frozenset.__iter__» :=
 entryFor_alias (id' := "frozenset.__iter__") (by kernel_rfl) rfl (by decide+kernel) (by kernel_rfl)
def Bj (f:Value) (i:Nat) (a:Addr) (n ep:Nat):Obj:={ cls:=.type "set_iterator", data:=.fields #[f,rawInt i,.ref a,rawInt n,rawInt ep] }
theorem LS {α:Type}:∀ {l:List α} {i:Nat} (h:i<l.length),(l[i]::l.eraseIdx i).Perm l
 |[],i,h=>by simp at h
 |x::l,0,h=>by simp
 |x::l,i+1,h=>by
  have:=LS (~~~h);rw[List.getElem_cons_succ,List.eraseIdx_cons_succ];calc (List.Perm.swap _ _ _).trans (this.cons x)
def QR {α:Type} {l:List α} (h:i<l.length) (e:n+1=l.length):n=(l.eraseIdx i).length:=by
 rw[List.length_eraseIdx,AD h];omega
theorem PD {α:Type} (next:Nat->Nat):∀ (fuel k:Nat) (left:List α) (out:Array α),fuel=left.length->(pickOrder.go next fuel k left out).toList.Perm (out.toList++left)
 |0,k,left,out,h=>by
  have:left=[]:=GC.mp h.symm;subst this;erw[pickOrder.go];simp
 |fuel+1,k,left,out,h=>by
  erw[pickOrder.go];let hl:0<left.length:=()
  let hm:next k % left.length<left.length:=Nat.mod_lt _ hl
  rw[AM hm];calc (PD next fuel (k+1) _ _ (QR hm h)).trans ?_;rw[Array.toList_push,CI];calc (LS hm).append_left _
def Oc {α:Type} (next:Nat->Nat) (xs:Array α):(pickOrder next xs).toList.Perm xs.toList:=by
 erw[pickOrder];simpa using PD next xs.size 0 xs.toList #[] (by simp)
section
variable {s:Yl}
def YZ (h0:n≠0) (h:∀ r d,r<n->Q r { s with drawn:=d }):wpAny (model prog w) A (choose src n) Q E s :=
 λΓ p hΓ=>⟨h0,h _ _ (Nat.mod_lt _ ())⟩
theorem O8 {α:Type}:∀ (n:Nat) (xs:List α) {s:Yl} {Q:List α->Shared->Prop},n=xs.length->(∀ ys d,ys.Perm xs->Q ys { s with drawn:=d })->wpAny (model prog w) A (drawOrder n xs) Q E s
 |0,xs,s,Q,h,q=>by
  have:xs=[]:=GC.mp h.symm;subst this;let e:s={ s with drawn:=s.drawn }:=by ext s;rfl
  rw[e];calc AB (q [] s.drawn (.refl _))
 |n+1,[],s,Q,h,q=>by ext h
 |n+1,x::xs,s,Q,h,q=>by
  erw[drawOrder];refine AA (YZ (by simp) λr d hr=>?_);rw[AM hr];refine AA (O8 n _ (QR hr h) λys d' hp=>AB ?_);calc q _ d' ((hp.cons _).trans (LS hr))
variable {K:Type} [DecidableEq K] {ks:List K}
def Fs (h:s.heap.get? I=some (Bj f i a n ep)):s.TypeIs (.ref I) "set_iterator" := ⟨_,h,rfl⟩
def PY (hI:s.heap.get? I=some (Bj f i a n ep)) (h:Q (.ref I) s):wpAny (model prog w) A (pyIter (.ref I)) Q E s:=by
 calc wpAny_pyIter_slot (Fs hI) NH (BI NH (Fs hI) Rv ?_ (Rp _));calc AB ⟨_,rfl, "set_iterator", _,Fs hI,EB.lookup,h⟩
structure Nexts (prog:Ym) (w:Yo) (o:Obj) (a:Yt) (ep:Nat) (n:Nat) (at_:Nat->Nat) (ord:Yf):Prop where
 len:ord.length=n
 nx:∀ (A:Yn) (E:Yc) (i:Nat) (s:Yl) (Q:Option (Value × Nat)->Shared->Prop),i<=n->s.heap.get? a=some o->Q ((ord[i]?).map λx=>(x,at_ (i+1))) s->wpAny (model prog w) A (setNext a (at_ i) i ep) Q E s
def Mj (N:Nexts prog w o a ep ks.length at_ ord) (hS:SetK knd o es ep t ks) (hI:s.heap.get? I=some (Bj (rawInt (at_ i)) i a ks.length ep)) (ho:s.heap.get? a=some o)
  (hx:ord[i]?=some x) (hQ:∀ h',h'.get? I=some (Bj (rawInt (at_ (i+1))) (i+1) a ks.length ep)->Heap.SameBut I s.heap h'->Q (some x) { s with heap:=h' }):wpAny (model prog w) A (pyNext (.ref I)) Q E s:=by
 let hT:=Fs hI;let hi:i<ks.length:=by have:=(AK.mp hx).1;rw[N.len]at this;exact this
 erw[pyNext];calc AA (CN (CA hT EB (BI EB hT JZ ?_ (Jt _))));unfold Builtin.«set_iterator.__next__» slotArgs;simp only[List.isEmpty_nil,Bool.not_true,CL,↓reduceIte,DY,bne_self_eq_false,pure_bind,bind_assoc];calc AA (wpAny_fieldsOf hI rfl ?_);dsimp only[rawInt];calc AA (wpAny_setEntries_of ho hS.data hS.fits ?_);rw[AE (by rw[hS.size];simp)];calc AA (N.nx _ _ i s _ () ho ?_);rw[hx];dsimp only[Option.map];calc AA (C8 hI rfl (by simp) ?_);let e1:=Cu (Obj.mapFields λvs=>vs.set! 0 (rawInt (at_ (i+1)))) hI (Fh (Cr rfl _));calc AA (C8 e1 (Cr rfl _) (by simp) ?_);let e2:=Cu (Obj.mapFields λvs=>vs.set! 1 (rawInt ((i:Int)+1))) e1 (Fh (Cr (Cr rfl _) _));calc AB ⟨x,rfl,AB (hQ _ ?_ ((CZ ..).trans (CZ ..)))⟩;calc e2.trans ?_;simp[Obj.mapFields,Bj,rawInt]
end
open Sem (wp)
section
variable {K:Type} [DecidableEq K] {knd:KeyKind prog w K}
def KZ (hh:A.handled=none) (N:Nexts prog w o a ep ks.length at_ ord) (hS:SetK knd o es ep t ks) (hI:s.heap.get? I=some (Bj (rawInt (at_ ks.length)) ks.length a ks.length ep)) (ho:s.heap.get? a=some o)
  (hQ:∀ h',Heap.ExtBut I s.heap h'->Q none { s with heap:=h' }):wpAny (model prog w) A (pyNext (.ref I)) Q E s:=by
 let hT:=Fs hI;erw[pyNext];calc AA (CN (CA hT EB (BI EB hT JZ ?_ (Jt _))));unfold Builtin.«set_iterator.__next__» slotArgs;simp only[List.isEmpty_nil,Bool.not_true,CL,↓reduceIte,DY,bne_self_eq_false,pure_bind,bind_assoc];calc AA (wpAny_fieldsOf hI rfl ?_);dsimp only[rawInt];calc AA (wpAny_setEntries_of ho hS.data hS.fits ?_);rw[AE (by rw[hS.size];simp)];calc AA (N.nx _ _ ks.length s _ (AF _) ho ?_);rw[D0 (by rw[N.len];calc AF _)];dsimp only[Option.map];calc AA (C8 hI rfl (by simp) ?_);simp only[newExc,newTuple,bind_assoc,pure_bind];calc AA (A9 (AA (DQ (by first|rfl|(simp only[firstArgMember];rfl)) (AA (A9 ?_ (by size_fits))))) (by size_fits));simp only[raiseNew];calc AA (wpAny_handled ?_);rw[show A.in1.handled=none from hh];calc AA (AB (wpAny_throw ?_));calc AA (Eb ⟨_,AL _ rfl,rfl⟩ isSubtype_stop (AB ?_));calc hQ _ (((CZ ..).extBut.push _).push _)
def Sz (hh:A.handled=none) (hne:a≠I) (N:Nexts prog w o a ep ks.length at_ ord) (hS:SetK knd o es ep t ks) :
  Walks prog w A I [I,a] [I] ks.length (λi v=>ord[i]?=some v) (λi h=>h.get? I=some (Bj (rawInt (at_ i)) i a ks.length ep)/\h.get? a=some o) where
 sub:=λb hb=>by simp at hb;simp[hb]
 frame:=λ_ _ _ st hk=>⟨hk I (by simp) _ st.1,hk a (by simp) _ st.2⟩;item:=λi s Q E hi st hQ=>by
  let hx:ord[i]?=some (ord[i]'(by rw[N.len];calc hi)):=AM _;refine Mj N hS st.1 st.2 hx λh' hI' hs'=>?_;exact hQ _ h' s.toks hx ⟨hI',hs'.extBut a o hne st.2⟩ λb u hb ee=>hs'.extBut b u (λh=>hb (by simp[h])) ee
 done:=λs Q E st hQ=>KZ hh N hS st.1 st.2 λh' he'=>hQ h' s.toks λb u hb ee=>he' b u (λh=>hb (by simp[h])) ee;self:=λ_ _ _ _ st hQ=>PY st.1 hQ
def iC {pl:Yj} (hS:SetK knd o es ep t ks) (hl:pl.length=ks.length) (hI:s.heap.get? I=some (Bj (.ref T) i a ks.length ep)) (ho:s.heap.get? a=some o)
  (hT:IsTup s.heap T (pl.map λ(k:Nat)=>rawInt k).toArray)
  (hx:(pl[i]?).bind (λk=>(es[k]?).map (·.2))=some x) (hQ:∀ h',h'.get? I=some (Bj (.ref T) (i+1) a ks.length ep)->Heap.SameBut I s.heap h'->Q (some x) { s with heap:=h' }):wpAny (model prog w) A (pyNext (.ref I)) Q E s:=by
 let hTy:=Fs hI;let⟨oT,hoT,hcT,nT,hdT⟩:=id hT;cases hp:pl[i]? with
 |none=>rw[hp]at hx;ext hx
 |some k=>
  rw[hp]at hx;cases he:es[k]? with
  |none=>simp only[Option.bind_some]at hx;rw[he]at hx;ext hx
  |some e=>
   simp only[Option.bind_some]at hx;rw[he]at hx;ext hx;erw[pyNext];calc AA (CN (CA hTy EB (BI EB hTy JZ ?_ (Jt _))));unfold Builtin.«set_iterator.__next__» slotArgs;simp only[List.isEmpty_nil,Bool.not_true,CL,↓reduceIte,DY,bne_self_eq_false,pure_bind,bind_assoc];calc AA (wpAny_fieldsOf hI rfl ?_);dsimp only[rawInt];calc AA (wpAny_setEntries_of ho hS.data hS.fits ?_);rw[AE (by rw[hS.size];simp)];calc AA (CH hoT hdT ?_);dsimp only;let e5:(List.map (λ(k:Nat)=>rawInt k) pl).toArray[(i:Int).toNat]?=some (rawInt k):=by simp[hp]
   rw[e5];dsimp only[rawInt];erw[setNextDrawn];simp only[bind_assoc];calc AA (wpAny_setState_of ho hS.data hS.fits ?_);rw[AE (by simp)];let e6:es[(k:Int).toNat]?=some e:=by simpa using he
   rw[e6];let⟨e1,e2⟩:=e;simp only[pure_bind];calc AA (C8 hI rfl (by simp) ?_);calc AB ⟨e2,rfl,AB (hQ _ ?_ (CZ ..))⟩;calc (Cu _ hI (Fh (Cr rfl _))).trans ?_;simp[Obj.mapFields,Bj,rawInt]
def Ug {pl:Yj} (hh:A.handled=none) (hS:SetK knd o es ep t ks) (hl:pl.length=ks.length) (hI:s.heap.get? I=some (Bj (.ref T) ks.length a ks.length ep)) (ho:s.heap.get? a=some o)
  (hT:IsTup s.heap T (pl.map λ(k:Nat)=>rawInt k).toArray) (hQ:∀ h',Heap.ExtBut I s.heap h'->Q none { s with heap:=h' }):wpAny (model prog w) A (pyNext (.ref I)) Q E s:=by
 let hTy:=Fs hI;let⟨oT,hoT,hcT,nT,hdT⟩:=id hT;erw[pyNext];calc AA (CN (CA hTy EB (BI EB hTy JZ ?_ (Jt _))));unfold Builtin.«set_iterator.__next__» slotArgs;simp only[List.isEmpty_nil,Bool.not_true,CL,↓reduceIte,DY,bne_self_eq_false,pure_bind,bind_assoc];calc AA (wpAny_fieldsOf hI rfl ?_);dsimp only[rawInt];calc AA (wpAny_setEntries_of ho hS.data hS.fits ?_);rw[AE (by rw[hS.size];simp)];calc AA (CH hoT hdT ?_);dsimp only;let e5:(List.map (λ(k:Nat)=>rawInt k) pl).toArray[(ks.length:Int).toNat]?=none:=by simp[hl]
 rw[e5];dsimp only[rawInt];calc AA (C8 hI rfl (by simp) ?_);let e1:=Cu (Obj.mapFields λvs=>vs.set! 0 (rawInt 0)) hI (Fh (Cr rfl _));calc AA (C8 e1 (Cr rfl _) (by simp) ?_);simp only[newExc,newTuple,bind_assoc,pure_bind];calc AA (A9 (AA (DQ (by first|rfl|(simp only[firstArgMember];rfl)) (AA (A9 ?_ (by size_fits))))) (by size_fits));simp only[raiseNew];calc AA (wpAny_handled ?_);rw[show A.in1.handled=none from hh];calc AA (AB (wpAny_throw ?_));calc AA (Eb ⟨_,AL _ rfl,rfl⟩ isSubtype_stop (AB ?_));calc hQ _ ((((CZ ..).trans (CZ ..)).extBut.push _).push _)
def XN {pl:Yj} (hh:A.handled=none) (hne:a≠I) (hneT:T≠I) (hS:SetK knd o es ep t ks) (hl:pl.length=ks.length) (hb:∀ k∈pl,k<es.size) :
  Walks prog w A I [I,a,T] [I] ks.length (λi v=>(pl[i]?).bind (λk=>(es[k]?).map (·.2))=some v) (λi h=>h.get? I=some (Bj (.ref T) i a ks.length ep)/\h.get? a=some o/\IsTup h T (pl.map λ(k:Nat)=>rawInt k).toArray) where
 sub:=λb hb=>by simp at hb;simp[hb]
 frame:=λ_ _ _ st hk=>⟨hk I (by simp) _ st.1,hk a (by simp) _ st.2.1,let ⟨oT,ho,r⟩:=st.2.2;⟨oT,hk T (by simp) oT ho,r⟩⟩;item:=λi s Q E hi st hQ=>by
  let hi':i<pl.length:=by rw[hl];exact hi
  let hk:pl[i]<es.size:=hb _ (Bd hi');let hx:(pl[i]?).bind (λk=>(es[k]?).map (·.2))=some (es[pl[i]].2):=by
   rw[AM hi'];simp[hk]
  refine iC hS hl st.1 st.2.1 st.2.2 hx λh' hI' hs'=>?_;exact hQ _ h' s.toks hx ⟨hI',hs'.extBut a o hne st.2.1,st.2.2.extBut hs'.extBut hneT⟩ λb u hb ee=>hs'.extBut b u (λh=>hb (by simp[h])) ee
 done:=λs Q E st hQ=>Ug hh hS hl st.1 st.2.1 st.2.2 λh' he'=>hQ h' s.toks λb u hb ee=>he' b u (λh=>hb (by simp[h])) ee;self:=λ_ _ _ _ st hQ=>PY st.1 hQ
end
open Sem (wp)
def Tw {prog:Ym} {w:Yo} {A:Yn} {I:Yt} {fp wr:Yg} {n:Nat} {P P':Nat->Value->Prop} {St:Nat->Heap->Prop} (W:Walks prog w A I fp wr n P St) (h:∀ i v,P i v->P' i v):Walks prog w A I fp wr n P' St where
 sub:=W.sub;frame:=W.frame;item:=λi s Q E hi st hQ=>W.item i s Q E hi st λv h' tk hP=>hQ v h' tk (h i v hP);done:=W.done;self:=W.self
section
variable {K:Type} [DecidableEq K] {knd:KeyKind prog w K}
def Je (h:Q (w.params.followText "set-order") s):wpAny (model prog w) A setsByText Q E s:=by
 erw[setsByText];calc AA (wpAny_askSetting (AB h))
def WW (hS:SetK knd o es ep t ks) (hT:w.params.followText "set-order" = true):Nexts prog w o a ep ks.length (λ_=>0) ((pickOrder (w.params.setOrder a ep) es).toList.map (·.2)) where
 len:=by rw[AG,(Oc _ es).length_eq,BU,hS.size]
 nx:=λA E i s Q hi ho hQ=>by
  erw[setNext];refine AA (wpAny_setState_of ho hS.data hS.fits ?_);refine AA (Je ?_);rw[hT,AD rfl,AE (by simp)];refine AA ?_;erw[setWalk];refine AA (wpAny_setState_of ho hS.data hS.fits ?_);refine AA (Je ?_);rw[hT,AD rfl];refine AA (wpAny_askSetting (AB ?_));refine AB ?_;let e:(Option.map (λ(e:Int × Value)=>(e.2,0)) (pickOrder (w.params.setOrder a ep) es)[i]?)=Option.map (λx=>(x,0)) ((pickOrder (w.params.setOrder a ep) es).toList.map (·.2))[i]?:=by
   rw[AW,Bo];cases (pickOrder (w.params.setOrder a ep) es)[i]? <;> rfl
  show Q (Option.map (λ(e:Int × Value)=>(e.2,0)) (pickOrder (w.params.setOrder a ep) es)[i]?) s;rw[e];calc hQ
def MD (t:SetTable):Nat->Nat
 |0=>0
 |i+1=>t.place.getD i 0+1
def SJ (h:Up t.place) (hi:i<=t.place.size):SetTable.below t.place (MD t i)=i:=by
 cases i with
 |zero=>calc gB h
 |succ i=>
  show SetTable.below t.place (t.place.getD i 0+1)=i+1;let hl:i<t.place.size:=()
  let e:t.place.getD i 0=t.place[i]:=by simp[Array.getD,hl]
  rw[e];calc Xe h hl
def iD (hS:SetK knd o es ep t ks):t.place.size=es.size:=by
 have:=hS.fits;simp only[SetTable.fits,BE,beq_iff_eq]at this;calc this.1
def gD (hS:SetK knd o es ep t ks) (hT:w.params.followText "set-order" = false) (hd:(!t.plain&&decide (es.size>1))=false):Nexts prog w o a ep ks.length (MD t) (es.toList.map (·.2)) where
 len:=by rw[AG,BU,hS.size]
 nx:=λA E i s Q hi ho hQ=>by
  let hz:=iD hS;erw[setNext];calc AA (wpAny_setState_of ho hS.data hS.fits ?_);calc AA (Je ?_);rw[hT,AE ()];show wpAny _ _ (if (!t.plain&&decide (es.size>1))=true then _ else _) _ _ _;rw[AE (by rw[hd];decide)];let hl:t.led=true:=by rw[hS.tab.led,hT];rfl
  calc AA ?_;show wpAny _ _ (if (!t.led && !es.isEmpty)=true then unsupported "set:maker-not-led" else pure Unit.unit) _ _ _;rw[AE (by rw[hl];simp)];calc AB ?_;rw[SJ hS.tab.up (by rw[hz,hS.size];calc hi)];calc AB ?_;rw[AW,Bo]at hQ;by_cases q:i<es.size
  .have q2:i<t.place.size:=by rw[hz];exact q
   rw[DC q,DC q2];rw[DC q]at hQ;let e:MD t (i+1)=t.place[i]+1:=by
    show t.place.getD i 0+1=_;simp[Array.getD,q2]
   simp only[Option.map]at hQ;rw[e]at hQ;exact hQ
  .have:i=es.size:=by rw[hS.size]at q ⊢;omega
   rw[Array.getElem?_eq_none ()]at hQ ⊢;calc hQ
def cG (ho:s.heap.get? a=some o) (hS:SetK knd o es ep t ks)
  (h:∀ (h':Heap) (d:Drawn) (I:Yt) (fp:Yg) (ord:Yf) (St:Nat->Heap->Prop),(∀ b u,s.heap.get? b=some u->h'.get? b=some u)->⇑s<=I->(∀ b∈fp,b<h'.objs.size/\(b=a\/⇑s<=b)) ->
   (∀ A:Around,A.handled=none->Walks prog w A I fp [I] ks.length (λi v=>ord[i]?=some v) St)->St 0 h'->ord.Perm (es.toList.map (·.2))->Q (.ref I) { s with heap:=h',drawn:=d }) :
  wpAny (model prog w) A (pyIter (.ref a)) Q E s:=by
 let hT:=hS.typeIs ho;let hal:a<⇑s:=AI ho;refine wpAny_pyIter_slot hT F.slot_set_iter (BI F.slot_set_iter hT bH ?_ (F.args_set_iter_1 _));unfold Builtin.«frozenset.__iter__» Builtin.Frozenset.slot0 slotArgs Builtin.Frozenset.addrOf Builtin.Frozenset.sizeOf;simp only[List.isEmpty_nil,Bool.not_true,CL,↓reduceIte,DY,bne_self_eq_false,pure_bind,bind_assoc];refine AA (wpAny_setEntries_of ho hS.data hS.fits ?_);erw[setDrawn];simp only[bind_assoc];refine AA (wpAny_setState_of ho hS.data hS.fits ?_);refine AA (Je ?_);simp only[pure_bind];let hsz:=hS.size;let plain:∀ (at_:Nat->Nat) (ord:Yf),at_ 0=0->Nexts prog w o a ep ks.length at_ ord->ord.Perm (es.toList.map (·.2))->Q (.ref ⇑s) { s with heap:=s.heap.push (Bj (rawInt 0) 0 a ks.length ep) }:=by
  intro at_ ord h0 N hp;let e:s.heap.push (Bj (rawInt 0) 0 a ks.length ep)=s.heap.push (Bj (rawInt 0) 0 a ks.length ep):=rfl
  have:=h (s.heap.push (Bj (rawInt 0) 0 a ks.length ep)) s.drawn ⇑s [⇑s,a] ord (λi h=>h.get? ⇑s=some (Bj (rawInt (at_ i)) i a ks.length ep)/\h.get? a=some o)
   (λb u e=>AH _ e) (AF _) (λb hb=>by
    rw[Bn];rcases AJ.mp hb with z|z
    .rw[z];exact ⟨DU _,.inr (AF _)⟩
    .rw[Ae.mp z];calc ⟨C7 hal,.inl rfl⟩)
   (λA hh=>Sz hh (Ah hal) N hS) ⟨by rw[h0];calc AL _ rfl,AH _ ho⟩ hp
  exact this
 let mk:∀ (s1:Yl) (f:Yu) (hv:s1.heap.get? a=some o) {Q':Fin->Shared->Prop},Q' (.done (.ret (.ref ⇑s1))) { s1 with heap:=s1.heap.push (Bj f 0 a ks.length ep) }->wpAny (model prog w) A.in1 (do
   let e <- setEpoch a;let r <- newFields "set_iterator" [f,rawInt 0,Value.ref a,rawInt es.size,rawInt e];ret r) Q' E s1:=by
  intro s1 f hv Q' hq;calc AA (wpAny_setEpoch_of hv hS.data hS.fits ?_);erw[newFields];calc AA (A9 (AB ?_));rw[hsz];exact hq
 let ty:∀ (s1:Shared) (f:Value),(∃ T' r,Shared.TypeIs { s1 with heap:=s1.heap.push (Bj f 0 a ks.length ep) } (.ref ⇑s1) T'/\typeLookup (Value.type T') (Str.ofString "__next__")=pure (some r)/\True):=λs1 f=>⟨"set_iterator", _,⟨_,AL _ rfl,rfl⟩,EB.lookup,trivial⟩;show wpAny _ _ (if (!w.params.followText "set-order" && (!t.plain&&decide (es.size>1)))=true then _ else _) _ _ _;by_cases hc:(!w.params.followText "set-order" && (!t.plain&&decide (es.size>1)))=true
 .rw[AD hc];refine AA (O8 _ _ (by simp) λpl d hp=>?_);refine AA ?_;erw[newTuple];let hpl:pl.length=ks.length:=by rw[hp.length_eq,Ep,hsz]
  refine A9 ?_ (by
   show (List.map (λ(i:Nat)=>rawInt i) pl).toArray.size<=sizeLine;rw[AO,AG,hpl,<-hsz];calc fits_of_scanBound hS.bound)
  generalize hH:s.heap.push { cls:=.type "tuple", data:=.seq (List.map (λ(i:Nat)=>rawInt i) pl).toArray }=H;let kH:∀ b u,s.heap.get? b=some u->H.get? b=some u:=λb u e=>by rw[<-hH];exact AH _ e
  let hT1:IsTup H ⇑s (pl.map λ(k:Nat)=>rawInt k).toArray:=⟨_,by rw[<-hH];calc AL _ rfl,rfl,0,rfl⟩;let szH:H.objs.size=⇑s+1:=by rw[<-hH];exact Bn ..
  let szlt:⇑s<H.objs.size:=by rw[szH];exact DU _
  let alt:a<H.objs.size:=Nat.lt_trans hal szlt;calc mk { s with heap:=H,drawn:=d } (.ref ⇑s) (kH _ _ ho) ?_;let⟨T',r,e1,e2,_⟩:=ty { s with heap:=H,drawn:=d } (.ref ⇑s);calc ⟨_,rfl,T',r,e1,e2,?_⟩;let kH2:∀ b u,s.heap.get? b=some u->(H.push (Bj (.ref ⇑s) 0 a ks.length ep)).get? b=some u:=λb u e=>AH _ (kH b u e);refine h _ d H.objs.size [H.objs.size,a,⇑s] (pl.map λk=>((es[k]?).map (·.2)).getD .none) (λi h=>h.get? H.objs.size=some (Bj (.ref ⇑s) i a ks.length ep)/\h.get? a=some o/\IsTup h ⇑s (pl.map λ(k:Nat)=>rawInt k).toArray) kH2 (by rw[szH];calc CQ _) (λb hb=>?_) (λA hh=>?_) ⟨AL _ rfl,kH2 a o ho,?_⟩ ?_
  .rw[Bn];simp only[AJ,Aw,Ay]at hb;rcases hb with z|z|z
   .rw[z];exact ⟨DU _,.inr (DV szlt)⟩
   .rw[z];exact ⟨C7 alt,.inl rfl⟩
   .rw[z];exact ⟨C7 szlt,.inr (AF _)⟩
  .have hb:∀ k∈pl,k<es.size:=λk hk=>by have:=hp.mem_iff.mp hk;simpa using this
   refine Tw (XN hh (Ah alt) (Ah szlt) hS hpl hb) λi v hv=>?_;rw[AW];cases q:pl[i]? with
   |none=>rw[q]at hv;ext hv
   |some k=>
    rw[q]at hv;simp only[Option.bind_some]at hv;rw[Option.map_some,hv];rfl
  .exact hT1.push _
  .have e:es.toList.map (·.2)=(List.range es.size).map λk=>((es[k]?).map (·.2)).getD .none:=by
    apply Fg;intro i;rw[AW,AW,Bo];by_cases q:i<es.size
    .rw[GG q,DC q];simp[q]
    .rw[Array.getElem?_eq_none (),D0 (by simp;omega)];rfl
   rw[e];exact hp.map _
 .rw[AE hc];calc mk s (rawInt 0) ho ?_;let⟨T',r,e1,e2,_⟩:=ty s (rawInt 0);calc ⟨_,rfl,T',r,e1,e2,?_⟩;cases hX:w.params.followText "set-order" with
  |true=>calc plain _ _ rfl (WW hS hX) ((Oc _ es).map _)
  |false=>
   rw[hX]at hc;calc plain _ _ rfl (gD hS hX (~~~hc)) (.refl _)
end
open Sem (wp)
section
variable {K:Type} [DecidableEq K] {knd:KeyKind prog w K}
def Ut:isSubtype (.type "set") (.type "set")=pure true:=sub_set_self
def Y6 (hT:s.TypeIs (.ref a) "set") (h:Q false s):wpAny (model prog w) A (Builtin.List.listLengthHint (.ref a)) Q E s:=by
 erw[Builtin.List.listLengthHint];calc AA (wpAny_specialOf hT F.slot_set_len.lookup ?_);let hsp:splitId "set.__len__" = some ("set", "__len__"):=by decide+kernel
 dsimp only;rw[hsp];calc AA (Eb hT Ut ?_);rw[AE (),AD (by decide+kernel)];calc AA (Co hT ?_);calc AB h
def ZD (hh:A.handled=none) (ho:s.heap.get? a=some o) (hS:SetK knd o es ep t ks)
  (hQ:∀ (s':Yl) (acc:Yf),(∀ b u,s.heap.get? b=some u->s'.heap.get? b=some u)->s'.os=s.os->s'.gens=s.gens->acc.Perm (es.toList.map (·.2))->Q acc s'):wpAny (model prog w) A (collect (.ref a)) Q E s:=by
 let hal:a<⇑s:=AI ho;let hn:ks.length<=sizeLine:=by rw[<-hS.size];exact fits_of_scanBound hS.bound
 erw[collect];calc AA (wpAny_runValue (Cb F.entry_proto_collect ?_));rw[DK F.plain_proto_collect _];calc AA (A9 (AB ⟨ED F.plain_list_iadd _,Cb F.entry_list_iadd ?_⟩));rw[DK F.plain_list_iadd _];generalize hH:s.heap.push { cls:=.type "list", data:=.seq ([]:List Value).toArray }=H;let kH:∀ b u,s.heap.get? b=some u->H.get? b=some u:=λb u e=>by rw[<-hH];exact AH _ e
 let szH:H.objs.size=⇑s+1:=by rw[<-hH];exact Bn ..
 let hL1:H.get? ⇑s=some { cls:=.type "list", data:=.seq ([]:List Value).toArray }:=by rw[<-hH];exact AL _ rfl
 let ho1:=kH a o ho;show wpAny _ A.in1 (Builtin.List.listExtendWith (.ref ⇑s) (.ref a) (.ref ⇑s)) _ _ { s with heap:=H };erw[Builtin.List.listExtendWith];let hT1:Shared.TypeIs { s with heap:=H } (.ref a) "set" := ⟨o,ho1,hS.ex.1⟩;calc AA (Co hT1 ?_);let hneL:⇑s≠a:=Ca hal;let h1:Builtin.List.listSameRef (.ref ⇑s) (.ref a)=false:=by simp[Builtin.List.listSameRef,hneL]
 let h2:(Value.type "set" == Value.type "list")=false:=()
 let h3:(Value.type "set" == Value.type "tuple")=false:=()
 simp only[h1,h2,h3,Bool.or_false,CL,B6];refine AA (cG ho1 hS λh2 d I fp ord St k2 hI2 hfp W st0 hp=>?_);let ho2:=k2 a o ho1;refine AA (BQ (Y6 ⟨o,ho2,hS.ex.1⟩ ?_));rw[AD (by decide+kernel)];refine AA (BX (AA ?_));let hL2:=k2 _ _ hL1;refine AA (wpAny_updateSeq hL2 rfl ?_);let hS2:=Cu (Obj.mapSeq (·.push Value.none)) hL2 rfl;refine wpAny_updateSeq hS2 rfl ?_;let hS3:=Cu (Obj.mapSeq (·.pop)) hS2 rfl;generalize hH3:(h2.update ⇑s (Obj.mapSeq (·.push Value.none))).update ⇑s (Obj.mapSeq (·.pop))=H3 at hS3;let oth:∀ b u,b≠⇑s->h2.get? b=some u->H3.get? b=some u:=λb u hb e=>by
  rw[<-hH3];exact (Cz _ _ (Ne.symm hb)).trans ((Cz _ _ (Ne.symm hb)).trans e)
 let hSf:⇑s∉fp:=λhm=>by
  rcases (hfp _ hm).2 with z|z
  .exact hneL z
  .have z':H.objs.size<=⇑s:=z;rw[szH]at z';exact absurd z' (Nat.not_succ_le_self _)
 let WS:=(W A.in1.in1 hh).toS;let st3:St 0 H3:=(W A.in1.in1 hh).frame 0 _ _ st0 λb hb u e=>oth b u (λz=>hSf (z▸hb)) e;let hI3:I≠⇑s:=λz=>by
  let z':H.objs.size<=I:=hI2;rw[szH,z]at z';exact absurd z' (Nat.not_succ_le_self _)
 refine AB ⟨ED F.plain_extend_loop _,codeAny_extend_loopS (WalksS.of_in1 WS) hn _ hSf _ ks.length 0 { s with heap:=H3,drawn:=d } _ _ rfl (BK _) st3 hS3 (ItemsOf.nil _) λs' acc' c' hm hS' hacc=>?_⟩;refine AA (wpAny_load hS' (AB (hQ s' _ (λb u e=>hm.heap b u (λq=>?_) (oth b u (λz=>BN _ (z▸AI e)) (k2 b u (kH b u e)))) hm.os hm.gens ?_)))
 .rcases AJ.mp q with z|z
  .exact BN _ (z▸AI e)
  .have z':H.objs.size<=I:=hI2;rw[<-Ae.mp z,szH]at z';exact BN _ (Nat.lt_trans (BC (DU _) z') (AI e))
 .have e:acc'.toList=ord:=by
   let hl:ord.length=ks.length:=by rw[hp.length_eq,AG,BU,hS.size]
   apply Fg;intro i;rw[Bo];by_cases q:i<ks.length
   .have q':i<acc'.size:=by rw[hacc.1];exact q
    rw[DC q'];exact (hacc.2 i _ (DC q')).symm
   .rw[Array.getElem?_eq_none (by rw[hacc.1];omega),D0 ()]
  rw[e];calc hp
end
end ST
section
open PySem PySem.Spec PyProof.Rows
namespace L2
open ST
abbrev TZ:=St->Hp->(List Int->Hp->Prop)->Prop
def PZ (X:Cx) (e:Expr) (t:TZ):Prop:=∀ (zB:Yd) (s:Yl) (Y:St) (H:Hp) (Q:List Int->Hp->Prop),Inv X zB Y H s->t Y H Q ->
 wpAny (model X.prog X.w) X.A (eval e X.env) (λv s'=>∃ a o es ep tb ks H',v=.ref a/\s'.heap.get? a=some o/\SetK (intKind X.prog X.w) o es ep tb ks/\Inv X zB Y H' s'/\Q ks H') X.xe s
end L2
namespace ST
open PySem.Sem (wp)
section
variable {prog:Ym} {w:Yo} {A:Yn} {E:Yc} {s:Yl}
variable {K:Type} [DecidableEq K] {knd:KeyKind prog w K}
def za (ks:List K):List K:=ks.foldl ins []
def Ls (ks:List K) (k:K):za (ks++[k])=ins (za ks) k:=by erw[za];rw[List.foldl_append];rfl
def Rx (ks:List K) (k:K):(ins ks k).length<=ks.length+1:=by erw[ins];split <;> simp
def b8 (ks:List K) (k:K):ks.length<=(ins ks k).length:=by erw[ins];split <;> simp
def Y3 (val:Nat->K) (h:i<=n):(za ((List.range i).map val)).length<=(za ((List.range n).map val)).length:=by
  induction n with
  | zero => have : i = 0 := by omega
            subst this;calc AF _
  |succ n ih=>
    by_cases q:i=n+1
    .subst q;exact AF _
    . rw[List.range_succ,Cv,show List.map val [n]=[val n]from rfl,Ls]
      calc Ao (ih ()) (b8 _ _)
def JU (ks:List K):(za ks).length<=ks.length:=by
 have:∀ (l acc:List K),(l.foldl ins acc).length<=acc.length+l.length:=by
  intro l;induction l with
  |nil=>intro acc;simp
  |cons x r ih=>intro acc;have:=ih (ins acc x);have:=Rx acc x;simp only[List.foldl_cons,C0];omega
 simpa [za] using this ks []
def VY (ks:List K) (k x:K):x∈ins ks k ↔ x∈ks\/x=k:=by
 erw[ins];split
 .rename_i h;constructor
  .exact .inl
  .rintro (z|z)
   .exact z
   .rw[z];exact h
 .simp
def J9 (ks:List K) (x:K):x∈za ks ↔ x∈ks:=by
  have:∀ (l acc:List K),x∈l.foldl ins acc ↔ x∈acc\/x∈l:=by
    intro l;induction l with
    |nil=>intro acc;simp
    |cons y r ih=>intro acc;rw[List.foldl_cons,ih,VY,AJ];simp[or_assoc]
  simpa [za] using this ks []
def WT (h : ks.Nodup) (k : K) : (ins ks k).Nodup := by
  erw[ins];split
  .exact h
  · rename_i q
    rw[Ds]
    exact ⟨h, by simp, fun a ha b hb z => by have : b = k := by simpa using hb
                                             subst this;subst z;calc q ha⟩
def N5 (ks:List K):(za ks).Nodup:=by
 have:∀ (l acc:List K),acc.Nodup->(l.foldl ins acc).Nodup:=by
  intro l;induction l with
  |nil=>intro acc h;calc h
  |cons y r ih=>intro acc h;exact ih _ (WT h y)
 calc this ks [] (by simp)
def Rz (a:Yu) (h:Q₁ (.ref ⇑s) { s with heap:=s.heap.push (zt w) }) :
  codeAny (model prog w) A (.call (.builtin "set.__new__") ⟨[.type "set", a],[]⟩) (wants Q₁ E) s:=by
 calc codeAny_of_tree ?_;show wpAny _ A.in1 (do checkBuiltinCall "set.__new__" ⟨[.type "set", a],[]⟩;again (.builtin "set.__new__" ⟨[.type "set", a],[]⟩)) _ _ s;calc AA (DQ (F.newCall_set_1 a) (AB ⟨ED F.plain_set_new _,Cb F.entry_set_new ?_⟩));rw[DK F.plain_set_new _];unfold Builtin.«set.__new__» Builtin.Frozenset.newClass;let hsub:=sub_set_self;let⟨hp,g,d,tk,os⟩:=s;wp_walk;calc wpAny_askSetting (AB ?_);simp only[newObj];calc AA (wpAny_alloc (AB ?_));calc AB h
variable {R:Yx} {I:Yt} {fp wr:Yg} {G:Array GenState->Array GenState->Prop} {n:Nat} {P:Nat->Value->Prop} {St:Nat->Shared->Prop}
def f6 (W:WalksS prog w A.in1 I fp wr G n P St) (S:Yt) (hSf:S∉fp) (val:Nat->K) (hval:∀ i v,P i v->knd.is (val i) v=true/\v.scannable=true) (hb:(za ((List.range n).map val)).length+1<scanBound) :
  ∀ (k i:Nat) (s:Yl) (o:Obj) (es:Yw) (ep:Nat) (t:SetTable),n-i=k->i<=n->St i s->s.heap.get? S=some o->SetK knd o es ep t (za ((List.range i).map val)) ->
   (∀ s' o' es' ep' t',Moved (S::wr) G s s'->s'.heap.get? S=some o'->SetK knd o' es' ep' t' (za ((List.range n).map val))->R (.ok (.ret .none)) s') ->
   codeAny (model prog w) A (.builtin "set.update.loop" ⟨[.ref S,.ref I],[]⟩) R s:=by
 let hSw:S∉wr:=λh=>hSf (W.sub _ h);let hsub:∀ b∈wr,b∈S::wr:=λb hb=>BF _ hb;intro k;induction k with
 |zero=>
  intro i s o es ep t hk hi hst ho hS hR;let hin:i=n:=()
  subst hin;calc Cb F.entry_set_update_loop ?_;rw[DK F.plain_set_update_loop _];refine AA (W.done s _ _ hst λs' hm=>?_);calc AB (hR s' o es ep t (hm.mono hsub) (hm.heap S _ hSw ho) hS)
 |succ k ih=>
  intro i s o es ep t hk hi hst ho hS hR;let hlt:i<n:=()
  calc Cb F.entry_set_update_loop ?_;rw[DK F.plain_set_update_loop _];refine AA (W.item i s _ _ hlt hst λv s' hP hst' hm=>?_);let⟨hv1,hv2⟩:=hval i v hP;let ho':=hm.heap S _ hSw ho;calc AA (BQ ?_);erw[setAdd];calc BQ ?_;calc AA (knd.pyHash hv1 ?_);let hroom:(za ((List.range i).map val)).length+1<scanBound:=by have:=Y3 val (DV hlt);omega
  refine Uk hv1 hv2 ho' hS hroom λh' o2 es2 ep2 t2 b hsb ho2 hS2=>?_;let hS3:SetK knd o2 es2 ep2 t2 (za ((List.range (i+1)).map val)):=by
   rw[List.range_succ,Cv];rw[show List.map val [i]=[val i]from rfl,Ls];exact hS2
  refine AB ⟨ED F.plain_set_update_loop _,ih (i+1) _ o2 es2 ep2 t2 () hlt (W.frame _ s' _ _ hst' (CQ _) λb hb o e=>?_) ho2 hS3 λs'' o' es' ep' t' hm'' ho'' hS''=>?_⟩
  .rw[hsb.2 b (λh:b=S=>hSf (by rw[<-h];calc hb))];exact e
  .refine hR s'' o' es' ep' t' (Moved.trans W.gtrans ((hm.mono hsub).then_heap (CQ _) λb o hb e=>?_) hm'') ho'' hS'';rw[hsb.2 b (λh:b=S=>hb (by rw[h];calc Ax))];calc e
end
section
variable {prog:Ym} {w:Yo} {A:Yn} {E:Yc} {s:Yl}
variable {K:Type} [DecidableEq K] {knd:KeyKind prog w K}
def YE:isSubtype (.type "tuple") (.type "set")=pure false:=by rw[D2];kernel_rfl
def Vb:isSubtype (.type "tuple") (.type "frozenset")=pure false:=by rw[D2];kernel_rfl
def Qy {K:Type} (ks:List K) (d:K):(List.range ks.length).map (λi=>ks.getD i d)=ks:=by
 apply Fg;intro i;rw[AW];by_cases q:i<ks.length
 .rw[GG q,AM q];simp[q]
 .rw[D0 (~~~q),D0 (Nat.le_of_not_lt q)];rfl
set_option maxHeartbeats 3200000 in
def Wc [Inhabited K] (hty:ty = "list" \/ ty = "tuple")
  (hh:A.handled=none) (hl:∃ ol,s.heap.get? l=some ol/\ol.cls=.type ty /\ ∃ nl,ol.data=.seq items nl) (hi:F2 (λv k=>knd.is k v=true/\v.scannable=true) items.toList ks) (hb:(za ks).length+1<scanBound)
  (h:∀ (h':Heap) (tk:Nat) (o:Obj) (es:Yw) (ep:Nat) (t:SetTable),h'.get? ⇑s=some o->SetK knd o es ep t (za ks) ->
   (∀ b o,b<⇑s->s.heap.get? b=some o->h'.get? b=some o)->Q (.ref ⇑s) { s with heap:=h',toks:=tk }) :
  wpAny (model prog w) A (call (.type "set") [.ref l]) Q E s:=by
 let⟨c,tl,hmro⟩:=F.called_set.mro;let hmade:=F.called_set.made;let hsub:=F.called_set.sub;let hlen:items.size=ks.length:=by rw[<-BU];exact Jj hi
 calc wpAny_call (codeAny_of_tree ?_);calc AB ⟨Code.quiet_builtin _ (by decide+kernel),Cb F.entry_type_call ?_⟩;rw[Around.under_plain (weight_type_call_type "set" [.ref l] []) rfl];let h1:=F.called_set.notType;let h2:=F.called_set.canCreate;let hct:=F.typeCall_set_1 (.ref l);repeat (any_goals (first|assumption|wp_step))
 refine codeAny_mono (Rz (.ref l) (E:=E) (Q₁:=λobj s₁=>obj=.ref ⇑s/\s₁={ s with heap:=s.heap.push (zt w) }) ⟨rfl,rfl⟩) λr s₁ hr=>?_;cases r with
 |error e=>calc hr
 |ok fl=>
  cases fl with
  |ret obj=>
   let⟨rfl,rfl⟩:=hr;let hS:(s.heap.push (zt w)).get? ⇑s=some (zt w):=AL _ rfl;let hT:Shared.TypeIs { s with heap:=s.heap.push (zt w) } (.ref ⇑s) "set" := ⟨_,hS,rfl⟩;let hli:=F.called_set.init.lookup;let hbi:=F.called_set.init.bind (.ref ⇑s);repeat (any_goals (first|assumption|wp_step))
   refine codeAny_mono (codeAny_call_builtin (R:=wants (λr s₂=>r=.none /\ ∃ h' tk o es ep t,s₂={ s with heap:=h',toks:=tk }/\h'.get? ⇑s=some o/\SetK knd o es ep t (za ks) /\
     (∀ b o,b<⇑s->s.heap.get? b=some o->h'.get? b=some o)) E) F.called_set.init.plain F.entry_set_init (check_set_init_1 hT ?_)) λr₂ s₂ hr₂=>?_
   .obtain ⟨ol,hol,hcl,nl,hdl⟩:=hl;let⟨ocls,odict,odata,oslots⟩:=ol;simp only at hcl hdl;subst hcl;subst hdl;let hlS:l<⇑s:=AI hol;let hol':(s.heap.push (zt w)).get? l=some { cls:=.type ty,dict:=odict,data:=.seq items nl,slots:=oslots }:=AH _ hol;let hh3:A.in1.in1.in1.handled=none:=by simp[hh]
    let hneI:l≠(s.heap.push (zt w)).objs.size:=by
     rw[Bn];exact Ah (C7 hlS)
    let hSf:⇑s∉[(s.heap.push (zt w)).objs.size,l]:=by
     rw[Bn];simp only[AJ,Ae,Aw,Ay,not_or];exact ⟨Ah (DU _),Ca hlS⟩
    let hval:∀ (d:K) (i:Nat) (v:Yu),items[i]?=some v->knd.is (ks.getD i d) v=true/\v.scannable=true:=λd i v hv=>by
     let e:items.toList[i]?=some v:=by rw[Bo];exact hv
     have:∀ {xs:Yf} {ys:List K},F2 (λv k=>knd.is k v=true/\v.scannable=true) xs ys -> ∀ (i:Nat),xs[i]?=some v->knd.is (ys.getD i d) v=true/\v.scannable=true:=by
      intro xs ys f;induction f with
      |nil=>intro i e;simp at e
      |cons q _ ih=>
       intro i e;cases i with
       |zero=>simp at e;subst e;calc q
       |succ i=>exact ih i (~~~e)
     exact this hi i e
    let fin:∀ (I:Yt) (hI:I=(s.heap.push (zt w)).objs.size) (P':Fin->Shared->Prop) (s':Yl) (o':Obj) (es':Yw) (ep':Nat) (t':SetTable) (itO:Obj),
      Moved (⇑s::[I]) (λa b=>b=a) { s with heap:=(s.heap.push (zt w)).push itO } s'->s'.heap.get? ⇑s=some o'->SetK knd o' es' ep' t' (za ks) ->
      (∃ h' tk o es ep t,s'={ s with heap:=h',toks:=tk }/\h'.get? ⇑s=some o/\SetK knd o es ep t (za ks)/\(∀ b o,b<⇑s->s.heap.get? b=some o->h'.get? b=some o)):=by
     intro I hI P' s' o' es' ep' t' itO hm ho' hS';let⟨h',g',d',tk',os'⟩:=s';let eg:g'=s.gens:=hm.gens;let ed:d'=s.drawn:=hm.drawn;let eo:os'=s.os:=hm.os;subst eg;subst ed;subst eo;refine ⟨h',tk',o',es',ep',t',rfl,ho',hS',λb o hb e=>?_⟩;let hb1:b≠⇑s:=Ah hb;let hb2:b≠I:=by rw[hI,Bn];exact Ah (C7 hb)
     exact hm.heap b o (by simp only[AJ,Ae,Aw,Ay,not_or];calc ⟨hb1,hb2⟩) (AH _ (AH _ e))
    let go:∀ (d:K) (St:Nat->Heap->Prop) (itO:Obj) (W:Walks prog w A.in1.in1.in1 (s.heap.push (zt w)).objs.size [(s.heap.push (zt w)).objs.size,l] [(s.heap.push (zt w)).objs.size] items.size (λi v=>items[i]?=some v) St),St 0 ((s.heap.push (zt w)).push itO) ->
      ∀ {R':Yx},(∀ s',(∃ h' tk o es ep t,s'={ s with heap:=h',toks:=tk }/\h'.get? ⇑s=some o/\SetK knd o es ep t (za ks)/\(∀ b o,b<⇑s->s.heap.get? b=some o->h'.get? b=some o))->R' (.ok (.ret .none)) s') ->
      codeAny (model prog w) A.in1.in1 (.builtin "set.update.loop" ⟨[.ref ⇑s,.ref (s.heap.push (zt w)).objs.size],[]⟩) R' { s with heap:=(s.heap.push (zt w)).push itO }:=by
     intro d St itO W st R' hR;refine f6 W.toS ⇑s hSf (λi=>ks.getD i d) (hval d) (by rw[hlen,Qy];calc hb) (items.size-0) 0 _ (zt w) _ _ _ () (BK _) st (AH _ hS) .fresh λs' o' es' ep' t' hm ho' hS'=>?_;refine hR s' (fin _ rfl (λ_ _=>True) s' o' es' ep' t' itO hm ho' ?_);rw[hlen,Qy]at hS';exact hS'
    rcases hty with rfl|rfl
    .have hsls:=F.sub_list_set;let hslf:=F.sub_list_frozenset;let hne:(Value.type "list" == Value.type "dict")=false:=()
     let hl1:(s.heap.push (zt w)).IsList l items:=⟨_,hol',rfl,nl,rfl⟩;unfold Builtin.«set.__init__» noKeywords Builtin.Frozenset.updateFrom;generalize hPI:pyIter=PI;wp_walk;subst hPI;calc wpAny_pyIter_list hl1 ?_;calc AA (wpAny_runValue ?_);refine go default _ _ (Walks.list hh3 _ l hneI items) ⟨⟨_,AL _ rfl,rfl,rfl⟩,(hl1.push _)⟩ λs' q=>?_;calc AB ?_;exact AB ⟨rfl,q⟩
    .have hsls:=YE;let hslf:=Vb;let hne:(Value.type "tuple" == Value.type "dict")=false:=()
     let hl1:(s.heap.push (zt w)).IsTuple l items:=⟨_,hol',rfl,nl,rfl⟩;unfold Builtin.«set.__init__» noKeywords Builtin.Frozenset.updateFrom;generalize hPI:pyIter=PI;wp_walk;subst hPI;calc E1 hl1 ?_;calc AA (wpAny_runValue ?_);refine go default _ _ (Walks.tuple hh3 _ l hneI items) ⟨⟨_,AL _ rfl,rfl,rfl⟩,(hl1.push _)⟩ λs' q=>?_;calc AB ?_;exact AB ⟨rfl,q⟩
   .cases r₂ with
    |error e=>calc hr₂
    |ok fl₂=>
     cases fl₂ with
     |ret r=>
      let⟨rfl,h',tk,o,es,ep,t,rfl,ho',hS',hk'⟩:=hr₂;repeat (any_goals (first|assumption|wp_step))
      calc h _ _ _ _ _ _ ho' hS' hk'
     |_=>calc hr₂.elim
  |_=>calc hr.elim
end
def zu (ks:Ye):List Int:=ks.mergeSort λa b=>decide (a<=b)
def EO (ks:Ye):(zu ks).Perm ks:=List.mergeSort_perm _ _
def Ha (ks:Ye):(zu ks).Pairwise (· <= ·):=by
 have:=List.pairwise_mergeSort (le:=λ(a b:Int)=>decide (a<=b)) (λa b c h1 h2=>by simp at h1 h2 ⊢;omega) (λa b=>by simp;omega) ks;calc this.imp λh=>by simpa using h
theorem Ng:∀ {xs ys:Ye},xs.Perm ys->xs.Pairwise (· <= ·)->ys.Pairwise (· <= ·)->xs=ys
 |[],ys,p,_,_=>by have:=p.length_eq;simp at this;rw[GC.mp this.symm]
 |x::xs,[],p,_,_=>by have:=p.length_eq;simp at this
 |x::xs,y::ys,p,h1,h2=>by
  let hx:=DA.mp h1;let hy:=DA.mp h2;let e:x=y:=by
   let a:x∈y::ys:=p.mem_iff.mp Ax;let b:y∈x::xs:=p.mem_iff.mpr Ax;rcases AJ.mp a with z|z
   .exact z
   .rcases AJ.mp b with q|q
    .exact q.symm
    .exact Int.le_antisymm (hx.1 y q) (hy.1 x z)
  subst e;rw[Ng (p.cons_inv) hx.2 hy.2]
def NZ (p:xs.Perm ys) (h:xs.Pairwise (· <= ·)):xs=zu ys:=Ng (p.trans (EO ys).symm) h (Ha ys)
def NC
  (hc:wpAny (model prog w) A.in1 (collect v) (λvs s1=>∃ ns,IntsAre vs ns/\vs.length<64 /\ ∀ (h':Heap) (out:List Value) (n:Nat),(∀ b u,s1.heap.get? b=some u->h'.get? b=some u)->h'.get? ⇑s1=some (seqObj "list" out.toArray n)->IntsAre out (zu ns)->Q (.ref ⇑s1) { s1 with heap:=h' }) E s) :
  wpAny (model prog w) A (call (.builtin "sorted") [v]) Q E s:=by
 calc Calls.call_function_entry kind_sorted plain_sorted entry_sorted (args_sorted1 _) ?_;unfold Builtin.«sorted»;calc AA (AB ?_);refine AA (An hc (λvs s1 h1=>?_) λ_ _ h'=>h');let⟨ns,hI,h64,h⟩:=h1;calc AA (wpAny_newList ?_ (by rw[sizeLine_eq];omega));let hoL:(s1.heap.push (seqObj "list" vs.toArray 0)).get? ⇑s1=some (seqObj "list" vs.toArray 0):=AL _ rfl;refine AA (BQ (BI slot_list_sort ⟨_,hoL,rfl⟩ entry_list_sort (list_sort_tree hoL hI h64 λout ns' a1 a2 a3=>⟨_,rfl,?_⟩) (args_list_sort _)));calc AB ⟨_,rfl,?_⟩;let g1:=get?_update_seq hoL (λ_=> #[]);let g2:(((s1.heap.push (seqObj "list" vs.toArray 0)).update ⇑s1 (Obj.mapSeq λ_=> #[])).push (seqObj "tuple" vs.toArray 0)).get? ⇑s1=_:=AH _ g1;let g3:=AH (seqObj "list" #[] 0) g2;let g4:=get?_update_seq g3 (λ_=>out);let eS:=NZ a2 a3;subst eS;refine h _ out.toList _ (λb u e=>?_) (by rw[Array.toArray_toList];calc g4) a1;let hb:⇑s1≠b:=λz=>BN _ (z▸AI e);calc (Cz _ _ hb).trans (AH _ (AH _ ((Cz _ _ hb).trans (AH _ e))))
def eI (h:F2 (Mc (intKind prog w)) es ks):IntsAre (es.map (·.2)) ks:=by
 induction h with
 |nil=>calc .nil
 |cons h _ ih=>
  let⟨⟨h1,_⟩,_⟩:=h;let⟨t,e⟩:=Value.isInt_shape h1;rw[Ag,e];calc .cons _ _ ih
def XE (p:us.Perm vs):∀ {ks:Ye},IntsAre vs ks -> ∃ ks',ks'.Perm ks/\IntsAre us ks':=by
 let p':=p.symm;clear p;induction p' with
 |nil=>intro ks h;calc ⟨ks,.refl _,h⟩
 |cons x _ ih=>
  intro ks h;cases h with
  |cons n t r=>
   let⟨ys',q1,q2⟩:=ih r;calc ⟨_,q1.cons _,.cons _ _ q2⟩
 |swap x y l=>
  intro ks h;cases h with
  |cons n t r=>
   cases r with
   |cons n2 t2 r=>calc ⟨_,List.Perm.swap _ _ _,.cons _ _ (.cons _ _ r)⟩
 |trans _ _ ih1 ih2=>
  intro ks h;let⟨ys',q1,q2⟩:=ih1 h;let⟨ys'',r1,r2⟩:=ih2 q2;calc ⟨ys'',r1.trans q1,r2⟩
def V6 (p:xs.Perm ys):zu xs=zu ys:=NZ ((EO xs).trans p) (Ha xs)
def eG (hh:A.handled=none) (ho:s.heap.get? a=some o) (hS:SetK (intKind prog w) o es ep t ks) (h64:ks.length<64)
  (h:∀ (s1:Shared) (h':Heap) (out:List Value) (n:Nat),(∀ b u,s.heap.get? b=some u->s1.heap.get? b=some u)->s1.os=s.os->s1.gens=s.gens->(∀ b u,s1.heap.get? b=some u->h'.get? b=some u)->h'.get? ⇑s1=some (seqObj "list" out.toArray n)->IntsAre out (zu ks)->Q (.ref ⇑s1) { s1 with heap:=h' }) :
  wpAny (model prog w) A (call (.builtin "sorted") [.ref a]) Q E s:=by
 refine NC (ZD hh ho hS λs' acc k1 k2 k3 hp=>?_);let⟨ks',p,f⟩:=hS.ent;let⟨ks2,p2,f2⟩:=XE hp (eI f);refine ⟨ks2,f2,?_,λh' out n e1 e2 e3=>?_⟩
 .rw[hp.length_eq,AG,BU,hS.size];exact h64
 .rw[V6 (p2.trans p)]at e3;calc h s' h' out n k1 k2 k3 e1 e2 e3
def QV (hty:ty = "list" \/ ty = "tuple") (hl:∃ ol,s.heap.get? l=some ol/\ol.cls=.type ty /\ ∃ nl,ol.data=.seq vs.toArray nl)
  (h:Q vs { s with heap:=(s.heap.push (seqObj "list" #[] 0)).update ⇑s (Obj.mapSeq (· ++ vs.toArray)) }) (hsz:vs.length<=sizeLine) :
  wpAny (model prog w) A (collect (.ref l)) Q E s:=by
 let⟨o,ho,hc,n,hd⟩:=id hl;erw[collect];calc AA (wpAny_runValue (Cb entry_proto_collect' ?_));calc AA (wpAny_newList (AB ⟨Code.quiet_builtin _ (by decide+kernel),Cb entry_list_iadd' ?_⟩));show wpAny _ _ (Builtin.List.listExtendWith (.ref ⇑s) (.ref l) (.ref ⇑s)) _ _ { s with heap:=s.heap.push (seqObj "list" #[] 0) };erw[Builtin.List.listExtendWith];let ho':(s.heap.push (seqObj "list" #[] 0)).get? l=some o:=AH _ ho;calc AA (Co ⟨o,ho',hc⟩ ?_);let ht:(Value.type ty==Value.type "list" || Value.type ty==Value.type "tuple")=true:=by rcases hty with rfl|rfl <;> decide
 rw[AD (by rw[Bool.or_assoc,ht];simp)];calc AA (listItems_at ho' hd ?_);calc AA (listItems_at (AL _ rfl) rfl ?_);rw[AE (by simp)];calc AA (listUpdate_at (AL _ rfl) rfl ?_ (BK _) (by show (#[]++vs.toArray).size<=sizeLine+1;simp only[Array.size_append,AO,DY];omega));refine AB ?_
 show wpAny (model prog w) A (do
   let o <- load ⇑s;match o.data with
   |.seq xs _=>pure xs.toList
   |_=>unsupported "internal:collect") Q E { s with heap:=(s.heap.push (seqObj "list" #[] 0)).update ⇑s (Obj.mapSeq (· ++ vs.toArray)) }
 calc AA (wpAny_load (get?_update_seq (AL _ rfl) _) ?_);show wpAny _ _ (pure ((#[]:Array Value)++vs.toArray).toList) Q E _;rw[show ((#[]:Array Value)++vs.toArray).toList=vs by simp];calc AB h
def Wk (hty:ty = "list" \/ ty = "tuple") (hl:∃ ol,s.heap.get? l=some ol/\ol.cls=.type ty /\ ∃ nl,ol.data=.seq vs.toArray nl) (hI:IntsAre vs ns) (h64:vs.length<64)
  (h:∀ (h1 h':Heap) (out:List Value) (n:Nat),(∀ b u,s.heap.get? b=some u->h1.get? b=some u)->(∀ b u,h1.get? b=some u->h'.get? b=some u)->h'.get? h1.objs.size=some (seqObj "list" out.toArray n)->IntsAre out (zu ns)->Q (.ref h1.objs.size) { s with heap:=h' }) :
  wpAny (model prog w) A (call (.builtin "sorted") [.ref l]) Q E s:=by
 refine NC (QV hty hl ⟨ns,hI,h64,λh' out n e1 e2 e3=>h _ h' out n (λb u e=>?_) e1 e2 e3⟩ (by rw[sizeLine_eq];omega));let hb:⇑s≠b:=λz=>BN _ (z▸AI e);calc (Cz _ _ hb).trans (AH _ e)
end ST
namespace L2
open ST
def Inv.kept' (I:Inv X zB Y H s) (k:∀ b u,s.heap.get? b=some u->s1.heap.get? b=some u) (ho:s1.os=s.os) (hg:s1.gens=s.gens):Inv X zB Y H s1 :=
 I.call' (ch:=[]) ho (Un.kept k) (I.hok.kept k) (by rw[hg];calc I.bare) λb hb=>nomatch hb
theorem K7:∀ {ns:Ye} {us:Yf},IntsAre us ns->zT (ns.map V.int) us
 |_,_,.nil=> .nil
 |_,_,.cons n t h=> .cons ⟨t,rfl⟩ (K7 h)
theorem Mg:∀ {ns:Ye} {us:Yf},zT (ns.map V.int) us->IntsAre us ns
 |[],_,.nil=> .nil
 |n::ns,_,.cons r h=>by let⟨t,rfl⟩:=r;calc .cons n t (Mg h)
def NM (ks:Ye):(zu ks).length=ks.length:=(EO ks).length_eq
def YF (hc:X.calm=true) (hg:Gl X "sorted") (hm:X.mg "sorted" = none) (ha:PZ X e t) (hs:starEach [e] X.env=(false,eval e X.env)::starEach [] X.env:=by rfl) (hpl:(backTo pos (starEach [] X.env)).any (·.1)=false:=by rfl) :
  PE X (.Call (.Name "sorted" p) [e] [] pos) (λY H Q=>t Y H λks H1=>ks.length<64 /\ ∀ q,H1 q=none->Q (.ref q) (upd H1 q (.lst ((zu ks).map V.int)))):=by
 intro zB s Y H Q I h;calc ER (Ce I hg hm (by rfl) ?_ () ());calc callWith_builtin1 ?_ hs hpl;rw[hs];refine E6 (thn (ha zB s Y H _ I h) λu s1 ⟨a,o,es,ep,tb,ks,H1,hv,ho,hS,I1,h64,q⟩=>Fi ?_);subst hv;refine eG (I1.ok.hd hc) ho hS h64 λs2 h' out n k1 k2 k3 k4 e4 i4=>?_;let I2:Inv X zB Y H1 s2:=I1.kept' k1 k2 k3;let hf:H1 ⇑s2=none:=I2.hok.fresh (AF _);calc ⟨.ref ⇑s2,upd H1 ⇑s2 (.lst ((zu ks).map V.int)),I2.laid k4 (AF _) ⟨by rw[AG,NM,sizeLine_eq];omega,out,n,K7 i4,e4⟩,rfl,q _ hf⟩
def gS:CV X (.builtin "sorted") (λxs H Q=>∃ a ns,xs=[.ref a]/\(SqL X.K H a (ns.map V.int)\/SqT X.K H a (ns.map V.int))/\ns.length<64 /\ ∀ q,H q=none->Q (.ref q) (upd H q (.lst ((zu ns).map V.int)))):=by
 intro zB s Y H xs us Q I r h;let⟨a,ns,rfl,hq,h64,q⟩:=h;obtain ⟨u,rfl,rfl⟩:∃ u,us=[u]/\u=.ref a:=by
  cases r with
  |cons r1 r2=>ext r2;exact ⟨_,rfl,r1⟩
 let key:∃ (ty:String) (its:List Value),(ty = "list" \/ ty = "tuple")/\(∃ ol,s.heap.get? a=some ol/\ol.cls=.type ty /\ ∃ nl,ol.data=.seq its.toArray nl)/\zT (ns.map V.int) its:=by
  rcases hq with hq|hq
  .obtain ⟨its,rv,⟨ol,nl,e1,e2,_,e3⟩,_⟩:=I.list hq;exact ⟨"list", its,.inl rfl,⟨ol,e1,e2,nl,e3⟩,rv⟩
  .obtain ⟨its,rv,⟨ol,e1,e2,nl,e3⟩,_⟩:=I.tuple hq;exact ⟨"tuple", its,.inr rfl,⟨ol,e1,e2,nl,e3⟩,rv⟩
 let⟨ty,its,hty,hl,rv⟩:=key;refine Wk hty hl (Mg rv) (by rw[<-rv.length,AG];calc h64) λh1 h' out n k1 k4 e4 i4=>?_;let I2:Inv X zB Y H { s with heap:=h1 }:=I.kept k1;let hf:H h1.objs.size=none:=I2.hok.fresh (AF _);calc ⟨.ref h1.objs.size,upd H h1.objs.size (.lst ((zu ns).map V.int)),I2.laid k4 (AF _) ⟨by rw[AG,NM,sizeLine_eq];omega,out,n,K7 i4,e4⟩,rfl,q _ hf⟩
def cL (hc:X.calm=true) (hg:Gl X "set") (hm:X.mg "set" = none) (ha:PE X e te) (hs:starEach [e] X.env=(false,eval e X.env)::starEach [] X.env:=by rfl) (hpl:(backTo pos (starEach [] X.env)).any (·.1)=false:=by rfl) :
  PZ X (.Call (.Name "set" p) [e] [] pos) (λY H Q=>te Y H λx H1=>∃ a ns,x=.ref a/\(SqL X.K H1 a (ns.map V.int)\/SqT X.K H1 a (ns.map V.int))/\(za ns).length+1<scanBound/\Q (za ns) H1):=by
 intro zB s Y H Q I h;refine ER (Ce I hg hm (by rfl) ?_ () ());refine callWith_type1 ?_ hs hpl;rw[hs];refine E6 (thn (ha zB s Y H _ I h) λu s1 ⟨x,H1,I1,r1,a,ns,hx,hq,hb,q⟩=>Fi ?_);subst hx;ext r1;let key:∃ (ty:String) (its:List Value),(ty = "list" \/ ty = "tuple")/\(∃ ol,s1.heap.get? a=some ol/\ol.cls=.type ty /\ ∃ nl,ol.data=.seq its.toArray nl)/\zT (ns.map V.int) its:=by
  rcases hq with hq|hq
  .obtain ⟨its,rv,⟨ol,nl,e1,e2,_,e3⟩,_⟩:=I1.list hq;exact ⟨"list", its,.inl rfl,⟨ol,e1,e2,nl,e3⟩,rv⟩
  .obtain ⟨its,rv,⟨ol,e1,e2,nl,e3⟩,_⟩:=I1.tuple hq;exact ⟨"tuple", its,.inr rfl,⟨ol,e1,e2,nl,e3⟩,rv⟩
 let⟨ty,its,hty,hl,rv⟩:=key;let hi:F2 (λv k=>(intKind X.prog X.w).is k v=true/\v.scannable=true) its.toArray.toList ns:=by
  rw[List.toList_toArray];have:=Mg rv;clear rv hq q hb hl;induction this with
  |nil=>calc .nil
  |cons n t _ ih=>exact .cons ⟨intKind_is _ _ _ _,rfl⟩ ih
 refine Wc hty (I1.ok.hd hc) hl hi hb λh' tk o es ep t ho hS k=>?_;let I2:Inv X zB Y H1 { s1 with heap:=h',toks:=tk }:=I1.kept λb u e=>k b u (AI e) e;calc ⟨_,o,es,ep,t,_,H1,rfl,ho,hS,I2,q⟩
end L2
namespace L3
open L2 ST
abbrev FZ:=Sd->Mem->Option (List Int × Mem)
def trZ (K:Yb) (f:FZ):TZ:=λτ H Q=>∃ L Y M ks M',Cor K L M H/\Ak L H Y τ/\f Y M=some (ks,M') /\ ∀ L' H',Stp L H L' H'->Cor K L' M' H'->Q ks H'
structure QZ (X:Cx) (e:Expr) (f:FZ):Prop where
 un:PZ X e (trZ X.K f)
def PZ.imp (h:PZ X e t) (hi:∀ τ H Q,t' τ H Q->t τ H Q):PZ X e t':=λzB s Y H Q I q=>h zB s Y H Q I (hi _ _ _ q)
section
variable {X:Cx} {scope:Y0} {tg elt iter:Expr} {ifs:Yi} {pos p:Pos} {own:Yj} {e:Expr} {f:FE}
def Dz (f:FE):FZ:=λY M=>match f Y M with
 |some (x,M1)=>match zr M1 x with
  |some ds=>match DS ds with
   |some ks=>if (za ks).length+1<scanBound then some (za ks,M1) else none
   |none=>none
  |none=>none
 |none=>none
def bK (hc:X.calm=true) (hg:Gl X "set") (hm:X.mg "set" = none) (h:QE X e f) (hs:starEach [e] X.env=(false,eval e X.env)::starEach [] X.env:=by rfl) (hpl:(backTo pos (starEach [] X.env)).any (·.1)=false:=by rfl) :
  QZ X (.Call (.Name "set" p) [e] [] pos) (Dz f):=.mk <| PZ.imp (cL hc hg hm h.un hs hpl) λτ H Q zz=>by
 let⟨L,Y,M,d,M',c,rs,hf,q⟩:=zz;erw[Dz]at hf;cbv at hf
 .rename_i x M1 e1;cbv at hf
  .rename_i ds e2;cbv at hf
   .rename_i ks e3;cbv at hf
    .rename_i hb;ext hf;refine (mkE c rs e1 (λL1 H1 v s1 c1 r1=>?_));let⟨a,vs,rfl,hsq,r⟩:=FR c1 r1 e2;have:=Hi e3 r;subst this;exact ⟨a,ks,rfl,hsq,hb,q L1 H1 s1 c1⟩
    .cases hf
   .cases hf
  .cases hf
 .cases hf
def Gm (f:FZ):FE:=λY M=>match f Y M with
 |some (ks,M1)=>if ks.length<64 then some (.fl ((zu ks).map D.int),M1) else none
 |none=>none
theorem Mi:∀ (ns:Ye),zG L H (ns.map D.int) (ns.map V.int)
 |[]=> .nil
 |n::ns=> .cons CO (Mi ns)
def bS (hc:X.calm=true) (hg:Gl X "sorted") (hm:X.mg "sorted" = none) (h:QZ X e fz) (hs:starEach [e] X.env=(false,eval e X.env)::starEach [] X.env:=by rfl) (hpl:(backTo pos (starEach [] X.env)).any (·.1)=false:=by rfl) :
  QE X (.Call (.Name "sorted" p) [e] [] pos) (Gm fz):=.mk <| PE.imp (YF hc hg hm h.un hs hpl) λτ H Q zz=>by
 let⟨L,Y,M,d,M',c,rs,hf,q⟩:=zz;erw[Gm]at hf;cbv at hf
 .rename_i ks M1 e1;cbv at hf
  .rename_i hb;ext hf;refine ⟨L,Y,M,_,_,c,rs,e1,λL1 H1 s1 c1=>⟨hb,λp hp=>?_⟩⟩;exact q L1 _ _ (s1.trans (.upd hp)) (c1.upd hp) (zR.newLst s1 c c1 hp (Mi _))
  .cases hf
 .cases hf
def Dk:KB:=λxs M=>match xs with
 |[x]=>match zr M x with
  |some ds=>match DS ds with
   |some ks=>if ks.length<64 then some (.fl ((zu ks).map D.int),M) else none
   |none=>none
  |none=>none
 |_=>none
def zR.newLst' {L:Yg} {H:Hp} {K:Yb} {M:List MO} {p:Yt} {ds:List D} {vs:List V} (c:Cor K L M H) (hp:H p=none) (r:zG L H ds vs):zR H L (upd H p (.lst vs)) (.fl ds) (.ref p):=zR.newLst (.refl L H) c c hp r
def gU:Dc X.K (λxs H Q=>∃ a ns,xs=[.ref a]/\(SqL X.K H a (ns.map V.int)\/SqT X.K H a (ns.map V.int))/\ns.length<64 /\ ∀ q,H q=none->Q (.ref q) (upd H q (.lst ((zu ns).map V.int)))) Dk:=by
 intro L M M' H H0 xs d vs Q c r hk q;erw[Dk]at hk;cbv at hk
 .rename_i x;cbv at hk
  .rename_i ys e1;cbv at hk
   .rename_i ks e2;cbv at hk
    .rename_i hb;ext hk;let⟨v,rfl,r1⟩:=r.one;let⟨a,ws,rfl,hs,r2⟩:=FR c r1 e1;have:=Hi e2 r2;subst this;exact ⟨a,ks,rfl,hs,hb,λp hp=>q L _ _ (.upd hp) (c.upd hp) (zR.newLst' c hp (Mi _))⟩
    .cases hk
   .cases hk
  .cases hk
 .cases hk
def iQ (hg:Gl X "sorted") (hm:X.mg "sorted" = none) (ha:QAE X [e] fa) (he:starEach [e] X.env=(false,eval e X.env)::starEach [] X.env:=by rfl) (hpl:(backTo pos (starEach [] X.env)).any (·.1)=false:=by rfl):QE X (.Call (.Name "sorted" p) [e] [] pos) (fB Dk fa) :=
 Gf gU gS (by rfl) hg hm ha () () he hpl
end
open AutoSeq1 (wpAny_loadPart')
def U8 (hh:A.handled=none) (it l:Yt) (hne:l≠it) (items:Yp) :
  Draws prog w A it [it,l] items.size (λi v=>items[i]?=some v) (λi h=>h.IsTupleIter it l i/\h.IsTuple l items) where
 live:=λ_ _ st=>let ⟨o,ho,_⟩:=st.1;⟨o,ho⟩;frame:=λ_ _ _ st hk=>⟨let ⟨o,ho,r⟩:=st.1;⟨o,hk it (by simp) o ho,r⟩,let ⟨o,ho,r⟩:=st.2;⟨o,hk l (by simp) o ho,r⟩⟩;item:=λi s Q E hi st hQ=>by
  refine Hm st.1 st.2 (x:=items[i]) (by simp[hi]) λh' hit' hs'=>?_;exact hQ _ h' s.toks (by simp[hi]) ⟨hit',Tup.but st.2 hs'.extBut hne⟩ hs'
 done:=λs Q E st hE=>Ih hh st.1 st.2 (by simp) hE
def Ww (l:Yt) (items:Yp) (n:Nat) (dct:Option Addr) (sl:Array (Option Value)) :
  Meets (Builtin.«enumerate.__new__» ⟨[.type "enumerate", .ref l],[]⟩) (λ_ R s=>s.heap.get? l=some { cls:=.type "tuple", dict:=dct,data:=.seq items n,slots:=sl } /\
   R (.ok (.ret (.ref (s.heap.push { cls:=.type "tuple_iterator", data:=.fields #[.ref l,.int 0 0] }).objs.size)))
    { s with heap:=(s.heap.push { cls:=.type "tuple_iterator", data:=.fields #[.ref l,.int 0 0] }).push { cls:=.type "enumerate", data:=.fields #[.none,.bool false,.ref ⇑s,rawInt 0,.none,.none] } }) :=
 .of_wp λprog w A R s h=>by
  let⟨hp,g,d,tk,os⟩:=s;let⟨hl,h⟩:=h;let hsub:=sub_enumerate;let hL:Heap.IsTuple (Shared.heap ⟨hp,g,d,tk,os⟩) l items:=⟨_,hl,rfl,n,rfl⟩;wp_walk using wpAny_loadPart' hl;refine wpAny_stack_any λst=>AB ?_;split
  .rename_i c _ _ _ _ _;cases (c==Value.type "enumerate")
   .wp_walk using wpAny_loadPart' hl,E1 hL;exact ⟨_,rfl,h⟩
   .wp_walk using wpAny_loadPart' hl,E1 hL;exact ⟨_,rfl,h⟩
  .wp_walk using wpAny_loadPart' hl,E1 hL;calc ⟨_,rfl,h⟩
def Uh (hL:s.heap.IsTuple l items)
  (h:∀ h',IsEnum h' (⇑s+1) ⇑s 0 .none->h'.IsTupleIter ⇑s l 0->(∀ c o,s.heap.get? c=some o->h'.get? c=some o)->Q (.ref (⇑s+1)) { s with heap:=h' }) :
  wpAny (model prog w) A (call (.type "enumerate") [.ref l]) Q E s:=by
 let⟨o,ho,hc,n,hd⟩:=hL;let⟨ocls,odict,odata,oslots⟩:=o;simp only at hc hd;subst hc;subst hd;refine callType_new PySem.F.called_enumerate () (PySem.F.typeCall_enumerate_1 _) (PySem.F.newCall_enumerate_1 _) (λobj=>PySem.F.args_object_init_2 obj _) PySem.F.entry_enumerate_new (Ww l items n odict oslots) ⟨ho,?_⟩;let q1:(s.heap.push { cls:=.type "tuple_iterator", data:=.fields #[.ref l,.int 0 0] }).objs.size=⇑s+1:=Bn ..;let p2:((s.heap.push { cls:=.type "tuple_iterator", data:=.fields #[.ref l,.int 0 0] }).push { cls:=.type "enumerate", data:=.fields #[.none,.bool false,.ref ⇑s,rawInt 0,.none,.none] }).get? (s.heap.push { cls:=.type "tuple_iterator", data:=.fields #[.ref l,.int 0 0] }).objs.size=some _:=AL _ rfl;rw[q1]at p2;rw[q1];calc ⟨⟨_,p2,rfl⟩,h _ p2 ⟨_,AH _ (AL _ rfl),rfl,rfl⟩ λc o x=>AH _ (AH _ x)⟩
def Pm (he:IsEnum s.heap e it i old)
  (hn:∀ (Q':Value->Shared->Prop) (E':Value->Shared->Prop),(∀ h' x,Heap.ExtBut it s.heap h'->(∃ o,h'.get? x=some o/\o.cls=.type "StopIteration")->E' (.ref x) { s with heap:=h' })->wpAny (model prog w) A.in1 (Builtin.SmallTypes.nextOf (.ref it)) Q' E' s)
  (hQ:∀ h',Heap.ExtBut it s.heap h'->Q none { s with heap:=h' }):wpAny (model prog w) A (pyNext (.ref e)) Q E s:=by
 let hT:s.TypeIs (.ref e) "enumerate" := ⟨_,he,rfl⟩;erw[pyNext]
 refine AA (CN (CA hT PySem.F.slot_enumerate_next
  (BI PySem.F.slot_enumerate_next hT PySem.F.entry_enumerate_next ?_ (PySem.F.args_enumerate_next_1 _))))
 show wpAny _ _ (field (.ref e) 2 >>= _) _ _ _;calc AA (Ad he rfl rfl ?_);refine AA (hn _ _ λh' x he' hx'=>?_);let⟨o,ho,hc⟩:=hx';calc AA (Eb ⟨o,ho,hc⟩ isSubtype_stop ?_);calc AB (hQ _ he')
def FC (K:Yb) (isT:Bool) (a:Yt):It :=
 ⟨λi H=>∃ xs x,(if isT then SqT K H a xs else SqL K H a xs)/\xs[i]?=some x,
  λi H v H'=>∃ T x,v=.ref T/\H T=none/\H'=upd H T (.tup [.int i,x]) /\ ∀ xs,(if isT then SqT K H a xs else SqL K H a xs)->xs[i]?=some x,
  λi H=>∃ xs,(if isT then SqT K H a xs else SqL K H a xs)/\xs.length<=i⟩
def JN (isT:Bool) (it a:Yt) (i:Nat) (h:Heap):Prop:=if isT then h.IsTupleIter it a i else h.IsListIter it a i
def X9 {P:Ym} {w:Yo} {K:Yb} {es:Yi} {ek:Nat} {ep:Pos} {isT:Bool} {e it a:Yt} (hei:e≠it) (hae:a≠e) (hai:a≠it) :
  Turn P w K (.Tuple es ek ep) (FC K isT a) [e,it] e (λi h=>(∃ old,IsEnum h e it i old)/\JN isT it a i h) where
 mem:=by simp
 obj:=λi h ⟨⟨old,he⟩,st⟩ c hc=>by
  simp only[AJ,Aw,Ay]at hc;rcases hc with rfl|rfl
  .exact ⟨_,he,λv m=>by ext m⟩
  .cases isT with
   |true=>let⟨o1,e1,_,d1⟩:=(show h.IsTupleIter c a i from st);exact ⟨_,e1,λv m=>by rw[d1]at m;ext m⟩
   |false=>let⟨o1,e1,_,d1⟩:=(show h.IsListIter c a i from st);exact ⟨_,e1,λv m=>by rw[d1]at m;ext m⟩
 keep:=λi h h' ⟨⟨old,he⟩,st⟩ k=>by
  calc ⟨⟨old,k e (by simp) _ he⟩,?_⟩;cases isT with
  |true=>let⟨o1,e1,r⟩:=(show h.IsTupleIter it a i from st);calc ⟨o1,k it (by simp) _ e1,r⟩
  |false=>let⟨o1,e1,r⟩:=(show h.IsListIter it a i from st);exact ⟨o1,k it (by simp) _ e1,r⟩
 item:=by
  intro X hP hw hK hc i zB s Y H E I hf Z hg;subst hP hw hK;let⟨⟨old,he⟩,st⟩:=Z;let⟨xs,x,sa,hx⟩:=hg;let hch:∀ c∈[e,it],Bq X zB H c:=hf;let elt:e<⇑s:=AI he
  let fin:∀ (its:List Value) (u:Value) (h':Heap) (tk:Nat),zT xs its->its[i]?=some u->IsEnumOut h' e it ((i:Int)+1) u ⇑s->JN isT it a (i+1) h'->h'.get? ⇑s=some { cls:=.type "tuple", data:=.seq #[.int i tk,u] } ->
    (∀ b o,b≠e->b≠it->s.heap.get? b=some o->h'.get? b=some o)->it<⇑s ->
    ∃ u',some (Value.ref ⇑s)=some u'/\wpAny (model X.prog X.w) X.A (letOwnedTupleGo (.Tuple es ek ep) (.ref e) u') (λ_ s2=>∃ x H',Inv X zB Y H' s2/\zf x u'/\(FC X.K isT a).yld i H x H'/\((∃ old,IsEnum s2.heap e it ((i+1:Nat):Int) old)/\JN isT it a (i+1) s2.heap) /\ ∀ b∈[e,it],H' b=none) E { s with heap:=h',toks:=tk+1 }:=by
   intro its u h' tk rv hu ho st' hT hk ilt;refine ⟨_,rfl,wpAny_letOwnedTupleGo_enum ho λh2 he2 e2=>?_⟩;let kk:∀ c o,c∉[e,it]->s.heap.get? c=some o->h2.get? c=some o:=λc o n q=>by
    simp only[AJ,Aw,Ay,not_or]at n;exact e2.extBut _ _ n.1 (hk c o n.1 n.2 q)
   let NT:=e2.extBut _ _ (Ca elt) hT;let hfr:H ⇑s=none:=I.hok.fresh (AF _);let⟨u2,hu2,ru⟩:=rv.get hx;rw[hu]at hu2;ext hu2;refine ⟨.ref ⇑s,upd H ⇑s (.tup [.int i,x]),Pt (s:=s) I hch kk (AF _) ?_,rfl,⟨_,x,rfl,hfr,rfl,λws hw=>?_⟩,⟨⟨u,by simpa using he2⟩,?_⟩,λc hm=>?_⟩
   .exact ⟨by show 2<=sizeLine;decide,[.int i tk,u],.cons ⟨tk,rfl⟩ (.cons ru .nil),⟨_,NT,rfl,⟨_,rfl⟩,rfl⟩⟩
   .cases isT with
    |true=>rw[I.tuple_inj hw sa];calc hx
    |false=>rw[I.list_inj hw sa];exact hx
   .cases isT with
    |true=>let⟨o1,e1,r⟩:=(show h'.IsTupleIter it a (i+1)from st');calc ⟨o1,e2.extBut _ _ hei.symm e1,r⟩
    |false=>let⟨o1,e1,r⟩:=(show h'.IsListIter it a (i+1)from st');exact ⟨o1,e2.extBut _ _ hei.symm e1,r⟩
   .have lt:c<⇑s:=by
     simp only[AJ,Aw,Ay]at hm;rcases hm with rfl|rfl
     .exact elt
     .exact ilt
    rw[zS (Ah lt)];exact (hf c hm).1
  let hef:e∉[it,a]:=by simp only[AJ,Aw,Ay,not_or];exact ⟨hei,hae.symm⟩
  cases isT with
  |true=>
   let⟨its,rv,p1,z1⟩:=I.tuple sa;let st':s.heap.IsTupleIter it a i:=st;let⟨o1,e1,_⟩:=id st';refine wpAny_pyNext_enum_itemD (U8 (prog:=X.prog) (w:=X.w) (A:=X.A.in1) (I.ok.hd hc) it a hai its.toArray) he ⟨st',show s.heap.IsTuple a its.toArray from p1⟩ (by have:=rv.length;have:=(AK.mp hx).1;rw[AO];omega) hei hef λu h' tk hu ho hs hT _ hk=>?_;calc fin its u h' tk rv (~~~hu) ho hs.1 hT hk (AI e1)
  |false=>
   let⟨its,rv,p1,z1⟩:=I.list sa;let st':s.heap.IsListIter it a i:=st;let⟨o1,e1,_⟩:=id st';refine wpAny_pyNext_enum_itemD (Draws.list (prog:=X.prog) (w:=X.w) (A:=X.A.in1) (I.ok.hd hc) it a hai its.toArray) he ⟨st',p1.isList⟩ (by have:=rv.length;have:=(AK.mp hx).1;rw[AO];omega) hei hef λu h' tk hu ho hs hT _ hk=>?_;exact fin its u h' tk rv (~~~hu) ho hs.1 hT hk (AI e1)
 done:=by
  intro X hP hw hK hc i zB s Y H E I hf Z hg;subst hP hw hK;let⟨⟨old,he⟩,st⟩:=Z;let⟨xs,sa,hz⟩:=hg;let out:∀ h',Heap.ExtBut it s.heap h'->(none:Option Value)=none/\Inv X zB Y H { s with heap:=h' }:=λh' x=>⟨rfl,G4 I hf λc o n q=>x c o (λm=>n (by simp[m])) q⟩;cases isT with
  |true=>
   let⟨its,rv,p1,z1⟩:=I.tuple sa;refine Pm he (λQ' E' hq=>Ih (I.ok.hd hc) (show s.heap.IsTupleIter it a i from st) (show s.heap.IsTuple a its.toArray from p1) (by have:=rv.length;simp;omega) hq) out
  |false=>
   let⟨its,rv,p1,z1⟩:=I.list sa;refine Pm he (λQ' E' hq=>wpAny_nextOf_list_end (I.ok.hd hc) (show s.heap.IsListIter it a i from st) p1.isList (by have:=rv.length;simp;omega) hq) out
 self:=λ_ _ _ _ _ Z h=>let ⟨⟨_,he⟩,_⟩:=Z;wpAny_pyIter_enum he h
def dC {te:TE} (hg:Gl X "enumerate") (hm:X.mg "enumerate" = none) (ha:PE X a te) (hs:starEach [a] X.env=(false,eval a X.env)::starEach [] X.env:=by rfl) (hpl:(backTo pos (starEach [] X.env)).any (·.1)=false:=by rfl) :
  PI X (.Tuple es ek ep) (.Call (.Name "enumerate" p) [a] [] pos) (λY H R=>te Y H λx H1=>∃ l,x=.ref l/\((∃ xs,SqT X.K H1 l xs)/\R (FC X.K true l) H1\/(∃ xs,SqL X.K H1 l xs)/\R (FC X.K false l) H1)):=by
 intro zB s Y H R I h;calc ER (Ce I hg hm (by rfl) ?_ () ());calc callWith_type1 ?_ hs hpl;rw[hs];refine E6 (thn (ha zB s Y H _ I h) λu s1 ⟨x,H1,I1,r1,l,hx,q⟩=>Fi ?_);subst hx;ext r1
 let out:∀ (isT:Bool) (h':Heap),l<⇑s1->IsEnum h' (⇑s1+1) ⇑s1 0 .none->JN isT ⇑s1 l 0 h'->(∀ c o,s1.heap.get? c=some o->h'.get? c=some o)->R (FC X.K isT l) H1 ->
   wpAny (model X.prog X.w) X.A (pyIter (.ref (⇑s1+1))) (PIE X zB Y (.Tuple es ek ep) R) X.xe { s1 with heap:=h' }:=by
  intro isT h' hl he st kp q;refine wpAny_pyIter_enum he ?_;refine ⟨⇑s1+1,[⇑s1+1,⇑s1],_,_,H1,rfl,I1.kept kp,X9 (Ca (DU _)) (Ah (C7 hl)) (Ah hl),⟨⟨_,he⟩,st⟩,λc hc=>?_,q⟩;let ge:⇑s1<=c:=by
   simp only[AJ,Aw,Ay]at hc;rcases hc with rfl|rfl
   .exact CQ _
   .exact AF _
  exact I1.fpOk ge (I1.hok.fresh ge)
 rcases q with ⟨⟨xs,hq⟩,q⟩|⟨⟨xs,hq⟩,q⟩
 .obtain ⟨its,rv,p1,_⟩:=I1.tuple hq;let hl:l<⇑s1:=by let⟨_,e,_⟩:=p1;exact AI e
  exact Uh (show s1.heap.IsTuple l its.toArray from p1) λh' he st kp=>out true h' hl he st kp q
 .obtain ⟨its,rv,p1,_⟩:=I1.list hq;let hl:l<⇑s1:=by let⟨_,_,e,_⟩:=p1;exact AI e
  calc call_enumerate_list p1.isList λh' he st _ kp=>out false h' hl he st kp q
def D6 (xs:List D):List D:=((List.range xs.length).zip xs).map λq=>D.tup [.int (q.1:Nat),q.2]
def Pz {xs:List D} {i:Nat} {d:D} (h:(D6 xs)[i]?=some d):∃ x,xs[i]?=some x/\d=.tup [.int (i:Nat),x]:=by
 erw[D6]at h;rw[AW]at h;cases e:((List.range xs.length).zip xs)[i]? with
 |none=>rw[e]at h;ext h
 |some pr=>
  rw[e]at h;ext h;let⟨f1,f2⟩:=List.getElem?_zip_eq_some.mp e;let hi:i<xs.length:=(AK.mp f2).1;rw[GG hi]at f1;ext f1;calc ⟨pr.2,f2,rfl⟩
def cX (xs:List D):(D6 xs).length=xs.length:=by erw[D6];simp
def LQ (f:FE):FI:=λY M=>match f Y M with
 |some (x,M1)=>match zr M1 x with
  |some xs=>some (D6 xs,HD x xs,M1)
  |none=>none
 |none=>none
def bN {g:FE} (hg:Gl X "enumerate") (hm:X.mg "enumerate" = none) (h:QE X a g) (hs:starEach [a] X.env=(false,eval a X.env)::starEach [] X.env:=by rfl) (hpl:(backTo pos (starEach [] X.env)).any (·.1)=false:=by rfl) :
  QI X (.Tuple es ek ep) (.Call (.Name "enumerate" p) [a] [] pos) (LQ g):=.mk <| PI.imp (dC hg hm h.un hs hpl) λτ H R zz=>by
 let⟨L,Y,M,xs,gd,M',c,rs,hf,q⟩:=zz;erw[LQ]at hf;cbv at hf
 .rename_i y M1 e1;cbv at hf
  .rename_i zs e2;ext hf;refine ⟨L,Y,M,_,_,c,rs,e1,λL1 H1 v s1 c1 r1=>?_⟩
   let step:∀ (isT:Bool) (l:Yt) (L2:Yg) (H2:Hp) (vs:List V),(if isT then SqT X.K H2 l vs else SqL X.K H2 l vs)->zG L2 H2 zs vs ->
     (∀ (i:Nat) d,(D6 zs)[i]?=some d->(FC X.K isT l).go i H2 /\ ∀ v H'',(FC X.K isT l).yld i H2 v H''->(∀ a o,H2 a=some o->H'' a=some o)/\Rep L2 H'' d v)/\(FC X.K isT l).stop (D6 zs).length H2:=by
    intro isT l L2 H2 vs hq r;refine ⟨λi d hd=>?_,⟨vs,hq,by rw[cX,r.length];calc AF _⟩⟩;let⟨x,hx,rfl⟩:=Pz hd;let⟨u,hu,ru⟩:=r.get hx;refine ⟨⟨vs,u,hq,hu⟩,λv H3 hy=>?_⟩;let⟨T,x',rfl,hT,rfl,hxx⟩:=hy;let ex:=hxx vs hq;rw[hu]at ex;ext ex;exact ⟨λa o e=>by rw[zS (DW e hT)];calc e,Rep.newTup hT (.cons CO (.cons ru .nil))⟩
   erw[zr]at e2;cases t:Cc y with
   |some ws=>
    rw[t]at e2;ext e2;let⟨a,vs,rfl,e3,r3⟩:=Dx r1 t;refine ⟨a,rfl,.inl ⟨⟨vs,.of e3⟩,q L1 H1 _ s1 c1 λL2 H2 M2 s2 c2 _=>?_⟩⟩;calc step true a L2 H2 vs (.of (s2.tup a vs e3)) (r3.stp s2)
   |none=>
    rw[t]at e2;let⟨a,vs,rfl,e3,r3⟩:=Dl c1 r1 e2;refine ⟨a,rfl,.inr ⟨⟨vs,.inl e3⟩,q L1 H1 _ s1 c1 λL2 H2 M2 s2 c2 hgd=>?_⟩⟩;let key:∃ vs',SqL X.K H2 a vs'/\zG L2 H2 zs vs':=by
     cases y with
     |fl ys=>
      ext e2;let⟨p',vs',hp',_,e5,e6,r6⟩:=r1;ext hp';calc ⟨vs',.of (s2.old _ _ e5 e6 (by intro _ z;ext z)),r6.stp s2⟩
     |dat d=>
      cases d with
      |ref n=>
       erw[zR,Rep]at r1;let⟨a',ha',e5⟩:=r1;ext ha';let e6:L2[n]?=some a:=by let⟨N,hN⟩:=s2.pre;rw[hN];exact F9 e5
       rcases hgd with z|z
       .obtain ⟨vs',e7,r7⟩:=c2.obj n a _ e6 z;exact ⟨vs',.of e7,r7⟩
       .obtain ⟨o,vs',e7,r7⟩:=c2.obj n a _ e6 z;calc ⟨vs',.inl (.inr ⟨o,e7⟩),r7⟩
      |_=>ext e2
    let⟨vs',hq,r7⟩:=key;exact step false a L2 H2 vs' hq r7
  .cases hf
 .cases hf
section
variable {κ:Type} [DecidableEq κ]
def Ck (kf:D->Option κ) (kvs:List (D × D)) (k:κ):Option D:=(kvs.find? λp=>decide (kf p.1=some k)).map (·.2)
def E5 (kf:D->Option κ) (kvs:List (D × D)) (k:κ) (kd v:D):List (D × D) :=
 if (kvs.any λp=>decide (kf p.1=some k))=true then kvs.map λp=>if kf p.1=some k then (p.1,v) else p else kvs++[(kd,v)]
theorem Ip (k:κ):∀ {kvs:List (D × D)} {vs:List (κ × V)},AS kf L H kvs vs->(Ck kf kvs k=none/\B7 vs k=none) \/ ∃ d v,Ck kf kvs k=some d/\B7 vs k=some v/\Rep L H d v
 |[],vs,h=>by erw[AS]at h;subst h;calc .inl ⟨rfl,rfl⟩
 |p::r,vs,h=>by
  let⟨k',v,r',rfl,e,h1,h2⟩:=h;by_cases q:k'=k
  .subst q;exact .inr ⟨p.2,v,by erw[Ck];rw[EZ,e];simp,by rw[KA rfl],h1⟩
  .have e1:Ck kf (p::r) k=Ck kf r k:=by erw[Ck];rw[EZ,e];simp[q]
   rw[e1,JX q];calc Ip k h2
theorem Pw (k:κ):∀ {kvs:List (D × D)} {vs:List (κ × V)},AS kf L H kvs vs->(kvs.any λp=>decide (kf p.1=some k))=(vs.any λkv=>decide (kv.1=k))
 |[],vs,h=>by erw[AS]at h;subst h;rfl
 |p::r,vs,h=>by
  let⟨k',v,r',rfl,e,h1,h2⟩:=h;rw[List.any_cons,List.any_cons,Pw k h2,e];simp
theorem Kd (k:κ) (hd:Rep L H d u):∀ {kvs:List (D × D)} {vs:List (κ × V)},AS kf L H kvs vs->AS kf L H (kvs.map λp=>if kf p.1=some k then (p.1,d) else p) (vs.map λkv=>if kv.1=k then (kv.1,u) else kv)
 |[],vs,h=>by erw[AS]at h;subst h;rfl
 |p::r,vs,h=>by
  let⟨k',v,r',rfl,e,h1,h2⟩:=h;rw[Ag,Ag];by_cases q:k'=k
  .subst q;rw[AD e,AD rfl];exact ⟨k',u,_,rfl,e,hd,Kd k' hd h2⟩
  .rw[AE (by rw[e];simpa using q),AE q];calc ⟨k',v,_,rfl,e,h1,Kd k hd h2⟩
theorem O6 (hk:kf kd=some k) (hd:Rep L H d u):∀ {kvs:List (D × D)} {vs:List (κ × V)},AS kf L H kvs vs->AS kf L H (kvs++[(kd,d)]) (vs++[(k,u)])
 |[],vs,h=>by erw[AS]at h;subst h;calc ⟨k,u,[],rfl,hk,hd,rfl⟩
 |p::r,vs,h=>by
  let⟨k',v,r',rfl,e,h1,h2⟩:=h;calc ⟨k',v,_,rfl,e,h1,O6 hk hd h2⟩
def OI {kf:D->Option κ} {L:Yg} {H:Hp} {k:κ} {kd d:D} {u:V} (hk:kf kd=some k) (hd:Rep L H d u) {kvs:List (D × D)} {vs:List (κ × V)} (h:AS kf L H kvs vs):AS kf L H (E5 kf kvs k kd d) (Be vs k u):=by
 erw[E5,Be];rw[Pw k h];split
 .exact Kd k hd h
 .exact O6 hk hd h
end
theorem PJ:∀ {ds:List D} {vs:List V} {ks:List Key},zG L H ds vs->EK ds=some ks->vs=ks.map kV
 |[],vs,ks,h,e=>by ext e;erw[zG]at h;calc h
 |d::ds,vs,ks,h,e=>by
  erw[zG]at h;let⟨v,r,rfl,h1,h2⟩:=h;erw[EK]at e;cases e1:Az d with
  |none=>rw[e1]at e;ext e
  |some k=>
   cases e2:EK ds with
   |none=>rw[e1,e2]at e;ext e
   |some ks'=>
    rw[e1,e2]at e;ext e;rw[Ig h1 e1,PJ h2 e2];rfl
def KQ (h:Rep L H d v) (e:tkD d=some ks):∃ b,v=.ref b/\H b=some (.tup (ks.map kV)):=by
 cases d with
 |tup ds=>
  erw[Rep]at h;let⟨a,vs,rfl,e1,r⟩:=h;calc ⟨a,rfl,by rw[e1,PJ r e]⟩
 |_=>ext e
def FX (M:Mem) (x:EV) (k:D):Option (Option D):=match x with
 |.dat (.ref n)=>match M[n]? with
  |some (.dict kvs)=>match Az k with
   |some kk=>some (Ck Az kvs kk)
   |none=>none
  |some (.dicT kvs)=>match tkD k with
   |some kk=>some (Ck tkD kvs kk)
   |none=>none
  |some (.froK kvs)=>match Az k with
   |some kk=>some (Ck Az kvs kk)
   |none=>none
  |some (.froT kvs)=>match tkD k with
   |some kk=>some (Ck tkD kvs kk)
   |none=>none
  |_=>none
 |_=>none
def Qf (L:Yg) (H:Hp):Option D->Option V->Prop
 |none,o=>o=none
 |some d,o=>∃ v,o=some v/\Rep L H d v
def Md {K:Yb} {L:Yg} {M:Mem} {H H0:Hp} {x:EV} {v w:V} {k:D} {o:Option D} (c:Cor K L M H) (rx:zR H0 L H x v) (rk:Rep L H k w) (e:FX M x k=some o):∃ a ov,v=.ref a/\CD H a w ov/\Qf L H o ov:=by
 cases x with
 |fl xs=>ext e
 |dat d=>
  cases d with
  |ref n=>
   erw[zR,Rep]at rx;let⟨a,rfl,ea⟩:=rx;erw[FX]at e;dsimp only at e;cases q:M[n]? with
   |none=>rw[q]at e;ext e
   |some m=>
    rw[q]at e;let z:=c.obj n a m ea q;cases m with
    |dict kvs=>
     dsimp only at e;cases e2:Az k with
     |none=>rw[e2]at e;ext e
     |some kk=>
      rw[e2]at e;ext e;let⟨vs,e3,r⟩:=z;refine ⟨a,B7 vs kk,rfl,?_,?_⟩
      .rw[Ig rk e2];exact CD.k e3
      .rcases Ip kk r with ⟨h1,h2⟩|⟨d,v,h1,h2,h3⟩
       .rw[h1,h2];rfl
       .rw[h1,h2];calc ⟨v,rfl,h3⟩
    |dicT kvs=>
     dsimp only at e;cases e2:tkD k with
     |none=>rw[e2]at e;ext e
     |some kk=>
      rw[e2]at e;ext e;let⟨vs,e3,r⟩:=z;let⟨b,rfl,eb⟩:=KQ rk e2;calc ⟨a,B7 vs kk,rfl,CD.t e3 eb,?_⟩;rcases Ip kk r with ⟨h1,h2⟩|⟨d,v,h1,h2,h3⟩
      .rw[h1,h2];rfl
      .rw[h1,h2];calc ⟨v,rfl,h3⟩
    |froK kvs=>
     dsimp only at e;cases e2:Az k with
     |none=>rw[e2]at e;ext e
     |some kk=>
      rw[e2]at e;ext e;let⟨ob,vs,e3,r⟩:=z;calc ⟨a,B7 vs kk,rfl,.inl ⟨vs,kk,.inr ⟨ob,e3⟩,Ig rk e2,rfl⟩,?_⟩;rcases Ip kk r with ⟨h1,h2⟩|⟨d,v,h1,h2,h3⟩
      .rw[h1,h2];rfl
      .rw[h1,h2];calc ⟨v,rfl,h3⟩
    |froT kvs=>
     dsimp only at e;cases e2:tkD k with
     |none=>rw[e2]at e;ext e
     |some kk=>
      rw[e2]at e;ext e;let⟨ob,vs,e3,r⟩:=z;let⟨b,rfl,eb⟩:=KQ rk e2;calc ⟨a,B7 vs kk,rfl,.inr ⟨vs,kk,b,.inr ⟨ob,e3⟩,rfl,eb,rfl⟩,?_⟩;rcases Ip kk r with ⟨h1,h2⟩|⟨d,v,h1,h2,h3⟩
      .rw[h1,h2];rfl
      .rw[h1,h2];calc ⟨v,rfl,h3⟩
    |_=>ext e
  |_=>ext e
def GK (M:Mem) (n:Nat) (k v:D):Option Mem:=match M[n]? with
 |some (.dict kvs)=>match Az k with
  |some kk=>if kvs.length<sizeLine then some (M.set n (.dict (E5 Az kvs kk k v))) else none
  |none=>none
 |some (.dicT kvs)=>match tkD k with
  |some kk=>if kvs.length<sizeLine then some (M.set n (.dicT (E5 tkD kvs kk k v))) else none
  |none=>none
 |_=>none
def Q5 {K:Yb} {L:Yg} {M M':Mem} {H:Hp} {n:Nat} {a:Yt} {k v:D} {w u:V} (c:Cor K L M H) (ea:L[n]?=some a) (rk:Rep L H k w) (rv:Rep L H v u) (e:GK M n k v=some M'):∃ H',Cy H a w u H'/\Cor K L M' H'/\Stp L H L H':=by
 erw[GK]at e;cases q:M[n]? with
 |none=>rw[q]at e;ext e
 |some m=>
  rw[q]at e;let z:=c.obj n a m ea q;cases m with
  |dict kvs=>
   dsimp only at e;cases e2:Az k with
   |none=>rw[e2]at e;ext e
   |some kk=>
    rw[e2]at e;dsimp only at e;cbv at e
    .rename_i hl;ext e;let⟨vs,e3,r⟩:=z;let⟨c3,s3⟩:=c.put (m:=.dict (E5 Az kvs kk k v)) (o':=.dK (Be vs kk u)) ea e3 (λ_ z=>by ext z) (λ_ _ z=>by ext z) λs3=>⟨_,CY,(OI e2 rv r).stp s3⟩;calc ⟨_,?_,c3,s3⟩;rw[Ig rk e2];exact Cy.k e3 (by rw[r.length];calc hl)
    .cases e
  |dicT kvs=>
   dsimp only at e;cases e2:tkD k with
   |none=>rw[e2]at e;ext e
   |some kk=>
    rw[e2]at e;dsimp only at e;cbv at e
    .rename_i hl;ext e;let⟨vs,e3,r⟩:=z;let⟨b,rfl,eb⟩:=KQ rk e2;let⟨c3,s3⟩:=c.put (m:=.dicT (E5 tkD kvs kk k v)) (o':=.dT (Be vs kk u)) ea e3 (λ_ z=>by ext z) (λ_ _ z=>by ext z) λs3=>⟨_,CY,(OI e2 rv r).stp s3⟩;exact ⟨_,Cy.t e3 eb (by rw[r.length];calc hl),c3,s3⟩
    .cases e
  |_=>ext e
section
variable {X:Cx} {a b e o i value:Expr} {pos pos' apos cpos:Pos} {f g h:FE}
def Cp:K2:=λx y M=>match y with
 |.dat k=>match FX M x k with
  |some (some d)=>some (.dat d,M)
  |_=>none
 |_=>none
def cK {K:Yb}:BG K (λx y H Q=>∃ a v,x=.ref a/\CD H a y (some v)/\Q v H) Cp:=by
 intro L M M' H H0 x y d v w Q c rx ry hk q;erw[Cp]at hk;cbv at hk
 .rename_i k;cbv at hk
  .rename_i d' e1;ext hk;let⟨a,ov,rfl,h1,h2⟩:=Md c rx ry e1;let⟨u,rfl,r⟩:=h2;exact ⟨a,u,rfl,h1,q L H u (.refl L H) c r⟩
  .cases hk
 .cases hk
def Vh (hu:X.A.units+1<cLine) (h1:QE X o f) (h2:QE X i g) (hs:MB i:=by intro _ _;rfl):QE X (.Subscript o i pos) (fOp Cp f g):=.mk <| PE.imp (Zi hu h1.un h2.un hs) λ_ _ _ h=>GL cK h
def DM (neg:Bool):K2:=λx y M=>match x with
  |.dat k=>match FX M y k with
    |some o=>some (.dat (.bl (if neg then !o.isSome else o.isSome)),M)
    |none=>none
  |_=>none
def RG {o:Option D} {ov:Option V} (h:Qf L H o ov):ov.isSome=o.isSome:=by
  cases o with
  | none => have h' : ov = none := h
            rw[h'];rfl
  |some d=>let⟨v,rfl,_⟩:=h;rfl
def eO {K:Yb}:BG K (λy x H Q=>∃ a o,x=.ref a/\CD H a y o/\Q (.bl o.isSome) H) (DM false):=by
 intro L M M' H H0 x y d v w Q c rx ry hk q;erw[DM]at hk;cbv at hk
 .rename_i k;cbv at hk
  .rename_i o e1;ext hk;let⟨a,ov,rfl,h1,h2⟩:=Md c ry rx e1;calc ⟨a,ov,rfl,h1,?_⟩;rw[RG h2];exact q L H _ (.refl L H) c (CP (L:=L) (H:=H))
  .cases hk
 .cases hk
def Tu {K:Yb}:BG K (λy x H Q=>∃ a o,x=.ref a/\CD H a y o/\Q (.bl (!o.isSome)) H) (DM true):=by
 intro L M M' H H0 x y d v w Q c rx ry hk q;erw[DM]at hk;cbv at hk
 .rename_i k;cbv at hk
  .rename_i o e1;ext hk;let⟨a,ov,rfl,h1,h2⟩:=Md c ry rx e1;calc ⟨a,ov,rfl,h1,?_⟩;rw[RG h2];exact q L H _ (.refl L H) c (CP (L:=L) (H:=H))
  .cases hk
 .cases hk
def TJ (hu:X.A.units+1<cLine) (h1:QE X a f) (h2:QE X b g) (hm:behindInMarks .In b=false:=by rfl):QE X (.Compare a [.In] [b] pos) (fOp (DM false) f g):=.mk <| PE.imp (dY (Vq hu h1.un h2.un) hm) λ_ _ _ h=>GL eO h
def Tq (hu:X.A.units+1<cLine) (h1:QE X a f) (h2:QE X b g) (hm:behindInMarks .NotIn b=false:=by rfl):QT X (.Compare a [.NotIn] [b] pos) (tst (fOp (DM true) f g)):=.mk <| PT.imp (VZ (X0 hu h1.un h2.un) hm) λ_ _ _ h=>RX (λ_ _ _ z=>GL Tu z) (Mo h)
def IH (fv fo fi:FE):FS:=λY M=>match toD fv Y M with
 |some (v,M1)=>match toD fo Y M1 with
  |some (.ref n,M2)=>match toD fi Y M2 with
   |some (k,M3)=>match GK M3 n k v with
    |some M4=>some (.nx,Y,M4)
    |none=>none
   |none=>none
  |_=>none
 |none=>none
def S8 (hu:X.A.units+1<cLine) (hv:QE X value f) (ho:QE X o g) (hi:QE X i h) (hs:swapsWith value (some (.Subscript o i pos')) pos.line X.env=pure false:=by rfl):QS X (.Assign [.Subscript o i pos'] value pos) (IH f g h) :=
 .mk <| PS.imp (SK hu (DZ ho).un (DZ hi).un (DZ hv).un hs) λE τ H zz=>by
  let⟨L,Y,M,out,Y',M',c,rs,hf,q⟩:=zz;erw[IH]at hf;cbv at hf
  .rename_i v M1 e1;cbv at hf
   .rename_i n M2 e2;cbv at hf
    .rename_i k M3 e3;cbv at hf
     .rename_i M4 e4;ext hf;refine (mkD c rs e1 (λL1 H1 u s1 c1 r1=>(mkD c1 (rs.stp s1) e2 (λL2 H2 y s2 c2 r2=>(mkD c2 ((rs.stp s1).stp s2) e3 (λL3 H3 z s3 c3 r3=>?_))))));erw[Rep]at r2;let⟨a,rfl,ea⟩:=r2;let ea3:L3[n]?=some a:=by let⟨N,hN⟩:=s3.pre;rw[hN];exact F9 ea
      let⟨H4,h1,h2,h3⟩:=Q5 c3 ea3 r3 ((r1.stp s2).stp s3) e4;exact ⟨a,H4,rfl,h1,q L3 H4 (((s1.trans s2).trans s3).trans h3) h2 τ ((((rs.stp s1).stp s2).stp s3).stp h3)⟩
     .cases hf
    .cases hf
   .cases hf
  .cases hf
end
end L3
namespace L2
def VU (hu:A.units+1<cLine) (I:Inv X zB Y H s) (g:Cy H a y v H') (ry:zf y u) (rv:zf v r) (h:∀ s',Inv X zB Y H' s'->Heap.SameBut a s.heap s'.heap->Q Unit.unit s') :
  wpAny (model X.prog X.w) A (dictSet a u r) Q E s:=by
 rcases g with ⟨kvs,k,e,ey,l,eH⟩|⟨kvs,k,b,e,ey,eb,l,eH⟩
 .subst ey eH;let⟨z,hd,vs,rel,dd⟩:=ME I.hok e;let hz:vs.length<=sizeLine:=by rw[<-rel.length];exact z
  let hl:(Be kvs k v).length<=sizeLine:=by have:=IG kvs k v;omega
  refine wpAny_dictSet_pairs (F3 ry) dd λh' dd' hs=>h _ ?_ hs;let he:∃ q,h'.get? a=some q:=let ⟨q,_,_,hq,_⟩:=dd';⟨q,hq⟩;exact Gx I (by rw[e];calc True.intro) hs he (LX hl hd (rel.put k rv) dd')
 .subst ey eH;cases (show u=Value.ref b from ry);let⟨z,hd,xs,rel,dd⟩:=Qv I.hok e;let hz:xs.length<=sizeLine:=by rw[<-Paired.length rel];exact z
  let hl:(Be kvs k v).length<=sizeLine:=by have:=IG kvs k v;omega
  refine wpAny_dictSet_heap (show (tupleKind (B8 X.prog X.w)).room A from Nat.lt_of_succ_lt hu) (Gb I.hok eb) dd λh' dd' hs=>h _ ?_ hs;let⟨q,es,ep,hq,h2,h3,h4,_,h5⟩:=dd';refine Gx I (by rw[e];calc True.intro) hs ⟨q,hq⟩ ⟨hl,hd,_,(rel.put k eb rv).keeps λc ys ec=>?_,q,es,ep,hq,h2,h3,h4,h5⟩;rw[zS (GA ec e (λz=>nomatch z))];calc ec
def IM (isT:Bool):HO:=if isT then .dT [] else .dK []
abbrev Fv:Obj:={ cls:=.type "dict", data:=.dict #[] }
end L2
namespace L3
open L2
def LA (isT:Bool):MO:=if isT then .dicT [] else .dict []
def BS:Nat->D->Bool
 |0,.int _=>true
 |n+1,.tup ds=>ds.all (BS n)
 |_,_=>false
def BR:Nat->D->D->Bool
 |0,.int i,.int j=>decide (i=j)
 |n+1,.tup xs,.tup ys=>xs.length==ys.length&&(xs.zip ys).all λq=>BR n q.1 q.2
 |_,_,_=>false
theorem Kn:∀ (n:Nat) (x:D),BS n x=true->BR n x x=true
 |0,.int i,_=>by simp[BR]
 |n+1,.tup xs,h=>by
  erw[BS]at h;erw[BR];rw[Ap]at h;simp only[beq_self_eq_true,Bool.true_and];rw[Ap];intro q hq;have:q.1=q.2:=by
   let⟨i,hi,e⟩:=EY hq;rw[List.getElem_zip]at e;rw[<-e]
  rw[<-this];calc Kn n _ (h q.1 (List.of_mem_zip hq).1)
 |0,.non,h=>by ext h
 |0,.bl _,h=>by ext h
 |0,.str _,h=>by ext h
 |0,.tup _,h=>by ext h
 |0,.ref _,h=>by ext h
 |n+1,.non,h=>by ext h
 |n+1,.bl _,h=>by ext h
 |n+1,.int _,h=>by ext h
 |n+1,.str _,h=>by ext h
 |n+1,.ref _,h=>by ext h
def aO:∀ (n:Nat) (x y:D),BS n x=true->BS n y=true->BR n x y=true->x=y:=by
 intro n;induction n with
 |zero=>
  intro x y hx hy h;cases x <;> first|cases hx|skip
  cases y <;> first|cases hy|skip
  erw[BR]at h;rw[B2 h]
 |succ n ih=>
  intro x y hx hy h;cases x <;> first|cases hx|skip
  cases y <;> first|cases hy|skip
  rename_i xs ys;unfold BS at hx hy;erw[BR]at h;rw[Ap]at hx hy;rw[BE,beq_iff_eq,Ap]at h;congr 1;apply List.ext_getElem h.1;intro i h1 h2;refine ih _ _ (hx _ (Bd h1)) (hy _ (Bd h2)) ?_;exact h.2 (xs[i],ys[i]) (by
   let hz:i<(xs.zip ys).length:=by rw[List.length_zip];omega
   have:=Bd hz;rw[List.getElem_zip]at this;calc this)
def Qe:∀ (n:Nat) (x y:D) (v:V),BS n x=true->BS n y=true->Rep L H x v->Rep L H y v->x=y:=by
 intro n;induction n with
 |zero=>
  intro x y v hx hy rx ry;cases x <;> first|cases hx|skip
  cases y <;> first|cases hy|skip
  unfold Rep at rx ry;rw[rx]at ry;ext ry;rfl
 |succ n ih=>
  intro x y v hx hy rx ry;cases x <;> first|cases hx|skip
  cases y <;> first|cases hy|skip
  rename_i xs ys;unfold BS at hx hy;rw[Ap]at hx hy;unfold Rep at rx ry;let⟨a,vs,rfl,e,r⟩:=rx;let⟨a',vs',e1,e2,r'⟩:=ry;ext e1;rw[e]at e2;ext e2;congr 1;let hl:xs.length=ys.length:=by rw[<-r.length,r'.length]
  apply List.ext_getElem hl;intro i h1 h2;let⟨u,hu,ru⟩:=r.get (AM h1);let⟨u',hu',ru'⟩:=r'.get (AM h2);rw[hu]at hu';ext hu';calc ih _ _ u (hx _ (Bd h1)) (hy _ (Bd h2)) ru ru'
def U3 {xs ys:List D} (f:D->D->Bool) (h:xs.length=ys.length):((List.range xs.length).all λj=>f (xs.getD j .non) (ys.getD j .non))=(xs.zip ys).all λq=>f q.1 q.2:=by
  rw[C9,Ap,Ap];constructor
  . intro hh q hq
    let⟨i,hi,e⟩:=EY hq;rw[List.getElem_zip]at e;rw[List.length_zip]at hi;have:=hh i (by simp;omega);rw[<-e];simpa [By,show i<xs.length by omega,show i<ys.length by omega] using this
  . intro hh i hi
    let h1:i<xs.length:=by simpa using hi
    let h2:i<ys.length:=()
    let hz:i<(xs.zip ys).length:=by rw[List.length_zip];omega
    have:=hh (xs.zip ys)[i] (Bd hz);rw[List.getElem_zip]at this;simpa [By,h1,h2] using this
def R6 (I : Inv X zB Y H s) : ∀ (n : Nat) (A : Around) (x y : D) (v w : V) (u u' : Value), A.units + n < cLine -> BS n x = true -> BS n y = true -> Rep L H x v -> Rep L H y w -> zf v u -> zf w u' -> SeqAt.EqAt A s u u' (BR n x y) := by
  intro n;induction n with
  |zero=>
    intro A x y v w u u' hu hx hy rx ry ru ru';cases x <;> first|cases hx|skip
    cases y <;> first|cases hy|skip
    unfold Rep at rx ry;subst rx;subst ry;let⟨t,rfl⟩:=ru;let⟨t',rfl⟩:=ru';have:=SeqAt.EqAt.int_int (A:=A) (s:=s) ‹Int› t ‹Int› t';erw[BR];rename_i i j;let h:=SeqAt.EqAt.int_int (A:=A) (s:=s) i t j t';let e:(i==j)=decide (i=j):=by by_cases q:i=j <;> simp[q]
    rw[e]at h;calc h
  | succ n ih =>
    intro A x y v w u u' hu hx hy rx ry ru ru';cases x <;> first|cases hx|skip
    cases y <;> first|cases hy|skip
    rename_i xs ys;let hx':=hx;let hy':=hy;let rx':=rx;let ry':=ry;unfold BS at hx hy;rw[Ap]at hx hy;unfold Rep at rx ry;let⟨a,vs,rfl,e,r⟩:=rx;let⟨b,ws,rfl,e2,r2⟩:=ry;ext ru;ext ru';by_cases hab:a=b
    . subst hab
      have:=Qe (n+1) _ _ _ hx' hy' rx' ry';rw[this,Kn (n+1) _ hy'];exact SeqAt.EqAt.same _
    · refine SeqAt.EqAt.of_refs hab ?_
      let⟨its,rv,p1,_⟩:=I.tuple (.of e);let⟨its2,rv2,p2,_⟩:=I.tuple (.of e2);let l1:its.toArray.size=xs.length:=by rw[AO,<-rv.length,r.length]
      let l2:its2.toArray.size=ys.length:=by rw[AO,<-rv2.length,r2.length]
      have key := SeqAt.RcAt.tuples (A := A) (items := its.toArray) (items2 := its2.toArray) (e := fun j => BR n (xs.getD j .non) (ys.getD j .non)) p1 p2 (by omega) (fun j h1 h2 => by
        let j1:j<xs.length:=()
        let j2:j<ys.length:=()
        let⟨q1,g1,t1⟩:=r.get (AM j1);let⟨q2,g2,t2⟩:=r2.get (AM j2);let⟨o1,k1,m1⟩:=rv.get g1;let⟨o2,k2,m2⟩:=rv2.get g2
        have z1 : its.toArray[j] = o1 := by have : its.toArray[j]? = some o1 := by simpa using k1
                                            rw[DC h1]at this;exact Bb this
        have z2 : its2.toArray[j] = o2 := by have : its2.toArray[j]? = some o2 := by simpa using k2
                                             rw[DC h2]at this;exact Bb this
        rw[z1,z2];let w1:xs.getD j .non=xs[j]:=by simp[By,j1]
        let w2:ys.getD j .non=ys[j]:=by simp[By,j2]
        rw[w1,w2];calc ih A.in1 _ _ _ _ _ _ (by show A.units+1+n<cLine;omega) (hx _ (Bd j1)) (hy _ (Bd j2)) t1 t2 m1 m2)
      let fin:((List.range (min its.toArray.size its2.toArray.size)).all (λj=>BR n (xs.getD j .non) (ys.getD j .non))&&its.toArray.size==its2.toArray.size)=BR (n+1) (.tup xs) (.tup ys):=by
        rw[l1,l2];show _=(xs.length==ys.length&&(xs.zip ys).all λq=>BR n q.1 q.2);by_cases hl:xs.length=ys.length
        .rw[hl,Nat.min_self,<-hl,U3 (BR n) hl,Bool.and_comm]
        . have:(xs.length==ys.length)=false:=by simpa using hl
          rw[this];simp
      rw[fin]at key;calc key
def nb (neg b:Bool):Bool:=if neg then !b else b
def PX (n:Nat) (hn:n<=8) (hr:Room k A):A.units+1+n<cLine:=by
 have:=hr.units;omega
open Builtin
def TR:fillsNumberSlot (.type "tuple") "mul" = pure false :=
 PySem.fillsNumberSlot_seq F.slot_tuple_mul.lookup (by decide+kernel) F.slot_tuple_rmul.lookup (by decide+kernel)
def aM:seqRepeat? (.type "tuple")=pure (some (.builtin "tuple.__mul__")):=by
 erw[seqRepeat?];rw[PySem.seqSlot_of (name := "__mul__") F.slot_tuple_mul.lookup (by decide+kernel),PySem.seqSlot_of (name := "__rmul__") (id := "tuple.__rmul__") F.slot_tuple_rmul.lookup (by decide+kernel)];rfl
def WZ (a:Int) (t:Tok) (l:Yt) (items:Yp) (n:Nat) (dd:Option Addr) (sl:Array (Option Value)) :
  Meets (Builtin.«int.__rmul__» ⟨[.int a t,.ref l],[]⟩) (λ_ R s=>s.heap.get? l=some { cls:=.type "tuple", dict:=dd,data:=.seq items n,slots:=sl }/\R (.ok (.ret Value.notImplemented)) s) :=
 .of_wp λprog w A R s h=>by let⟨hp,g,d,tk,os⟩:=s;let⟨hl,h⟩:=h;wp_walk using wpAny_loadPart' hl;calc ⟨_,rfl,h⟩
def Vj (l:Yt) (items:Yp) (n:Nat) (dd:Option Addr) (sl:Array (Option Value)) (u:Tok) :
  Meets (Builtin.«tuple.__mul__» ⟨[.ref l,.int 1 u],[]⟩) (λ_ R s=>s.heap.get? l=some { cls:=.type "tuple", dict:=dd,data:=.seq items n,slots:=sl }/\R (.ok (.ret (.ref l))) s) :=
 .of_wp λprog w A R s h=>by
  let⟨hp,g,d,tk,os⟩:=s;let⟨hl,h⟩:=h;let f1:=AutoSeq1.idx_int;wp_walk using wpAny_loadPart' hl;calc ⟨_,rfl,h⟩
def d9 (l:Yt) (items:Yp) (n:Nat) (dd:Option Addr) (sl:Array (Option Value)) (x:Int) (u:Tok) (h0:¬ (decide (x < -(2 ^ 63))||decide (x≥2 ^ 63))=true) (h1:¬ (items.isEmpty||x==1)=true) (h2:¬ (decide (x<=0)||items.isEmpty)=true) (h3:¬ (items.size:Int)*x>(2 ^ 63-1) / 8) (h4:¬ Builtin.Tuple.tupleTooMany (items.size*x)=true)
  (hsz:(List.foldl (λx1 x2=>x1++x2) #[] (List.replicate x.toNat items)).size<=sizeLine) :
  Meets (Builtin.«tuple.__mul__» ⟨[.ref l,.int x u],[]⟩) (λ_ R s=>s.heap.get? l=some { cls:=.type "tuple", dict:=dd,data:=.seq items n,slots:=sl }/\R (.ok (.ret (Value.ref ⇑s))) { s with heap:=s.heap.push { cls:=Value.type "tuple", data:=Data.seq (List.foldl (λx1 x2=>x1++x2) #[] (List.replicate x.toNat items)) },toks:=s.toks }) :=
 .of_wp λprog w A R s h=>by
  let⟨hp,g,d,tk,os⟩:=s;let⟨hl,h⟩:=h;let f1:=AutoSeq1.idx_int;wp_walk using wpAny_loadPart' hl;rw[AE h0];wp_walk using wpAny_loadPart' hl;rw[AE h3];wp_walk using wpAny_loadPart' hl;all_goals first|exact ⟨_,rfl,h⟩|skip
def Pd (K:Yb):R2:=λx y H Q=>∃ a k xs,x=.ref a/\y=.int k/\SqT K H a xs/\xs≠[]/\1<=k/\xs.length*k.toNat<=sizeLine /\
 (k=1->Q (.ref a) H)/\(k≠1 -> ∀ p,H p=none->Q (.ref p) (upd H p (.tup (List.replicate k.toNat xs).flatten)))
def TC:OpR X (binaryOp .Mult) (Pd X.K):=by
 intro zB s Y H x y v u Q I rx ry h;let⟨a,k,xs,rfl,rfl,ha,hx,hk,hz,q1,q2⟩:=h;ext rx;let⟨t,rfl⟩:=ry;let⟨its,r,p1,_⟩:=I.tuple ha;let⟨⟨cls,dd,data,sl⟩,ho,hc,n,hd⟩:=id p1;simp only at hc hd;subst hc hd;let hl:its.toArray.size=xs.length:=by rw[AO];exact r.length.symm
 let hx0:0<xs.length:=List.length_pos_iff.mpr hx;let hkz:k.toNat<=sizeLine:=Ao (Nat.le_mul_of_pos_left _ hx0) hz;let hk63:k<2 ^ 63:=by
  have:(sizeLine:Nat)<2 ^ 62:=()
  omega
 refine wpAny_binaryOp_repeat_ref () ⟨_,ho,rfl⟩ (λs'=>typeIs_int s' k t) TR F.fills_int_mul F.slot_int_rmul aM F.slot_int_index.lookup
  (call_meets F.slot_int_rmul (typeIs_int s k t) F.entry_int_rmul (F.args_int_rmul_2 _ _) (WZ k t a its.toArray n dd sl)
   ⟨ho,rfl,⟨_,ho,rfl⟩,?_⟩)
 by_cases h1:k=1
 .subst h1;exact call_meets F.slot_tuple_mul ⟨_,ho,rfl⟩ F.entry_tuple_mul (F.args_tuple_mul_2 _ _) (Vj a its.toArray n dd sl t) ⟨ho,⟨.ref a,H,I,rfl,q1 rfl⟩⟩
 .have hnew:List.foldl (λx1 x2=>x1++x2) #[] (List.replicate k.toNat its.toArray)=(List.replicate k.toNat its).flatten.toArray:=by
   have:=MQ its k.toNat [];rw[List.nil_append]at this;exact this
  let hlr:(List.replicate k.toNat its).flatten.length<=sizeLine:=by
   rw[MR,<-r.length,Nat.mul_comm];exact hz
  let hem:its.toArray.isEmpty=false:=by
   rw[Array.isEmpty_eq_false_iff];intro z;rw[z]at hl;simp at hl;omega
  let hprod:((its.toArray.size:Int))*k=((xs.length*k.toNat:Nat):Int):=by
   rw[hl];rw[Int.natCast_mul,show ((k.toNat:Nat):Int)=k by omega]
  refine call_meets F.slot_tuple_mul ⟨_,ho,rfl⟩ F.entry_tuple_mul (F.args_tuple_mul_2 _ _) (d9 a its.toArray n dd sl k t ?_ ?_ ?_ ?_ ?_ ?_) ⟨ho,?_⟩
  .rw[Al (),Al ()];decide
  .rw[hem,Bool.false_or];intro z;exact h1 (eq_of_beq z)
  .rw[hem,Bool.or_false,Al ()];decide
  .rw[hprod];have:(sizeLine:Nat)<=(2 ^ 63-1) / 8:=()
   omega
  .rw[hprod];erw[Builtin.Tuple.tupleTooMany];rw[Al ()];decide
  .rw[hnew,AO];exact hlr
  .rw[hnew];refine ⟨.ref ⇑s,_,I.laid (λb ob q=>AH _ q) (AF _) ?_,rfl,q2 h1 _ (I.hok.fresh (AF _))⟩;calc ⟨by rw[MR,Nat.mul_comm];calc hz,_,r.rep k.toNat,C4.new _ _⟩
def zG.rep (h:zG L H ds vs):∀ k:Nat,zG L H (List.replicate k ds).flatten (List.replicate k vs).flatten
 |0=> .nil
 |k+1=>by
  rw[Ew,Ew,Fm,Fm];calc zG.app h (zG.rep h k)
def Ez:K2:=λx y M=>match y with
 |.dat (.int k)=>match Cc x with
  |some xs=>if 0<xs.length/\1<=k/\xs.length*k.toNat<=sizeLine then some (.dat (.tup (List.replicate k.toNat xs).flatten),M) else none
  |none=>match EW M x with
   |some xs=>if -(2 ^ 63)<=k/\k<2 ^ 63/\xs.length*k.toNat<=sizeLine then some (.fl (List.replicate k.toNat xs).flatten,M) else none
   |none=>none
 |_=>none
def R8 {K:Yb}:BG K (λx y H Q=>RM x y H Q\/Pd K x y H Q) Ez:=by
 intro L M M' H H0 x y d v w Q c rx ry hk q;erw[Ez]at hk;cbv at hk
 .rename_i k;let hw:w=.int k:=by erw[zR,Rep]at ry;exact ry
  subst hw;cbv at hk
  .rename_i xs e1;cbv at hk
   .rename_i hz;ext hk;let⟨p1,vs,rfl,h1,r1⟩:=Dx rx e1;refine .inr ⟨p1,k,vs,rfl,rfl,.of h1,?_,hz.2.1,by rw[r1.length];exact hz.2.2,λz=>?_,λz pp hp=>?_⟩
    .intro z;have:=r1.length;rw[z]at this;simp at this;omega
    .subst z;refine q L H _ (.refl L H) c ?_;have:(List.replicate (1:Int).toNat xs).flatten=xs:=by simp
     rw[this];erw[zR,Rep];exact ⟨p1,vs,rfl,h1,r1⟩
    .exact q L _ _ (.upd hp) (c.upd hp) (Rep.newTup hp (r1.rep k.toNat))
   .cases hk
  .split at hk
   .rename_i xs e1;cbv at hk
    .rename_i hz;ext hk;let⟨l,vs,rfl,h1,r1⟩:=LN c rx e1;refine .inl ⟨l,k,vs,rfl,rfl,h1,hz.1,hz.2.1,by rw[r1.length];exact hz.2.2,λp hp=>?_⟩;exact q L _ _ (.upd hp) (c.upd hp) (zR.newLst (.refl L H) c c hp (r1.rep k.toNat))
    .cases hk
   .cases hk
 .cases hk
def dR (h1:QE X a f) (h2:QE X b g):QE X (.BinOp a .Mult b pos) (fOp Ez f g):=E9 R8 (cS.or TC) h1 h2
def II:KB:=λxs M=>match xs with
 |[.dat (.int i),.dat (.int j)]=>some (.dat (.int (if j>i then j else i)),M)
 |_=>none
def WV (r:Ct H0 L H [.dat (.int i),.dat (.int j)] vs):vs=[.int i,.int j]:=by
 erw[Ct]at r;let⟨v,r1,rfl,a1,a2⟩:=r;erw[Ct]at a2;let⟨v2,r2,rfl,b1,b2⟩:=a2;erw[Ct]at b2;subst b2;unfold zR Rep at a1 b1;subst a1 b1;rfl
def UL {K:Yb}:Dc K (λxs H Q=>∃ i j,xs=[.int i,.int j]/\Q (.int (if j>i then j else i)) H) II:=by
 intro L M M' H H0 xs d vs Q c r hk q;erw[II]at hk;cbv at hk
 .rename_i i j;ext hk;exact ⟨i,j,WV r,q L H _ (.refl L H) c (CO (L:=L) (H:=H))⟩
 .cases hk
def aG (hcalm:X.calm=true) (hg:Gl X "max") (hm:X.mg "max" = none) (ha:QAE X [e,e2] fa) (he:starEach [e,e2] X.env=(false,eval e X.env)::starEach [e2] X.env:=by rfl) (hpl:(backTo pos (starEach [e2] X.env)).any (·.1)=false:=by rfl):QE X (.Call (.Name "max" p) [e,e2] [] pos) (fB II fa) :=
 Gf UL (cN hcalm) (by rfl) hg hm ha () () he hpl
def GX:KM:=λx ds M=>match x,ds with
 |.dat (.ref n),[.ref m]=>match M[n]?,M[m]? with
  |some (.lst xs),some (.lst ys)=>if xs.length+ys.length<=sizeLine then some (.non,M.set n (.lst (xs++ys))) else none
  |_,_=>none
 |_,_=>none
def ZX {K:Yb}:J4 K NI GX:=by
 intro L M M' H H0 x ds d v vs Q c rx rd hk q;erw[GX]at hk;cbv at hk
 .rename_i n m;cbv at hk
  .rename_i xs ys e1 e1';cbv at hk
   .rename_i hz;ext hk;erw[zR,Rep]at rx;let⟨a,rfl,e2⟩:=rx;let⟨ws,e3,r3⟩:=c.obj n a _ e2 e1;let⟨w,rfl,r4⟩:=rd.one;erw[Rep]at r4;let⟨b,rfl,e4⟩:=r4;let⟨zs,e5,r5⟩:=c.obj m b _ e4 e1';let⟨c5,s5⟩:=c.write e2 e1 (r3.app r5);exact ⟨a,b,ws,zs,rfl,rfl,e3,e5,by rw[r3.length,r5.length];calc hz,q L _ _ s5 c5 (by erw[Rep];rfl)⟩
   .cases hk
  .cases hk
 .cases hk
def US (h:QE X a f) (hg:QA X [e] fg) (hbase:attributeBase a "extend" X.env (eval a X.env)=eval a X.env:=by rfl)
  (hfew:((backTo cpos (starEach [e] X.env)).all (λx=> !x.1)&&(backToKw cpos (keywordEach [] X.env)).all (λx=>x.1.isSome)&&decide ([e].length+([]:List Keyword).length+(if ([]:List Keyword).isEmpty then 0 else 1)<30))=true:=by rfl)
  (hline:(apos.endLine==cpos.line)=true:=by rfl) (hs:starEach [e] X.env=(false,eval e X.env)::starEach [] X.env:=by rfl) (hplain:(backTo cpos (starEach [] X.env)).any (·.1)=false:=by rfl) :
  QE X (.Call (.Attribute a "extend" apos) [e] [] cpos) (fM GX f fg) :=
 .mk <| PE.imp (Kr PySem.F.plainAttrs_list PySem.F.slot_list_extend PySem.F.type_list_extend So h.un hg.un hbase hfew hline hs hplain) λ_ _ _ z=>Ll ZX z
end L3
namespace HT
def eP (n:Nat):Builtin.Slice.sliceAdjust none none (-1) (n:Int)=((n:Int)-1,-1):=by
 let h1:((-1:Int)<0):=()
 erw[Builtin.Slice.sliceAdjust];simp only[h1,if_true]
def Sj (n:Nat):Builtin.Slice.slicePlaces ((n:Int)-1) (-1) (-1)=n:=by
 erw[Builtin.Slice.slicePlaces];let h1:¬ ((-1:Int)>0):=()
 simp only[h1,B6,Int.neg_neg,Int.ediv_one];split <;> omega
def Ub {sl:Yt} {t:Tok} {n:Nat} {Q:Int × Int × Nat->Shared->Prop} (hs:s.heap.IsSliceOf sl .none .none (.int (-1) t))
  (h:Q ((n:Int)-1,-1,n) s):wpAny (model prog w) A (Builtin.Slice.sliceApplied (.ref sl) (pure (n:Int))) Q E s:=by
 let⟨os,hos,hcs,hds⟩:=id hs;erw[Builtin.Slice.sliceApplied,Builtin.Slice.sliceFields];calc AA (AA (Ad hos hds rfl (AA (Ad hos hds rfl (AA (Ad hos hds rfl (AB ?_)))))));calc AA (slicePart_int ?_);rw[AE ()];calc AA (slicePart_none (AA (slicePart_none (AA (AB ?_)))));show wpAny _ _ (match Builtin.Slice.sliceAdjust none none (-1) (n:Int) with|(lo,hi)=>pure (lo,(-1:Int),Builtin.Slice.slicePlaces lo hi (-1))) _ _ s;rw[eP n];show wpAny _ _ (pure ((n:Int)-1,(-1:Int),Builtin.Slice.slicePlaces ((n:Int)-1) (-1) (-1))) _ _ s;rw[Sj];calc AB h
def YN (vs:Yf):((List.range vs.length).filterMap λ(m:Nat)=>vs.toArray[(((vs.length:Int)-1)+(m:Int)*(-1)).toNat]?).toArray=vs.reverse.toArray:=by
 congr 1;let key:∀ k,k<=vs.length->((List.range k).filterMap λ(m:Nat)=>vs.toArray[(((vs.length:Int)-1)+(m:Int)*(-1)).toNat]?)=vs.reverse.take k:=by
  intro k;induction k with
  |zero=>intro _;simp
  |succ k ih=>
   intro hk;rw[List.range_succ,List.filterMap_append,ih ()];let e:(((vs.length:Int)-1)+(k:Int)*(-1)).toNat=vs.length-1-k:=()
   let e2:vs.toArray[vs.length-1-k]?=vs.reverse[k]?:=by
    rw[List.getElem?_reverse (),List.getElem?_toArray]
   let hlt:k<vs.reverse.length:=by rw[List.length_reverse];omega
   rw[List.take_succ,List.filterMap_cons,e,e2,AM hlt];rfl
 rw[key _ (AF _),E8 (by simp)]
def VL {vs:Yf} (ht:IsTup s.heap a vs.toArray) (hs:s.heap.IsSliceOf sl .none .none (.int (-1) t))
  (h:Q (.ref ⇑s) { s with heap:=s.heap.push { cls:=.type "tuple", data:=.seq vs.reverse.toArray } })
  (hsz:vs.length<=sizeLine):wpAny (model prog w) A (getItem (.ref a) (.ref sl)) Q E s:=by
 let htake:sizeOk (.seq vs.reverse.toArray):=by
  show vs.reverse.toArray.size<=sizeLine;rw[AO,List.length_reverse];exact hsz
 let⟨os,hos,hcs,hds⟩:=id hs;let hTs:s.TypeIs (.ref sl) "slice" := ⟨os,hos,hcs⟩;erw[getItem];try with_reducible refine BQ ?_
 first|refine AA (AB ?_)|skip
 refine AA (wpAny_sequenceKey ht.typeIs () ?_)
 refine AA (CA ht.typeIs Dy
  (BI Dy ht.typeIs entry_tuple_getitem ?_ (args_tuple_getitem _ _)))
 show wpAny _ _ (Builtin.Tuple.tupleItemsOf (.ref a) >>= _) _ _ s;calc AA (tupleItemsOf_ ht ?_);calc AA (Co hTs ?_);rw[AD ()];let hz:vs.toArray.size=vs.length:=AO;calc AA (Ub hs ?_);show wpAny _ _ (if (((vs.toArray.size:Int)-1)==0&&(-1:Int)==1&&vs.toArray.size==vs.toArray.size)=true then _ else _) _ _ s;rw[AE (by simp),hz,YN]
 first
  |calc AA (A9 (AB ⟨_,rfl,AB h⟩) htake)
  |calc AA (A9 (AA (AB (AB ⟨_,rfl,AB h⟩))) htake)
  |calc AA (AA (A9 (AB (AB ⟨_,rfl,AB h⟩)) htake))
  |calc AA (AA (A9 (AB ⟨_,rfl,AB h⟩) htake))
end HT
namespace L3
open L2
section
variable {a b o e e2 st:Expr}
def Zo (he:PE X e te) (hs:PO X (some st) ts):PE X (.Subscript e (.Slice none none (some st) p2) pos) (λY H Q=>te Y H λx H1=>ts Y H1 λo H2=>o=some (-1) /\ ∃ a xs,x=.ref a/\SqT X.K H2 a xs /\ ∀ p,H2 p=none->Q (.ref p) (upd H2 p (.tup xs.reverse))):=by
 intro zB s Y H Q I h;refine Subscript_ (thn (he zB s Y H _ I h) λv s1 ⟨x,H1,I1,r1,q1⟩=>?_);calc wpAny_Slice ?_;rw[evalPart_none];calc AB (AB ?_);refine thn (hs zB s1 Y H1 _ I1 q1) λvl s2 ⟨l,H2,I2,pl,el,a,xs,ex,hx,q2⟩=>?_;subst el ex;ext r1;cases pl with
 |int i t=>
 let I4:Inv X zB Y H2 { s2 with heap:=s2.heap.push { cls:=.type "slice", data:=.fields #[.none,.none,.int (-1) t] } }:=I2.kept λb ob q=>AH _ q;let⟨its,r,ht,hz⟩:=I4.tuple hx;calc tail_any ht.typeIs Dy.lookup ?_ (by with_unfolding_all rfl);calc HT.VL ht (Heap.IsSliceOf.new ..) ?_ (by rw[<-r.length];calc hz);refine ⟨.ref _,_,I4.laid (λb ob q=>AH _ q) (AF _) ?_,rfl,q2 _ (I4.hok.fresh (AF _))⟩;calc ⟨by rw[List.length_reverse];calc hz,_,r.reverse,C4.new _ _⟩
def Iv (f:FE) (fs:FO):FE:=λY M=>match f Y M with
 |some (x,M1)=>match fs Y M1 with
  |some (some (-1),M2)=>match Cc x with
   |some xs=>some (.dat (.tup xs.reverse),M2)
   |none=>none
  |_=>none
 |none=>none
def fD (h:QE X e f) (hs:QO X (some st) fs):QE X (.Subscript e (.Slice none none (some st) p2) pos) (Iv f fs) :=
 .mk <| PE.imp (Zo h.un hs.un) λτ H Q zz=>by
  let⟨L,Y,M,d,M',c,rs,hf,q⟩:=zz;erw[Iv]at hf;cbv at hf
  .rename_i x M1 e1;cbv at hf
   .rename_i M2 e2;cbv at hf
    .rename_i xs t;ext hf;refine ⟨L,Y,M,_,_,c,rs,e1,λL1 H1 v s1 c1 r1=>⟨L1,Y,M1,_,_,c1,rs.stp s1,e2,λL2 H2 s2 c2=>⟨rfl,?_⟩⟩⟩;let s:=s1.trans s2;let r3:zR H L2 H2 x v:=r1.stp s2;let⟨a,vs,rfl,e4,r4⟩:=Dx r3 t;refine ⟨a,vs,rfl,.of e4,λp hp=>?_⟩;exact q L2 _ _ (s.trans (.upd hp)) (c2.upd hp) (Rep.newTup hp (Kb r4))
    .cases hf
   .cases hf
  .cases hf
end
def GZ (fg:FG) (f:FE):FS:=λY M=>match toD f Y M with
 |some (d,M1)=>match fg d Y with
  |some σ1=>some (.nx,σ1,M1)
  |none=>none
 |none=>none
def Xw (hk:GOk g fg) (h:QE X e f) (hg:PG X tg g) (hs:swapsWithSole [tg] e pos.line X.env=pure false:=by rfl) (hw:swappedStores [tg] e X.env=pure none:=by rfl)
  (h1:(assignEach [tg] X.env).map (·.2)=[assign tg X.env]:=by rfl):QS X (.Assign [tg] e pos) (GZ fg f) :=
 .mk <| PS.imp (OC h.un hg hs hw h1) λE τ H zz=>by
  let⟨L,Y,M,o,Y',M',c,rs,hf,q⟩:=zz;erw[GZ]at hf;cbv at hf
  .rename_i d M1 e1;cbv at hf
   .rename_i σ1 e2;ext hf;refine NB ⟨L,Y,M,_,_,c,rs,e1,λL1 H1 v s1 c1 r1=>?_⟩;exact hk (rs.stp s1) r1 e2 λτ' rs'=>q L1 H1 s1 c1 τ' rs'
   .cases hf
  .cases hf
def M0:OkS (GZ fg f Y M) P ↔ Ok (f Y M) (Dq λd M1=>∃ σ1,fg d Y=some σ1/\P .nx σ1 M1):=by
 rw[<-Bu];erw[GZ];constructor
 .rintro ⟨o,Y',M',e,p⟩;cbv at e
  .rename_i d M1 e1;cbv at e
   .rename_i σ1 e2;ext e;exact ⟨d,_,e1,_,e2,p⟩
   .cases e
  .cases e
 .rintro ⟨d,M1,e1,σ1,e2,p⟩;calc ⟨.nx,σ1,M1,?_,p⟩;rw[e1];dsimp only;rw[e2]
def SI (b:Bool) (h:Heap) (it t:Yt) (k:Nat):Prop:=if b then h.IsTupleIter it t k else h.IsListIter it t k
def SO (b:Bool) (h:Heap) (t:Yt) (xs:Yp):Prop:=if b then h.IsTuple t xs else h.IsList t xs
abbrev itO (b:Bool) (t:Addr):Obj:={ cls:=.type (if b then "tuple_iterator" else "list_iterator"),data:=.fields #[.ref t,.int 0 0] }
def SI.keep (x:SI b h it t k) (e:∀ o,h.get? it=some o->h'.get? it=some o):SI b h' it t k:=by
 cases b with
 |true=>let⟨o,q,r⟩:=(show h.IsTupleIter it t k from x);calc (show h'.IsTupleIter it t k from ⟨o,e o q,r⟩)
 |false=>let⟨o,q,r⟩:=(show h.IsListIter it t k from x);calc (show h'.IsListIter it t k from ⟨o,e o q,r⟩)
def SO.keep (x:SO b h t xs) (e:∀ o,h.get? t=some o->h'.get? t=some o):SO b h' t xs:=by
 cases b with
 |true=>let⟨o,q,r⟩:=(show h.IsTuple t xs from x);calc (show h'.IsTuple t xs from ⟨o,e o q,r⟩)
 |false=>let⟨o,q,r⟩:=(show h.IsList t xs from x);calc (show h'.IsList t xs from ⟨o,e o q,r⟩)
def SI.but (x:SI b h a t i) (hs:Heap.ExtBut c h h') (n:a≠c):SI b h' a t i:=x.keep λo e=>hs a o n e
def SO.but (x:SO b h a its) (hs:Heap.ExtBut c h h') (n:a≠c):SO b h' a its:=x.keep λo e=>hs a o n e
def HE (I:SI b s.heap it t i) (T:SO b s.heap t its) (hx:its[i]?=some x)
  (q:∀ h',SI b h' it t (i+1)->Heap.SameBut it s.heap h'->Q x { s with heap:=h' }):wpAny (model prog w) A (Builtin.SmallTypes.nextOf (.ref it)) Q E s:=by
 cases b with
 |true=>calc Hm (show s.heap.IsTupleIter it t i from I) (show s.heap.IsTuple t its from T) hx q
 |false=>calc wpAny_nextOf_list_item (show s.heap.IsListIter it t i from I) (show s.heap.IsList t its from T) hx q
def Jo (hh:A.handled=none) (I:SI b s.heap it t i) (T:SO b s.heap t its) (hx:its[i]?=none)
  (q:∀ h' e,Heap.ExtBut it s.heap h'->(∃ o,h'.get? e=some o/\o.cls=.type "StopIteration")->E (.ref e) { s with heap:=h' }):wpAny (model prog w) A (Builtin.SmallTypes.nextOf (.ref it)) Q E s:=by
 cases b with
 |true=>calc Ih hh (show s.heap.IsTupleIter it t i from I) (show s.heap.IsTuple t its from T) hx q
 |false=>calc wpAny_nextOf_list_end hh (show s.heap.IsListIter it t i from I) (show s.heap.IsList t its from T) hx q
def Q4 (hl:SO b s.heap l items) (hQ:Q (.ref ⇑s) { s with heap:=s.heap.push (itO b l) }):wpAny (model prog w) A (pyIter (.ref l)) Q E s:=by
 cases b with
 |true=>calc E1 (show s.heap.IsTuple l items from hl) hQ
 |false=>calc wpAny_pyIter_list (show s.heap.IsList l items from hl) hQ
structure ZipG (b1 b2:Bool) (h:Heap) (z TI TO i1 i2 t1 t2:Yt) (f:Yu) (k1 k2:Nat):Prop where
 z:IsZip h z TI TO f
 ti:IsPair h TI (.ref i1) (.ref i2)
 to:∃ a b,IsPair h TO a b
 a:SI b1 h i1 t1 k1
 b:SI b2 h i2 t2 k2
def RI (e:h.get? it=some (itO b t)):SI b h it t 0:=by
 cases b with
 |true=>calc (show h.IsTupleIter it t 0 from ⟨_,e,rfl,rfl⟩)
 |false=>calc (show h.IsListIter it t 0 from ⟨_,e,rfl,rfl⟩)
abbrev IX (b1:Bool) (h:Heap) (a:Yt):Heap:=h.push (itO b1 a)
abbrev JP (b1 b2:Bool) (h:Heap) (a b:Yt):Heap:=IX b2 (IX b1 h a) b
abbrev J3 (b1 b2:Bool) (h:Heap) (a b:Addr):Heap:=(JP b1 b2 h a b).push { cls:=.type "tuple", data:=.seq #[.ref h.objs.size,.ref (IX b1 h a).objs.size] }
abbrev Jc (b1 b2:Bool) (h:Heap) (a b:Addr):Heap:=(J3 b1 b2 h a b).push { cls:=.type "tuple", data:=.seq #[.none,.none] }
abbrev Gy (b1 b2:Bool) (h:Heap) (a b:Addr):Heap:=(Jc b1 b2 h a b).push { cls:=.type "zip", data:=.fields #[.none,.bool false,.bool false,.ref (JP b1 b2 h a b).objs.size,.ref (J3 b1 b2 h a b).objs.size] }
def iO (b1 b2:Bool) (a b:Addr) (xs ys:Array Value):Meets (Builtin.«zip.__new__» ⟨[.type "zip", .ref a,.ref b],[]⟩) (λ_ R s=>SO b1 s.heap a xs/\SO b2 s.heap b ys/\R (.ok (.ret (.ref (Jc b1 b2 s.heap a b).objs.size))) { s with heap:=Gy b1 b2 s.heap a b }) :=
 .of_wp λprog w A R s h=>by
  let⟨hp,g,d,tk,os⟩:=s;let⟨Ta,Tb,h⟩:=h;let sz:=sub_zip;let U1:SO b1 (Shared.heap ⟨hp,g,d,tk,os⟩) a xs:=Ta;let U2:SO b2 (Shared.heap ⟨hp.push (itO b1 a),g,d,tk,os⟩) b ys:=Tb.keep λo e=>AH _ e;wp_walk using Q4 U1,Q4 U2;calc ⟨_,rfl,h⟩
def U9 (Ta:SO b1 s.heap a xs) (Tb:SO b2 s.heap b ys)
  (h:∀ h',ZipG b1 b2 h' (⇑s+4) (⇑s+2) (⇑s+3) ⇑s (⇑s+1) a b .none 0 0->(∀ c o,s.heap.get? c=some o->h'.get? c=some o)->Q (.ref (⇑s+4)) { s with heap:=h' }) :
  wpAny (model prog w) A (call (.type "zip") [.ref a,.ref b]) Q E s:=by
 refine callType_new PySem.F.called_zip () (PySem.F.typeCall_zip_2 _ _) (PySem.F.newCall_zip_2 _ _) (λobj=>PySem.F.args_object_init_3 obj _ _) PySem.F.entry_zip_new (iO b1 b2 a b xs ys) ⟨Ta,Tb,?_⟩;let q1:(IX b1 s.heap a).objs.size=⇑s+1:=Bn ..;let q2:(JP b1 b2 s.heap a b).objs.size=⇑s+2:=by rw[Bn,q1]
 let q3:(J3 b1 b2 s.heap a b).objs.size=⇑s+3:=by rw[Bn,q2]
 let q4:(Jc b1 b2 s.heap a b).objs.size=⇑s+4:=by rw[Bn,q3]
 let u:∀ {h:Heap} {c:Yt} {o p:Obj},h.get? c=some o->(h.push p).get? c=some o:=λe=>AH _ e;let p5:(Gy b1 b2 s.heap a b).get? (Jc b1 b2 s.heap a b).objs.size=some _:=AL _ rfl;let p4:(Gy b1 b2 s.heap a b).get? (J3 b1 b2 s.heap a b).objs.size=some _:=u (AL _ rfl);let p3:(Gy b1 b2 s.heap a b).get? (JP b1 b2 s.heap a b).objs.size=some _:=u (u (AL _ rfl));let p2:(Gy b1 b2 s.heap a b).get? (IX b1 s.heap a).objs.size=some _:=u (u (u (AL _ rfl)));let p1:(Gy b1 b2 s.heap a b).get? ⇑s=some _:=u (u (u (u (AL _ rfl))));rw[q2,q3,q4]at p5;rw[q1,q2]at p3;rw[q3]at p4;rw[q1]at p2;rw[q4];calc ⟨⟨_,p5,rfl⟩,h _ ⟨p5,p3,⟨_,_,p4⟩,RI p1,RI p2⟩ λc o x=>u (u (u (u (u x))))⟩
def SqG (K:Yb) (b:Bool) (H:Hp) (a:Yt) (xs:List V):Prop:=if b then SqT K H a xs else SqL K H a xs
def RV (I:Inv X zB Y H s) (h:SqG X.K b H a xs):∃ its,zT xs its/\SO b s.heap a its.toArray:=by
 cases b with
 |true=>let⟨its,rv,p1,_⟩:=I.tuple h;calc ⟨its,rv,p1⟩
 |false=>let⟨its,rv,p1,_⟩:=I.list h;calc ⟨its,rv,p1.isList⟩
def Qs (x:SO b h a its):a<h.objs.size:=by
 cases b with
 |true=>let⟨_,e,_⟩:=(show h.IsTuple a its from x);calc AI e
 |false=>let⟨_,e,_⟩:=(show h.IsList a its from x);calc AI e
def N1 {K:Yb} {L1:Yg} {M1:Mem} {H1:Hp} {x:D} {v:V} {xs:List D} (c1:Cor K L1 M1 H1) (r1:Rep L1 H1 x v) (e:zr M1 (.dat x)=some xs) :
  ∃ b l,v=.ref l/\(∃ vs,SqG K b H1 l vs) /\ ∀ L2 H2 M2,Stp L1 H1 L2 H2->Cor K L2 M2 H2->zr M2 (.dat x)=some xs -> ∃ vs',SqG K b H2 l vs'/\zG L2 H2 xs vs':=by
 let r1':zR H1 L1 H1 (.dat x) v:=r1;cases x with
 |tup ds=>
  ext e;let⟨a,vs,rfl,e3,r3⟩:=Dx r1' rfl;exact ⟨true,a,rfl,⟨vs,(show SqT K H1 a vs from .of e3)⟩,λL2 H2 M2 s2 c2 _=>⟨vs,(show SqT K H2 a vs from .of (s2.tup a vs e3)),r3.stp s2⟩⟩
 |ref n=>
  let e2:B1 M1 (.dat (.ref n))=some xs:=e;let⟨a,vs,rfl,e3,r3⟩:=Dl c1 r1' e2;refine ⟨false,a,rfl,⟨vs,(show SqL K H1 a vs from .inl e3)⟩,λL2 H2 M2 s2 c2 hq=>?_⟩;erw[Rep]at r1;let⟨a',ha',e5⟩:=r1;ext ha';let e6:L2[n]?=some a:=by let⟨N,hN⟩:=s2.pre;rw[hN];exact F9 e5
  let r2:zR H2 L2 H2 (.dat (.ref n)) (.ref a):=by erw[zR,Rep];exact ⟨a,rfl,e6⟩
  let⟨a2,vs',h2,e7,r7⟩:=Dl c2 r2 (show B1 M2 (.dat (.ref n))=some xs from hq);ext h2;calc ⟨vs',(show SqL K H2 a vs' from .inl e7),r7⟩
 |_=>ext e
section
variable {X:Cx} {a e e2 o:Expr} {pos p apos cpos:Pos} {f:FE}
def HV (i:Nat) (g:Int->Int->Int) (f:FE):FS:=λY M=>match Y[i]? with
 |some (some (.int a))=>match f Y M with
  |some (.dat (.int b),M1)=>some (.nx,Y.set i (some (.int (g a b))),M1)
  |_=>none
 |_=>none
def Nj {K:Yb} {i:Nat} {g:Int->Int->Int} {f:FE} {E:Ends} {τ:Sv} {H:Hp} (h:trS K (HV i g f) E τ H):Q9 i (trE K f) (ipI g) E τ H:=by
 let⟨L,Y,M,o,Y',M',c,rs,hf,q⟩:=h;erw[HV]at hf;cbv at hf
 .rename_i x e0;cbv at hf
  .rename_i y M1 e1;ext hf;let⟨w,hw,rw'⟩:=rs.2 i _ e0;let hw':w=.int x:=by erw[Rep]at rw';exact rw'
   subst hw';refine ⟨.int x,hw,L,Y,M,_,_,c,rs,e1,λL1 H1 v s1 c1 r1=>?_⟩;let hv:v=.int y:=by erw[zR,Rep]at r1;exact r1
   subst hv;exact ⟨x,y,rfl,rfl,q L1 H1 s1 c1 _ ((rs.stp s1).set (CO (L:=L1) (H:=H1)))⟩
  .cases hf
 .cases hf
def X7 (hN:X.N.Nodup) (hi:X.N[i]?=some x) (hx:Loc X.env.scope x) (h:QE X e f) (hf:X.fn x=true\/X.env.scope.names.lookup x=some .local:=by first|exact .inl rfl|exact .inr rfl|assumption):QS X (.AugAssign (.Name x pos') .Add e pos) (HV i (λi j=>i+j) f) :=
 .mk <| PS.imp (P9 hN hi hx h.un Ze hf) λ_ _ _ z=>Nj z
def Vf (hN:X.N.Nodup) (hi:X.N[i]?=some x) (hx:Loc X.env.scope x) (h:QE X e f) (hf:X.fn x=true\/X.env.scope.names.lookup x=some .local:=by first|exact .inl rfl|exact .inr rfl|assumption):QS X (.AugAssign (.Name x pos') .Sub e pos) (HV i (λi j=>i-j) f) :=
 .mk <| PS.imp (P9 hN hi hx h.un jH hf) λ_ _ _ z=>Nj z
def Er (i j k:Nat):FG:=λd Y=>match d with
 |.tup [x,y,z]=>some (((Y.set i (some x)).set j (some y)).set k (some z))
 |_=>none
abbrev gP3 (K:Yb) (i j k:Nat):TG:=Kq K 3 (Gg (Cq i) (Gg (Cq j) (Gg (Cq k) K9)))
def Pc (r:zG L H [x,y,z] vs):∃ v1 v2 v3,vs=[v1,v2,v3]/\Rep L H x v1/\Rep L H y v2/\Rep L H z v3:=by
 erw[zG]at r;let⟨v1,r',rfl,h1,r⟩:=r;let⟨v2,v3,rfl,h2,h3⟩:=r.two;calc ⟨v1,v2,v3,rfl,h1,h2,h3⟩
def aA {K:Yb} {i j k:Nat}:GOk (gP3 K i j k) (Er i j k):=by
 intro L H Y Y' τ d v Q rs r hf q;erw[Er]at hf;cbv at hf
 .rename_i x y z;ext hf;erw[Rep]at r;let⟨a,vs,rfl,e,r⟩:=r;let⟨v1,v2,v3,rfl,r1,r2,r3⟩:=Pc r;exact ⟨a,_,rfl,.of e,rfl,v1,[v2,v3],rfl,v2,[v3],rfl,v3,[],rfl,rfl,q _ (((rs.set r1).set r2).set r3)⟩
 .cases hf
def Us {K:Yb} {own:Yj} {i j k:Nat} (hi:i∈own) (hj:j∈own) (hk:k∈own):Dd own (gP3 K i j k) (Er i j k):=by
 intro L H Y Y' τ τ0 d v Q rs ex r hf q;erw[Er]at hf;cbv at hf
 .rename_i x y z;ext hf;erw[Rep]at r;let⟨a,vs,rfl,e,r⟩:=r;let⟨v1,v2,v3,rfl,r1,r2,r3⟩:=Pc r;exact ⟨a,_,rfl,.of e,rfl,v1,[v2,v3],rfl,v2,[v3],rfl,v3,[],rfl,rfl,q _ (((rs.set r1).set r2).set r3) (((ex.set hi).set hj).set hk)⟩
 .cases hf
end
def El (fg:FG) (tc:FT) (fi2:FI) (own2:Yj) (fg2:FG) (tc2:FT) (te:FE) (Y:Sd) (all:List D) (gd:Option (Mem->Prop)):List D->List D->Mem->Option (List D × Mem)
 |[],acc,M=>open Classical in if Bv gd all M then some (acc,M) else none
 |x::r,acc,M=>open Classical in if Bv gd all M then match fg x Y with
   |some σ1=>match tc σ1 M with
    |some (true,M1)=>match fi2 σ1 M1 with
     |some (ys,gd2,M2)=>if acc.length+ys.length<=sizeLine then match BV fg2 tc2 te (Cd own2 σ1) ys gd2 ys M2 with
       |some (ds,M3)=>El fg tc fi2 own2 fg2 tc2 te Y all gd r (acc++ds) M3
       |none=>none
      else none
     |none=>none
    |some (false,M1)=>El fg tc fi2 own2 fg2 tc2 te Y all gd r acc M1
    |none=>none
   |none=>none
  else none
def EN (own own2:Yj) (fi:FI) (fg:FG) (tc:FT) (fi2:FI) (fg2:FG) (tc2:FT) (te:FE):FE:=λY M=>match fi Y M with
 |some (xs,gd,M1)=>match El fg tc fi2 own2 fg2 tc2 te (Cd own Y) xs gd xs [] M1 with
  |some (ys,M2)=>some (.fl ys,M2)
  |none=>none
 |none=>none
def RP {K:Yb} {own own2:Yj} {fi fi2:FI} {g g2:TG} {fg fg2:FG} {tc tc2:FT} {te:FE} (hg:Dd own g fg) (hg2:Dd own2 g2 fg2) {τ:Sv} {H:Hp} {Q:VK} (h:trE K (EN own own2 fi fg tc fi2 fg2 tc2 te) τ H Q) :
  Mp own own2 (trI K fi) g (trT K tc) (trI K fi2) g2 (trT K tc2) (trD K (toD te)) τ H Q:=by
 let⟨L,Y,M,d,Mf,c,rs,hf,q⟩:=h;erw[EN]at hf;cbv at hf
 .rename_i xs gd M1 e1;cbv at hf
  .rename_i zs M2 e2;ext hf;refine (mkI c rs e1 (λL1 H1 J s1 c1 it=>?_))
   refine ⟨λi m ys H'=>m=xs.length-i/\i<=xs.length /\ ∃ L' M' as,Stp L1 H1 L' H'/\Cor K L' M' H'/\zG L' H' as ys/\as.length<=sizeLine/\El fg tc fi2 own2 fg2 tc2 te (Cd own Y) xs gd (xs.drop i) as M'=some (zs,Mf),
    ⟨xs.length,by simp,BK _,L1,M1,[],.refl _ _,c1,.nil,BK _,by simpa using e2⟩,?_⟩
   intro i m ys H' hI;refine qz λG=>?_;let⟨eI1,hi,L',M',as,s',c',r',hl,e'⟩:=hI;calc G ?_;clear G;subst eI1;by_cases hlt:i<xs.length
   .rw[JC hlt]at e';erw[El]at e';cbv at e'
    .rename_i hgd;let⟨step,_⟩:=it L' H' M' s' c' hgd;let⟨go,yl⟩:=step i xs[i] (AM hlt);cbv at e'
     .rename_i σ1 eg;refine .inr ⟨go,λv H2 hy=>?_⟩;let⟨gr,rv⟩:=yl v H2 hy;let s2:Stp L1 H1 L' H2:=s'.yld gr;refine hg (JQ own ((rs.stp s1).stp s2)) (.refl _) rv eg λτ2 r2 x2=>⟨x2,?_⟩;cbv at e'
      .rename_i M3 e3;cbv at e'
       .rename_i ys2 gd2 M4 e4;cbv at e'
        .rename_i hz2;cbv at e'
         .rename_i ds M5 e5;refine (mkT (c'.grow gr) r2 e3 (λL3 H3 s3 c3=>EC ?_));let st3:Stp L' H' L3 H3:=(Stp.grow gr).trans s3;refine (mkI c3 (r2.stp s3) e4 (λL4 H4 J2 s4 c4 it2=>?_))
          refine ⟨λj m2 ws H5=>m2=ys2.length-j/\j<=ys2.length /\ ∃ L5 M6 bs cs,Stp L4 H4 L5 H5/\Cor K L5 M6 H5/\zG L5 H5 (as++bs) ws/\bs.length<=j/\BV fg2 tc2 te (Cd own2 σ1) ys2 gd2 (ys2.drop j) M6=some (cs,M5)/\bs++cs=ds,
           ⟨ys2.length,by simp,BK _,L4,M4,[],ds,.refl _ _,c4,by simpa using (r'.stp st3).stp s4,AF _,by simpa using e5,rfl⟩,?_⟩
          intro j m2 ws H5 hI;refine qz λG=>?_;let⟨eI1,hj,L5,M6,bs,cs,s5,c5,r5,hbl,e6,hbc⟩:=hI;calc G ?_;clear G;subst eI1;let hws:ws.length<=as.length+j:=by rw[r5.length,AV];omega
          by_cases hlt2:j<ys2.length
          .rw[JC hlt2]at e6;erw[BV]at e6;cbv at e6
           .rename_i hgd2;let⟨step2,_⟩:=it2 L5 H5 M6 s5 c5 hgd2;let⟨go2,yl2⟩:=step2 j ys2[j] (AM hlt2);cbv at e6
            .rename_i σ2 eg2;refine .inr ⟨go2,λv2 H6 hy2=>?_⟩;let⟨gr2,rv2⟩:=yl2 v2 H6 hy2;let s6:Stp L4 H4 L5 H6:=s5.yld gr2;refine hg2 (JQ own2 (((r2.stp s3).stp s4).stp s6)) (.refl _) rv2 eg2 λτ3 r3 x3=>⟨x3,?_⟩;cbv at e6
             .rename_i M7 e7;cbv at e6
              .rename_i d M8 e8;cbv at e6
               .rename_i ds' M9 e9;ext e6;refine (mkT (c5.grow gr2) r3 e7 (λL7 H7 s7 c7=>EC ?_));refine (mkD c7 (r3.stp s7) e8 (λL8 H8 w s8 c8 r8=>?_));let st:Stp L5 H5 L8 H8:=((Stp.grow gr2).trans s7).trans s8;calc ⟨(),ys2.length-(j+1),(),rfl,hlt2,L8,M8,bs++[d],ds',s5.trans st,c8,?_,by simp;omega,e9,by rw[<-hbc];simp⟩;have:=(r5.stp st).app (.cons r8 .nil);simpa using this
               .cases e6
              .cases e6
             .rename_i M7 e7;refine (mkT (c5.grow gr2) r3 e7 (λL7 H7 s7 c7=>EG ?_));let st:Stp L5 H5 L7 H7:=(Stp.grow gr2).trans s7;exact ⟨ys2.length-(j+1),(),rfl,hlt2,L7,M7,bs,cs,s5.trans st,c7,r5.stp st,(),e6,hbc⟩
             .cases e6
            .cases e6
           .cases e6
          .have hj':j=ys2.length:=()
           subst hj';rw[List.drop_length]at e6;erw[BV]at e6;cbv at e6
           .rename_i hgd2;ext e6;let⟨_,stop2⟩:=it2 L5 H5 _ s5 c5 hgd2;rw[DO]at hbc;subst hbc;refine .inl ⟨stop2,xs.length-(i+1),(),rfl,hlt,L5,M5,as++bs,s'.trans ((st3.trans s4).trans s5),c5,r5,by rw[AV];omega,e'⟩
           .cases e6
         .cases e'
        .cases e'
       .cases e'
      .rename_i M3 e3;refine (mkT (c'.grow gr) r2 e3 (λL3 H3 s3 c3=>EG ?_));let st:Stp L' H' L3 H3:=(Stp.grow gr).trans s3;exact ⟨xs.length-(i+1),(),rfl,hlt,L3,M3,as,s'.trans st,c3,r'.stp st,hl,e'⟩
      .cases e'
     .cases e'
    .cases e'
   .have hi':i=xs.length:=()
    subst hi';rw[List.drop_length]at e';erw[El]at e';cbv at e'
    .rename_i hgd;ext e';let⟨_,stop⟩:=it L' H' _ s' c' hgd;refine .inl ⟨stop,by rw[r'.length];exact hl,λp hp=>?_⟩;exact q L' _ _ ((s1.trans s').trans (.upd hp)) (c'.upd hp) (zR.newLst (s1.trans s') c c' hp r')
    .cases e'
  .cases hf
 .cases hf
section
variable {X:Cx} {scope:Y0} {elt t1 i1 t2 i2:Expr} {f1 f2:Yi} {pos:Pos}
structure QParts2 (X:Cx) (scope:Y0) (t1:Expr) (f1:Yi) (t2 i2:Expr) (f2:Yi) (elt:Expr) (g:TG) (tc:FT) (fi2:FI) (g2:TG) (tc2:FT) (te:FE):Prop where
 g:∀ zB cl s H fp,PG (zP X zB scope cl s H fp) t1 g
 c:∀ zB cl s H fp,QIfs (zP X zB scope cl s H fp) f1 tc
 w2:∀ zB cl s H fp,QI (zP X zB scope cl s H fp) t2 i2 fi2
 g2:∀ zB cl s H fp,PG (zP X zB scope cl s H fp) t2 g2
 c2:∀ zB cl s H fp,QIfs (zP X zB scope cl s H fp) f2 tc2
 e:∀ zB cl s H fp,QE (zP X zB scope cl s H fp) elt te
 s2:∀ zB cl s H fp x,foldedSetIterable i2 (zP X zB scope cl s H fp).env x=pure x
def Ur {own own2:Yj} {fi fi2:FI} {g g2:TG} {fg fg2:FG} {tc tc2:FT} {te:FE} (hsub:∀ i∈own2,i∈own) (hg:Dd own g fg) (hg2:Dd own2 g2 fg2) (C:CompIn X scope own) (hcalm:X.calm=true) (hi:QI X t1 i1 fi) (p:QParts2 X scope t1 f1 t2 i2 f2 elt g tc fi2 g2 tc2 te) (hs:∀ x,foldedSetIterable i1 X.env x=pure x:=by intro _;rfl) :
  QE X (BM elt t1 i1 f1 t2 i2 f2 scope pos) (EN own own2 fi fg tc fi2 fg2 tc2 te) :=
 .mk <| PE.imp (cD hsub C hcalm hi.un ⟨p.g,λzB cl s H fp=>(p.c zB cl s H fp).un,λzB cl s H fp=>(p.w2 zB cl s H fp).un,p.g2,λzB cl s H fp=>(p.c2 zB cl s H fp).un,λzB cl s H fp=>(DZ (p.e zB cl s H fp)).un,p.s2⟩ hs) λ_ _ _ h=>RP hg hg2 h
end
open SeqAt
structure Df (K:Yb) (mg:Yh) (x:Str) (st:Stmt) (ps:Yk) where
 f:Addr
 fd:FuncData
 F:Fun K x x st f fd
 b:GF K fd ps []
 m:mg x=some (.ref f)
structure Dg (K:Yb) (x:Str) (st:Stmt) where
 f:Addr
 {od an:Option Addr}
 {sl:Array (Option Value)}
 {oc kV dc pm cd ct:Yu}
 a:PySem.W.nsIn K mainGlobals x=some (some (.ref f))
 l:K.lookup f=some ⟨oc,od,.func (PySem.W.fnOf x x (G9 st) (Fo st) (zV st) .none kV dc pm an cd ct),sl⟩
 c:PySem.W.codeIn K cd x=true
 k:PySem.W.keepIn K (.ref f)=true
abbrev Dg.df {K:Yb} {x:Str} {st:Stmt} {ps:Yk} {h:Heap} {mg:Yh} (g:Dg K x st) (X:K.In h) (G:h.Ns mainGlobals mg)
  (hb:∀ (kV doc pm:Yu) (an:Option Addr) (cdv ct:Yu) (us:Yf),us.length=ps.length->bindArgs (PySem.W.fnOf x x (G9 st) (Fo st) (zV st) .none kV doc pm an cdv ct) ⟨us,[]⟩=pure (ps.zip us)):Df K mg x st ps :=
 ⟨g.f,_,OP g.l g.c g.k,(OP g.l g.c g.k).binds hb,PySem.W.mg_of X G g.a⟩
abbrev Od (P:Ym) (w:Yo) (base:Heap) (k:Nat) {K:Yb} {mg:Yh} {x:Str} {st:Stmt} {ps:Yk} (d:Df K mg x st ps) (m:FF):Prop:=FnOk P w K mg base CX0 k d.f d.fd ps (spF K ps.length m)
abbrev Zn (K:Yb) (x:Str):Prop:=PySem.W.nsIn K mainGlobals x=some none
abbrev Ki (K:Yb) (t T:String) (b:Bool):Prop:=PySem.W.kitOne K (.type t) (.type T)=some b
theorem qS {P:List Value->Prop} {n:Nat} (h:∀ a us,us.length=n->P (a::us)):∀ us:List Value,us.length=n+1->P us
 |a::us,e=>h a us (Nat.succ.inj e)
def F5 {P:List Value->Prop} (h:∀ a,P [a]):∀ us:List Value,us.length=1->P us:=qS λa us z=>List.length_eq_zero_iff.mp z▸h a
def Fu {P:List Value->Prop} (h:∀ a b,P [a,b]):∀ us:List Value,us.length=2->P us:=qS λa=>qS λb us z=>List.length_eq_zero_iff.mp z▸h a b
def JS {P:List Value->Prop} (h:∀ a b c,P [a,b,c]):∀ us:List Value,us.length=3->P us:=qS λa=>qS λb=>qS λc us z=>List.length_eq_zero_iff.mp z▸h a b c
def jE {P:List Value->Prop} (h:∀ a b c d e,P [a,b,c,d,e]):∀ us:List Value,us.length=5->P us:=qS λa=>qS λb=>qS λc=>qS λd=>qS λe us z=>List.length_eq_zero_iff.mp z▸h a b c d e
section
variable {st:Stmt}
def WC {d:Df X.K X.mg x st ps} (F:FnOk X.prog X.w X.K X.mg X.base CX0 k d.f d.fd ps (spF X.K (e::es).length g)) (hr:Room k X.A) (hg:Gl X x)
  (ha:QA X (e::es) fa) (hl:∀ Y M ds M1,fa Y M=some (ds,M1)->ds.length=(e::es).length) (hdb:(x==("__debug__" : Str))=false) (he:starEach (e::es) X.env=(false,eval e X.env)::starEach es X.env) (hpl:(backTo pos (starEach es X.env)).any (·.1)=false) :
  QE X (.Call (.Name x p) (e::es) [] pos) (ze g fa):=U7 F hr hg d.m d.F.kp d.b ha hl hdb he hpl
def VR (hN:X.N.Nodup) (hi:X.N[i]?=some x) (h:QE X e f) (hx:Loc X.env.scope x:=by first|exact Or.inl rfl|exact Or.inr rfl) (hs:swapsWith e (some (.Name x pos')) pos.line X.env=pure false:=by rfl)
  (hf:X.fn x=true\/X.env.scope.names.lookup x=some .local:=by first|exact .inl rfl|exact .inr rfl|assumption):QS X (.Assign [.Name x pos'] e pos) (AN i f):=b5 hN hi hx h hs hf
def aI (hN:X.N.Nodup) (hi:X.N[i]?=some x) (hx:Loc X.env.scope x:=by first|exact Or.inl rfl|calc Or.inr rfl) (hf:X.fn x=true\/X.env.scope.names.lookup x=some .local:=by first|exact .inl rfl|exact .inr rfl|assumption):PG X (.Name x pos) (Cq i):=Ly hN hi hx hf
end
def Vn (h:Az d=some k):Rep L H d (kV k):=by
 cases d with
 |int i=>ext h;erw[Rep];rfl
 |str x=>ext h;erw[Rep];rfl
 |_=>ext h
theorem Pg:∀ {ds:List D} {ks:List Key},EK ds=some ks->zG L H ds (ks.map kV)
 |[],ks,h=>by ext h;calc .nil
 |d::ds,ks,h=>by
  erw[EK]at h;cases e1:Az d with
  |none=>rw[e1]at h;ext h
  |some k=>
   cases e2:EK ds with
   |none=>rw[e1,e2]at h;ext h
   |some ks'=>rw[e1,e2]at h;ext h;calc .cons (Vn e1) (Pg e2)
def UK (h:tkD d=some k) (e:H b=some (.tup (k.map kV))):Rep L H d (.ref b):=by
 cases d with
 |tup ds=>erw[Rep];calc ⟨b,_,rfl,e,Pg h⟩
 |_=>ext h
def OZ (hd:(d==sysModules)=false) (hT:s.TypeIs (.ref d) "dict") (ho:s.heap.get? d=some o) (hdat:o.data=.dict es ep)
  (hQ:Q (.ref ⇑s) { s with heap:=s.heap.push { cls:=.type "dict_keyiterator", data:=.fields #[.ref d,.int 0 0,.int es.size 0,.int ep 0] } }):wpAny (model prog w) A (pyIter (.ref d)) Q E s:=by
 calc wpAny_pyIter_slot hT F.slot_dict_iter (BI F.slot_dict_iter hT F.entry_dict_iter ?_ (F.args_dict_iter_1 _));unfold Builtin.«dict.__iter__»;calc AA ?_;erw[Builtin.Dict.dictSlotNone];calc AA (wpAny_notOrdered_dict hT ?_);calc AB ?_;show wpAny _ _ (Builtin.Dict.showsAll d >>= _) _ _ s;erw[Builtin.Dict.showsAll];rw[AE (by rw[hd];calc Au)];calc AA (AB (AA (wpAny_dictEntries ho hdat (AA (wpAny_dictEpoch ho hdat ?_)))));calc AA (A9 (AB ⟨_,rfl, "dict_keyiterator", _,⟨_,AL _ rfl,rfl⟩,F.slot_dict_keyiterator_next.lookup,?_⟩));simpa [rawInt] using hQ
def Zq (hit:s.heap.IsKeyIter it d i es.size ep) (hod:s.heap.get? d=some o) (hdd:o.data=.dict es ep) (hx:es[i]?=some e)
  (hQ:∀ h',h'.IsKeyIter it d (i+1) es.size ep->Heap.SameBut it s.heap h'->Q (some e.key) { s with heap:=h' }):wpAny (model prog w) A (pyNext (.ref it)) Q E s:=by
 let⟨q,ho,hc,hd⟩:=id hit;let⟨hlt,hxe⟩:=Array.getElem?_eq_some_iff.mp hx;erw[pyNext];calc AA (CN (CA hit.typeIs F.slot_dict_keyiterator_next (BI F.slot_dict_keyiterator_next hit.typeIs F.entry_dict_keyiterator_next ?_ (F.args_dict_keyiterator_next_1 _))));calc AA (AB (AA (AA ?_)));first|refine AA (wpAny_typeNameOfWhole_keyiter hit.typeIs (AB ?_))|refine AA (wpAny_typeNameOf_keyiter hit.typeIs (AB ?_))
 calc AA (wpAny_fieldsOf ho hd ?_);simp only[show Builtin.Dict_items.ownsTuple "dict_keyiterator" = false by decide,CL,B6];show wpAny _ _ (if (Value.ref d==Value.none)=true then _ else _) _ _ s;rw[AE (show ¬ ((Value.ref d==Value.none)=true)from Au)];calc AA (AB (AA (wpAny_dictEntries hod hdd ?_)));rw[AE (by simp)];calc AA (AB (AA (wpAny_dictEpoch hod hdd ?_)));rw[AE (by simp)];calc AB ?_;simp only[show ¬ ((i:Int)<0)from by omega,B6,Bc,DC hlt,hxe];calc AA ?_;first|refine AA (wpAny_typeNameOfWhole_keyiter hit.typeIs (AB ?_))|refine AA (wpAny_typeNameOf_keyiter hit.typeIs (AB ?_))
 refine AA (wpAny_isOneOf_keyiter hit.typeIs ?_);show wpAny _ _ (setField (.ref it) 1 (rawInt ((i:Int)+1)) >>= _) _ _ s;refine AA (C8 ho hd (by simp) ?_);let hit':(s.heap.update it (Obj.mapFields (·.setIfInBounds 1 (rawInt ((i:Int)+1))))).IsKeyIter it d (i+1) es.size ep :=
  ⟨_,Cu _ ho (Fh (Cr hd _)),(Obj.cls_mapFields ..).trans hc,by rw[Cr hd];simp[rawInt]⟩
 calc AA (BQ (AA (wpAny_isOneOf_keyiter hit'.typeIs ?_)));calc AB (AB ⟨_,rfl,AB (hQ _ hit' (CZ ..))⟩)
def a9 (hh:A.handled=none) (hit:s.heap.IsKeyIter it d i es.size ep) (hod:s.heap.get? d=some o) (hdd:o.data=.dict es ep) (hge:es.size<=i)
  (hQ:∀ h',Heap.ExtBut it s.heap h'->Q none { s with heap:=h' }):wpAny (model prog w) A (pyNext (.ref it)) Q E s:=by
 let⟨q,ho,hc,hd⟩:=id hit;erw[pyNext];calc AA (CN (CA hit.typeIs F.slot_dict_keyiterator_next (BI F.slot_dict_keyiterator_next hit.typeIs F.entry_dict_keyiterator_next ?_ (F.args_dict_keyiterator_next_1 _))));calc AA (AB (AA (AA ?_)));first|refine AA (wpAny_typeNameOfWhole_keyiter hit.typeIs (AB ?_))|refine AA (wpAny_typeNameOf_keyiter hit.typeIs (AB ?_))
 calc AA (wpAny_fieldsOf ho hd ?_);simp only[show Builtin.Dict_items.ownsTuple "dict_keyiterator" = false by decide,CL,B6];show wpAny _ _ (if (Value.ref d==Value.none)=true then _ else _) _ _ s;rw[AE (show ¬ ((Value.ref d==Value.none)=true)from Au)];calc AA (AB (AA (wpAny_dictEntries hod hdd ?_)));rw[AE (by simp)];calc AA (AB (AA (wpAny_dictEpoch hod hdd ?_)));rw[AE (by simp)];calc AB ?_;simp only[show ¬ ((i:Int)<0)from by omega,B6,Bc,Array.getElem?_eq_none hge];calc AA ?_;first|refine AA (wpAny_typeNameOfWhole_keyiter hit.typeIs (AB ?_))|refine AA (wpAny_typeNameOf_keyiter hit.typeIs (AB ?_))
 show wpAny _ _ (setField (.ref it) 0 .none >>= _) _ _ s;calc AA (C8 ho hd (by simp) ?_);calc AA ?_;simp only[newExc,newTuple];calc AA (A9 ?_ (by size_fits));calc AA (DQ (by first|rfl|(simp only[firstArgMember];rfl)) ?_);calc A9 ?_ (by size_fits);simp only[raiseNew];calc AA (wpAny_handled ?_);rw[show A.in1.handled=none from hh];calc AA (AB (wpAny_throw ?_));calc AA (Eb ⟨_,AL _ rfl,rfl⟩ isSubtype_stop ?_);calc AB (hQ _ (((CZ ..).extBut.push _).push _))
theorem Nr:∀ {ys:List V} {us:Yf},ys.length=us.length->(∀ (i:Nat) y u,ys[i]?=some y->us[i]?=some u->zf y u)->zT ys us
 |[],[],_,_=> .nil
 |[],_::_,h,_=>by ext h
 |_::_,[],h,_=>by ext h
 |y::ys,u::us,h,q=> .cons (q 0 y u rfl rfl) (Nr (Nat.succ.inj h) λi y' u' e1 e2=>q (i+1) y' u' (~~~e1) (~~~e2))
section
variable {X:Cx}
def dU:CV X (.type "str") (λxs H Q=>∃ i,xs=[.int i]/\i.natAbs<2 ^ 64/\Q (.str (Str.ofString (toString i))) H):=by
 intro zB s Y H xs us Q I r h;let⟨i,rfl,hi,q⟩:=h;let⟨u,rfl,t,rfl⟩:=EX r;calc P.str_of_int ?_ ⟨.str (Str.ofString (toString i)),H,I.tok _,⟨_,rfl⟩,q⟩;by_cases h0:i.natAbs=0
 .rw[h0];decide
 .exact (Nat.log2_lt h0).mpr (BC hi (Nat.pow_le_pow_right () ()))
def HN:KB:=λxs M=>match xs with
 |[.dat (.int i)]=>if i.natAbs<2 ^ 64 then some (.dat (.str (Str.ofString (toString i))),M) else none
 |_=>none
def WI {K:Yb}:Dc K (λxs H Q=>∃ i,xs=[.int i]/\i.natAbs<2 ^ 64/\Q (.str (Str.ofString (toString i))) H) HN:=by
 intro L M M' H H0 xs d vs Q c r hk q;erw[HN]at hk;cbv at hk
 .rename_i i;cbv at hk
  .rename_i hi;ext hk;let⟨v,rfl,r1⟩:=r.one;have:v=.int i:=by erw[zR,Rep]at r1;exact r1
   subst this;exact ⟨i,rfl,hi,q L H _ (.refl L H) c (by erw[zR,Rep];rfl)⟩
  .cases hk
 .cases hk
def Rj (hg:Gl X "str") (hm:X.mg "str" = none) (ha:QAE X [e] fa) (he:starEach [e] X.env=(false,eval e X.env)::starEach [] X.env:=by rfl) (hpl:(backTo pos (starEach [] X.env)).any (·.1)=false:=by rfl):QE X (.Call (.Name "str" p) [e] [] pos) (fB HN fa) :=
 MC WI dU (by rfl) hg hm ha () () he hpl
end
end L3
namespace ST
section
variable {prog:Ym} {w:Yo} {A:Yn} {E:Yc} {s:Yl} {κ:SortKind} {vs:Yf} {r:Yr}
def Ci (prog:Ym) (w:Yo) (s:Yl) (κ:SortKind) (vs:Yf) (r:Yr):Prop :=
 ∀ (A:Yn) (E:Yc) (x y:Yu) (Q:Bool->Shared->Prop),x∈vs->y∈vs->Q (decide (r x<r y)) s->wpAny (model prog w) A (keyLt' κ x y) Q E s
def IB (R:Ci prog w s κ vs r) {st:SortSt} {x y:Keyed} {Q:Option Bool->SortSt->Prop} (hk:kindOf st=κ) (hx:x.1∈vs) (hy:y.1∈vs) (h:Q (some (decide (r x.1<r y.1))) st) :
  wpS (model prog w) A E s (lt' x y) Q st:=by
 rw[lt'_eq];calc wpS_bind (wpS_get ?_);rw[hk];calc wpS_bind (wpS_lift (CN (R _ _ _ _ _ hx hy ⟨rfl,wpS_pure h⟩)))
def VT (R:Ci prog w s κ vs r) {st:SortSt} {i j:Nat} {x y:Keyed} {Q:Option Bool->SortSt->Prop} (hk:kindOf st=κ) (ei:(arrOf st)[i]?=some x) (ej:(arrOf st)[j]?=some y) (hx:x.1∈vs) (hy:y.1∈vs)
  (h:Q (some (decide (r x.1<r y.1))) st):wpS (model prog w) A E s (ltAt' i j) Q st:=by
 rw[ltAt'_eq];calc wpS_bind (wpS_get ?_);show wpS _ _ _ _ (elem' (arrOf st) i >>= λx=>elem' (arrOf st) j >>= λy=>lt' x y) Q st;rw[elem'_eq,elem'_eq,ei,ej];calc wpS_bind (wpS_pure (wpS_bind (wpS_pure (IB R hk hx hy h))))
def Bm (h:Heap) (v:Value) (xs:List Int):Prop:=∃ b o us n,v=.ref b/\h.get? b=some o/\o.cls=.type "tuple" /\ o.data=.seq us n/\IntsAre us.toList xs
def Bm.keep (t:Bm h v xs) (k:∀ b o,v=.ref b->h.get? b=some o->h'.get? b=some o):Bm h' v xs:=by
 let⟨b,o,us,n,rfl,h1,h2,h3,h4⟩:=t;calc ⟨b,o,us,n,rfl,k b o rfl h1,h2,h3,h4⟩
def AX:List Int->List Int->Bool
 |[],[]=>false
 |[],_::_=>true
 |_::_,[]=>false
 |x::xs,y::ys=>if x=y then AX xs ys else decide (x<y)
def Wn (h:Q (decide (a<b)) s):wpAny (model prog w) A (oneLt' false (.int a t) (.int b u)) Q E s:=by
 rw[oneLt'_eq];simp only[CL,B6];refine AA (richCompare_gives (typeIs_int s a t) (typeIs_int s b u) F.slot_int_lt F.entry_int_lt (F.args_int_lt_2 _ _) (gives_int_lt a b t u) (λx=>nomatch x) ?_);calc E7 h
def Xo (h:Q (decide (a<b)) s):wpAny (model prog w) A (oneLt' c (.int a t) (.int b u)) Q E s:=by
 ext c
 .exact Wn h
 .exact oneLt_int h
def YO (hx:Bm s.heap x xs) (hy:Bm s.heap y ys) (h:Q (AX xs ys) s):wpAny (model prog w) A (keyLt' (tuples' c) x y) Q E s:=by
 let⟨a,o1,us,n1,rfl,h1,h2,h3,h4⟩:=hx;let⟨b,o2,ws,n2,rfl,g1,g2,g3,g4⟩:=hy;calc AA (listItems_at h1 h3 (AA (listItems_at g1 g3 ?_)));refine AA (wpAny_forIn_list _ (λrest c s'=>c=(none,Unit.unit)/\s'=s /\ ∃ us' ws' xs' ys' k,rest=(us'.zip ws').zipIdx k/\IntsAre us' xs'/\IntsAre ws' ys'/\AX xs ys=AX xs' ys'/\us.size+ws'.length=ws.size+us'.length) (λc s'=>s'=s/\Q (match c.1 with|some b=>b|none=>decide (us.size<ws.size)) s) ?turn ?fin _ _ ⟨rfl,rfl,_,_,_,_,0,rfl,h4,g4,rfl,by simp;omega⟩ |> λz=>An z ?post λ_ _ e=>e)
 case turn=>
  rintro ⟨⟨p,q⟩,i⟩ rest c s' ⟨rfl,rfl,us',ws',xs',ys',k,e,i1,i2,e2,e3⟩;cases i1 with
  |nil=>simp at e
  | @cons n t us1 xs1 i1=>
   cases i2 with
   |nil=>simp at e
   | @cons m u ws1 ys1 i2=>
    simp only[List.zip_cons_cons,List.zipIdx_cons]at e;injection e with ea eb
    ext ea;calc AA (wpAny_eqBool_int ?_);rw[show AX (n::xs1) (m::ys1)=if n=m then AX xs1 ys1 else decide (n<m)from rfl]at e2;by_cases hnm:n=m
    .subst hnm;simp only[beq_self_eq_true,Bool.not_true,CL,B6];rw[AD rfl]at e2;simp only[C0]at e3;exact AB ⟨rfl,rfl,_,_,_,_,_,eb,i1,i2,e2,()⟩
    .rw[AE hnm]at e2;have:(n==m)=false:=by simpa using hnm
     rw[this];simp only[Bool.not_false,if_true];calc AA ?_;calc Xo (AB ⟨rfl,?_⟩);rw[<-e2];exact h
 case fin=>
  rintro c s' ⟨rfl,rfl,us',ws',xs',ys',k,e,i1,i2,e2,e3⟩;refine ⟨rfl,?_⟩;let key:AX xs ys=decide (us.size<ws.size):=by
   rw[e2];cases i1 with
   |nil=>
    cases i2 with
    |nil=>simp at e3;simp[AX,e3]
    |cons m u i2=>simp at e3;simp[AX];omega
   |cons n t i1=>
    cases i2 with
    |nil=>simp at e3;simp[AX];omega
    |cons m u i2=>simp at e
  rw[<-key];exact h
 case post=>
  rintro ⟨c1,c2⟩ s' ⟨rfl,q⟩;cases c1 with
  |some b=>calc AB q
  |none=>calc AB q
theorem PL:∀ ds:List (Int × Tok),IntsAre (ds.map λp=> .int p.1 p.2) (ds.map (·.1))
 |[]=> .nil
 |p::ds=> .cons p.1 p.2 (PL ds)
def Xh (hv:Bm s.heap v (x::xs)) (h:∀ t,Q (some (.int x t)) s):wpAny (model prog w) A (firstOfTuple' v) Q E s:=by
 let⟨a,o1,us,n1,rfl,h1,h2,h3,h4⟩:=hv;calc AA (Co ⟨o1,h1,h2⟩ ?_);rw[AE ()];calc AA (listItems_at h1 h3 (AB ?_));let⟨us⟩:=us;cases h4 with
 |cons n t i=>calc h t
theorem RO:∀ {vs:Yf} {Q:List (Option Value)->Shared->Prop},(∀ v∈vs,∃ x xs,Bm s.heap v (x::xs))->(∀ ds:List (Int × Tok),ds.length=vs.length->Q (ds.map λp=>some (.int p.1 p.2)) s)->wpAny (model prog w) A (vs.mapM firstOfTuple') Q E s
 |[],Q,_,q=>by rw[List.mapM_nil];calc AB (q [] rfl)
 |v::vs,Q,h,q=>by
  rw[List.mapM_cons];let⟨x,xs,hv⟩:=h v (Ax ..);refine AA (Xh hv λt=>AA (RO (λu hu=>h u (BF _ hu)) λds hl=>AB ?_));calc q ((x,t)::ds) (by simp[hl])
def Um (h:∀ u∈v::vs,∃ x xs,Bm s.heap u (x::xs)) (q:Q (tuples' true) s):wpAny (model prog w) A (keyKind' (v::vs).toArray) Q E s:=by
 rw[keyKind'_eq,List.mapM_toArray];refine AA ?_;rw[map_eq_pure_bind];refine AA (RO h λds hl=>AB ?_);rw[AD (by simp)];refine AA (BX ?_);let e:Array.filterMap id (List.map (λp=>some (Value.int p.1 p.2)) ds).toArray=(ds.map λp=>Value.int p.1 p.2).toArray:=by
  rw[List.filterMap_toArray,List.filterMap_map];exact BO List.toArray (List.filterMap_eq_map'▸rfl)
 rw[e,oneTypeOnly'_eq,List.mapM_toArray,mapM_typeOf_ints (PL ds)];cases ds with
 |nil=>ext hl
 |cons d ds=>
  let hall:((List.map (λ_=>Value.type "int") (List.map (λp:Int × Tok=>Value.int p.1 p.2) (d::ds))).toArray.all λx=>x==Value.type "int")=true:=by
   simp only[List.all_toArray,List.all_map,Ap];intro _ _;rfl
  let h0:(List.map (λ_=>Value.type "int") (List.map (λp:Int × Tok=>Value.int p.1 p.2) (d::ds))).toArray[0]?=some (Value.type "int"):=by simp
  simp only[map_pure,pure_bind];rw[h0];simp only[hall,if_true,pure_bind];calc AB q
end
theorem Mw:∀ x:List Int,AX x x=false
 |[]=>rfl
 |a::x=>by rw[show AX (a::x) (a::x)=if a=a then AX x x else decide (a<a)from rfl,AD rfl];calc Mw x
def NN (a b:Int) (x y:Ye):AX (a::x) (b::y)=if a=b then AX x y else decide (a<b):=rfl
theorem JT:∀ {x y:Ye},AX x y=false->AX y x=false->x=y
 |[],[],_,_=>rfl
 |[],_::_,h,_=>by ext h
 |_::_,[],_,h=>by ext h
 |a::x,b::y,h1,h2=>by
  rw[NN]at h1 h2;by_cases e:a=b
  .subst e;rw[AD rfl]at h1 h2;rw[JT h1 h2]
  .rw[AE e]at h1;rw[AE (Ne.symm e)]at h2;have:=of_decide_eq_false h1;have:=of_decide_eq_false h2;omega
theorem Jf:∀ {x y z:Ye},AX x y=true->AX y z=true->AX x z=true
 |[],[],_,h,_=>by ext h
 |_::_,[],_,h,_=>by ext h
 |_,_::_,[],_,h=>by ext h
 |[],_::_,_::_,_,_=>rfl
 |a::x,b::y,c::z,h1,h2=>by
  rw[NN]at h1 h2 ⊢;by_cases e:a=b
  .subst e;rw[AD rfl]at h1;by_cases e2:a=c
   .rw[AD e2]at h2 ⊢;exact Jf h1 h2
   .rw[AE e2]at h2 ⊢;exact h2
  .rw[AE e]at h1;let l1:=B2 h1;by_cases e2:b=c
   .subst e2;rw[AE e];exact h1
   .rw[AE e2]at h2;let l2:=B2 h2;rw[AE ()];calc BB ()
def rkI (ks:Ya) (k:Ye):Nat:=ks.countP λa=>AX a k
theorem O9 {α:Type} {p q:α->Bool}:∀ {l:List α} {x:α},x∈l->p x=false->q x=true->(∀ y,p y=true->q y=true)->l.countP p<l.countP q
 |[],_,h,_,_,_=>by ext h
 |y::l,x,h,h1,h2,h3=>by
  let hm:l.countP p<=l.countP q:=List.countP_mono_left λz _ hz=>h3 z hz;rw[List.countP_cons,List.countP_cons];rcases AJ.mp h with rfl|h
  .rw[h1,h2];simp;omega
  .have:=O9 h h1 h2 h3;cases hp:p y with
   |true=>rw[h3 y hp];simp;omega
   |false=>cases q y <;> simp <;> omega
def NQ {ks:Ya} {x y:Ye} (hx:x∈ks) (hy:y∈ks):AX x y=decide (rkI ks x<rkI ks y):=by
 let go:∀ {x y:Ye},x∈ks->AX x y=true->rkI ks x<rkI ks y:=λ{x y} hx h=>
  O9 hx (Mw x) h λz hz=>Jf hz h
 cases e:AX x y with
 |true=>calc (BB (go hx e)).symm
 |false=>
  cases e2:AX y x with
  |true=>have:=go hy e2;calc (Al ()).symm
  |false=>rw[JT e e2];calc (Al ()).symm
section
variable {prog:Ym} {w:Yo} {A:Yn} {E:Yc} {s:Yl} {κ:SortKind} {vs:Yf}
def Bm.uniq (a:Bm h v xs) (b:Bm h v ys):xs=ys:=by
 let⟨b1,o1,us,n1,rfl,h1,h2,h3,h4⟩:=a;let⟨b2,o2,ws,n2,e,g1,g2,g3,g4⟩:=b;ext e;rw[h1]at g1;ext g1;rw[h3]at g3;ext g3;rw[<-h4.nums,<-g4.nums]
open Classical in
def Cj (h:Heap) (v:Yu):List Int:=if z:∃ xs,Bm h v xs then z.choose else []
def Fn (t:Bm h v xs):Cj h v=xs:=by
 erw[Cj];rw[dif_pos ⟨xs,t⟩];calc Bm.uniq (Classical.choose_spec (⟨xs,t⟩:∃ xs,Bm h v xs)) t
def K8 (h:Heap) (vs:Yf):Prop:=∀ v∈vs,∃ x xs,Bm h v (x::xs)
def rkV (h:Heap) (vs:Yf) (v:Yu):Nat:=rkI (vs.map (Cj h)) (Cj h v)
def jD (h:K8 s.heap vs):Ci prog w s (tuples' true) vs (rkV s.heap vs):=by
 intro A E x y Q hx hy q;let⟨a,as,ha⟩:=h x hx;let⟨b,bs,hb⟩:=h y hy;calc YO ha hb ?_;rw[<-Fn ha,<-Fn hb,NQ (List.mem_map_of_mem hx) (List.mem_map_of_mem hy)];calc q
def jI {F:Array Value->Prop} {a:Addr} {n:Nat} {P:Fin->Shared->Prop} (ho:s.heap.get? a=some (seqObj "list" vs.toArray n)) (hz:vs.length<=sizeLine)
  (hF:∀ out,F out->out.size=vs.length) (hs:vs.length<2->F vs.toArray)
  (hr:2<=vs.length -> ∀ h6:Heap,(∀ b o,b≠a->s.heap.get? b=some o->h6.get? b=some o)->(∀ (A:Yn) (E:Yc) (Q:SortKind->Shared->Prop),Q κ { s with heap:=h6 }->wpAny (model prog w) A (keyKind' vs.toArray) Q E { s with heap:=h6 }) /\
   ∀ (A:Yn) (E:Yc),wpS (model prog w) A E { s with heap:=h6 } sortRuns' (λ_ st=>failedOf st=none/\F ((arrOf st).map (·.2))) (SortSt.mk' κ (pairsOf vs) #[] 7 none))
  (h:∀ out,F out->P (.done (.ret .none)) { s with heap:=sortedHeap s.heap a vs out }):wpAny (model prog w) A (Builtin.«list.sort» ⟨[.ref a],[]⟩) P E s:=by
 let ha:a<⇑s:=AI ho;rw[list_sort_plain];refine AA (listItems_at ho rfl (AA (listUpdate_at ho rfl ?_)));obtain ⟨e1,o1⟩:∃ e,(s.heap.update a (Obj.mapSeq λ_=> #[])).get? a=some (seqObj "list" #[] e):=⟨_,get?_update_seq ho λ_=> #[]⟩;refine AA (seqEpoch_at o1 rfl (AA (wpAny_newTuple ?_ (~~~hz))));refine AA (wpAny_newList (BQ ?_));generalize hH:((s.heap.update a (Obj.mapSeq λ_=> #[])).push (seqObj "tuple" vs.toArray 0)).push (seqObj "list" #[] 0)=h6;let k6:∀ b o,b≠a->s.heap.get? b=some o->h6.get? b=some o:=λb o hb e=>by
  rw[<-hH];exact AH _ (AH _ ((Cz _ _ (Ne.symm hb)).trans e))
 let o6:h6.get? a=some (seqObj "list" #[] e1):=by rw[<-hH];exact AH _ (AH _ o1)
 let fin:∀ st:SortSt,failedOf st=none->F ((arrOf st).map (·.2))->wpAny (model prog w) A (do
   let t:=(<- seqEpoch a) != e1;Builtin.List.listUpdate (.ref a) λ_=>(arrOf st).map (·.2);if let some e:=failedOf st then rule "list.sort.comparison-raised"; throw e
   if t then rule "list.sort.modified"; raiseError "ValueError" "list modified during sort"
   ret .none) P E { s with heap:=h6 }:=by
  intro st h1 h2;calc AA (seqEpoch_at o6 rfl (AA (listUpdate_at o6 rfl ?_ (hsz2:=by show (Array.map _ _).size<=_;rw[hF _ h2];omega))));rw[h1];simp only[bne_self_eq_false,CL,B6];calc AB ?_;have:=h _ h2;erw[sortedHeap]at this;rw[hH]at this;exact this
 dsimp only;by_cases h2:vs.toArray.size<2
 .rw[AD h2,AD h2];refine AA (AB ?_);rw[StateT.run_pure];refine AA (AB ?_);refine fin (SortSt.mk' general' (vs.toArray.zip vs.toArray) #[] 7 none) rfl ?_;let e:((vs.toArray.zip vs.toArray).map (·.2))=vs.toArray:=by
   apply Array.toList_inj.mp;rw[Array.toList_map,Array.toList_zip,List.map_snd_zip (AF _)]
  rw[e];exact hs (~~~h2)
 .rw[AE h2,AE h2];let⟨g1,g2⟩:=hr (by simp at h2;omega) h6 k6;calc AA (g1 _ _ _ ?_);refine AA (An (g2 _ _) ?_ λ_ _ e=>e);rintro ⟨⟨⟩,st⟩ s' ⟨rfl,h3,h4⟩;calc fin st h3 h4
end
end ST
namespace L3
open L2 ST
def kkI (xs:Ye):List Key:=xs.map .inl
def Qm:D->Option (List Int)
 |.tup ds=>DS ds
 |_=>none
def G3:List D->Option (List (List Int))
 |[]=>some []
 |d::r=>match Qm d,G3 r with
  |some x,some xs=>some (x::xs)
  |_,_=>none
theorem PK:∀ {ds:List D} {xs:Ye},DS ds=some xs->EK ds=some (kkI xs)
 |[],_,h=>by ext h;rfl
 |.int i::r,xs,h=>by
  erw[DS]at h;cbv at h
  .rename_i bs e;ext h;erw[EK];rw[PK e];rfl
  .cases h
 |.non::_,_,h=>by ext h
 |.bl _::_,_,h=>by ext h
 |.str _::_,_,h=>by ext h
 |.tup _::_,_,h=>by ext h
 |.ref _::_,_,h=>by ext h
 |.fn _ _::_,_,h=>by ext h
theorem Qj:∀ {xs:Ye} {its:Yf},zT ((kkI xs).map kV) its->IntsAre its xs
 |[],_,h=>by ext h;calc .nil
 |x::xs,_,h=>by
  cases h with
  |cons r1 r2=>let⟨t,rfl⟩:=r1;calc .cons _ _ (Qj r2)
section
variable {X:Cx}
def Wq (o:Am P w H h b (.tup ((kkI xs).map kV))):Bm h (.ref b) xs:=by
 let⟨_,its,r,o,e,c,⟨n,d⟩,_⟩:=o;calc ⟨b,o,its.toArray,n,rfl,e,c,d,by simpa using Qj r⟩
end
end L3
namespace ST
def OM:Bool->Keyed->Array Keyed->Nat->Nat->Nat->StateT SortSt Sem (Option Nat):=sortPriv% PySem.Builtin.gallop
def iL:Array Keyed->Array Keyed->StateT SortSt Sem (Array Keyed):=sortPriv% PySem.Builtin.mergeLo
def iF:Array Keyed->Array Keyed->StateT SortSt Sem (Array Keyed):=sortPriv% PySem.Builtin.mergeHi
section
variable {prog:Ym} {w:Yo} {A:Yn} {E:Yc} {s:Yl} {κ:SortKind} {vs:Yf} {r:Yr}
def zo {arr:Array Keyed} {i:Nat} {p:Keyed} {st:SortSt} {Q:Keyed->SortSt->Prop} (h:arr[i]?=some p) (q:Q p st):wpS (model prog w) A E s (elem' arr i) Q st:=by
 rw[elem'_eq,h];calc wpS_pure q
def Lz (bey:Nat->StateT SortSt Sem (Option Bool)) (n a0 b0:Nat):StateT SortSt Sem (Option Nat):=do
 let mut a:=a0
 let mut b:=b0
 for _ in [0:n] do
  if a≥b then break
  let m:=a+(b-a) / 2
  let some up <- bey m|return none
  if up then a:=m+1 else b:=m
 return some b
def fE {bey:Nat->StateT SortSt Sem (Option Bool)} {b:Nat->Bool} {n lo hi:Nat} {st:SortSt} {Q:Option Nat->SortSt->Prop} (hb:∀ i,i<n -> ∀ Q':Option Bool->SortSt->Prop,Q' (some (b i)) st->wpS (model prog w) A E s (bey i) Q' st)
  (mono:∀ i j,i<=j->j<n->b j=true->b i=true) (hlo:lo<=hi) (hhi:hi<=n) (h1:∀ i,i<lo->b i=true) (h2:∀ i,hi<=i->i<n->b i=false)
  (h:∀ k,k<=n->(∀ i,i<k->b i=true)->(∀ i,k<=i->i<n->b i=false)->Q (some k) st):wpS (model prog w) A E s (Lz bey n lo hi) Q st:=by
 erw[Lz];refine wpS_bind (wpS_mono (wpS_forRange (I:=λx c st'=>st'=st /\ ∃ lo hi,c=(none,lo,hi)/\lo<=hi/\hi<=n/\hi-lo<=n-x/\(∀ i,i<lo->b i=true)/\(∀ i,hi<=i->i<n->b i=false)) (Q:=λc st'=>st'=st /\ ∃ k,c=(none,k,k)/\k<=n/\(∀ i,i<k->b i=true)/\(∀ i,k<=i->i<n->b i=false)) ?step ?fin ⟨rfl,lo,hi,rfl,hlo,hhi,(),h1,h2⟩) ?post)
 case step=>
  rintro x c st' _ hx ⟨rfl,lo,hi,rfl,q1,q2,q3,q4,q5⟩;dsimp only;by_cases hge:lo≥hi
  .rw[AD hge];have:lo=hi:=()
   subst this;exact wpS_pure ⟨rfl,lo,rfl,q2,q4,q5⟩
  .rw[AE hge];calc wpS_bind (hb _ () _ ?_);dsimp only;cases e:b (lo+(hi-lo) / 2) with
   |true=>
    rw[AD rfl];exact wpS_pure ⟨rfl,_,_,rfl,(),q2,(),λi hi'=>mono i _ () () e,q5⟩
   |false=>
    rw[AE ()];refine wpS_pure ⟨rfl,_,_,rfl,(),(),(),q4,λi h3 h4=>?_⟩;cases e2:b i with
    |false=>rfl
    |true=>rw[mono _ i h3 h4 e2]at e;ext e
 case fin=>
  rintro c st' ⟨rfl,lo,hi,rfl,q1,q2,q3,q4,q5⟩;have:lo=hi:=()
  subst this;exact ⟨rfl,lo,rfl,q2,q4,q5⟩
 case post=>
  rintro c st' ⟨rfl,k,rfl,q2,q4,q5⟩;calc wpS_pure (h k q2 q4 q5)
def Za {left:Bool} {key:Keyed} {arr:Array Keyed} {base n hint:Nat} {b:Nat->Bool} {st:SortSt} {Q:Option Nat->SortSt->Prop} (hh:hint<n)
  (hb:∀ i,i<n -> ∀ Q':Option Bool->SortSt->Prop,Q' (some (b i)) st->wpS (model prog w) A E s (do let x <- elem' arr (base+i);if left=true then lt' x key else do let y <- lt' key x;pure (y.map (!·))) Q' st)
  (mono:∀ i j,i<=j->j<n->b j=true->b i=true)
  (h:∀ k,k<=n->(∀ i,i<k->b i=true)->(∀ i,k<=i->i<n->b i=false)->Q (some k) st):wpS (model prog w) A E s (OM left key arr base n hint) Q st:=by
 let no:∀ {i j},i<=j->j<n->b i=false->b j=false:=λ{i j} h1 h2 e=>by
  cases e2:b j with
  |false=>rfl
  |true=>rw[mono i j h1 h2 e2]at e;ext e
 let go:∀ lo hi,lo<=hi->hi<=n->(∀ i,i<lo->b i=true)->(∀ i,hi<=i->i<n->b i=false)->wpS (model prog w) A E s (Lz (λi=>do let x <- elem' arr (base+i);if left=true then lt' x key else do let y <- lt' key x;pure (y.map (!·))) n lo hi) Q st :=
  λlo hi a1 a2 a3 a4=>fE hb mono a1 a2 a3 a4 h
 calc wpS_bind (hb hint hh _ ?_);cases e:b hint with
 |true=>
  refine wpS_bind (wpS_mono (wpS_forRange (I:=λx c st'=>st'=st /\ ∃ la of,c=(none,la,of)/\la<of/\x+1<=of/\la<n-hint/\b (hint+la)=true) (Q:=λc st'=>st'=st /\ ∃ la of,c=(none,la,of)/\la<of/\la<n-hint/\b (hint+la)=true/\(n-hint<=of\/b (hint+of)=false)) ?step ?fin ⟨rfl,0,1,rfl,(),(),(),e⟩) ?post)
  case step=>
   rintro x c st' _ hx ⟨rfl,la,of,rfl,q1,q2,q3,q4⟩;dsimp only;by_cases hge:of≥n-hint
   .rw[AD hge];exact wpS_pure ⟨rfl,la,of,rfl,q1,q3,q4,.inl hge⟩
   .rw[AE hge];calc wpS_bind (hb _ () _ ?_);dsimp only;cases e2:b (hint+of) with
    |true=>
     rw[AE ()];calc wpS_pure ⟨rfl,of,2*of+1,rfl,(),(),(),e2⟩
    |false=>
     rw[AD ()];exact wpS_pure ⟨rfl,la,of,rfl,q1,q3,q4,.inr e2⟩
  case fin=>
   rintro c st' ⟨rfl,la,of,rfl,q1,q2,q3,q4⟩;exact ⟨rfl,la,of,rfl,q1,q3,q4,.inl ()⟩
  case post=>
   rintro c st' ⟨rfl,la,of,rfl,q1,q3,q4,q5⟩;refine go (hint+la+1) (hint+min of (n-hint)) () () (λi hi=>mono i (hint+la) () () q4) (λi h1 h2=>?_);rcases q5 with q5|q5
   .omega
   .by_cases hc:n-hint<=of
    .omega
    .exact no (i:=hint+of) () h2 q5
 |false=>
  refine wpS_bind (wpS_mono (wpS_forRange (I:=λx c st'=>st'=st /\ ∃ la of,c=(none,la,of)/\la<of/\x+1<=of/\la<hint+1/\b (hint-la)=false) (Q:=λc st'=>st'=st /\ ∃ la of,c=(none,la,of)/\la<of/\la<hint+1/\b (hint-la)=false/\(hint+1<=of\/b (hint-of)=true)) ?step ?fin ⟨rfl,0,1,rfl,(),(),(),e⟩) ?post)
  case step=>
   rintro x c st' _ hx ⟨rfl,la,of,rfl,q1,q2,q3,q4⟩;by_cases hge:of≥hint+1
   .rw[AD hge];exact wpS_pure ⟨rfl,la,of,rfl,q1,q3,q4,.inl hge⟩
   .rw[AE hge];calc wpS_bind (hb _ () _ ?_);dsimp only;cases e2:b (hint-of) with
    |true=>
     rw[AD rfl];calc wpS_pure ⟨rfl,la,of,rfl,q1,q3,q4,.inr e2⟩
    |false=>
     rw[AE ()];exact wpS_pure ⟨rfl,of,2*of+1,rfl,(),(),(),e2⟩
  case fin=>
   rintro c st' ⟨rfl,la,of,rfl,q1,q2,q3,q4⟩;exact ⟨rfl,la,of,rfl,q1,q3,q4,.inl ()⟩
  case post=>
   rintro c st' ⟨rfl,la,of,rfl,q1,q3,q4,q5⟩;refine go (hint+1-min of (hint+1)) (hint-la) () () (λi hi=>?_) (λi h1 h2=>no (i:=hint-la) () h2 q4);rcases q5 with q5|q5
   .omega
   .by_cases hc:hint+1<=of
    .omega
    .exact mono i (hint-of) () () q5
end
structure MI (le:Keyed->Keyed->Prop) (C out l m:List Keyed):Prop where
 perm:(out++(l++m)).Perm C
 so:out.Pairwise le
 sl:l.Pairwise le
 sm:m.Pairwise le
 ol:∀ x∈out,∀ y∈l,le x y
 om:∀ x∈out,∀ y∈m,le x y
section
variable {le:Keyed->Keyed->Prop} {C out l m p:List Keyed}
def MI.takeL (h:MI le C out (p++l) m) (hp:∀ x∈p,∀ y∈m,le x y):MI le C (out++p) l m:=by
 let sl:=List.pairwise_append.mp h.sl;refine ⟨by have:=h.perm;simpa using this,List.pairwise_append.mpr ⟨h.so,sl.1,λx hx y hy=>h.ol x hx y (CJ _ hy)⟩,sl.2.1,h.sm,λx hx y hy=>?_,λx hx y hy=>?_⟩
 .rcases AR.mp hx with z|z
  .exact h.ol x z y (BD _ hy)
  .exact sl.2.2 x z y hy
 .rcases AR.mp hx with z|z
  .exact h.om x z y hy
  .exact hp x z y hy
def MI.takeR (h:MI le C out l (p++m)) (hp:∀ x∈p,∀ y∈l,le x y):MI le C (out++p) l m:=by
 let sm:=List.pairwise_append.mp h.sm;refine ⟨?_,List.pairwise_append.mpr ⟨h.so,sm.1,λx hx y hy=>h.om x hx y (CJ _ hy)⟩,h.sl,sm.2.1,λx hx y hy=>?_,λx hx y hy=>?_⟩
 .refine List.Perm.trans ?_ h.perm;rw[CI];calc List.Perm.append_left _ ?_;rw[<-CI,<-CI];exact List.Perm.append_right _ List.perm_append_comm
 .rcases AR.mp hx with z|z
  .exact h.ol x z y hy
  .exact hp x z y hy
 .rcases AR.mp hx with z|z
  .exact h.om x z y (BD _ hy)
  .exact sm.2.2 x z y hy
def Mgd (le:Keyed->Keyed->Prop) (C:List Keyed) (out:List Keyed):Prop:=out.Perm C/\out.Pairwise le
def MI.endL (h:MI le C out l []):Mgd le C (out++l):=⟨by have:=h.perm;simpa using this,List.pairwise_append.mpr ⟨h.so,h.sl,h.ol⟩⟩
def MI.endR (h:MI le C out [] m):Mgd le C (out++m):=⟨by have:=h.perm;simpa using this,List.pairwise_append.mpr ⟨h.so,h.sm,h.om⟩⟩
def MI.last (h:MI le C out l m) (hl:∀ y∈m,∀ x∈l,le y x):Mgd le C (out++m++l):=by
 let h2:MI le C (out++m) l []:=MI.takeR (~~~h) hl;calc h2.endL
end
section
variable {prog:Ym} {w:Yo} {A:Yn} {E:Yc} {s:Yl} {κ:SortKind} {vs:Yf} {r:Yr}
abbrev leR (r:Yr) (x y:Keyed):Prop:=r x.1<=r y.1
abbrev geR (r:Yr) (x y:Keyed):Prop:=r y.1<=r x.1
structure SameS (st st':SortSt):Prop where
 k:kindOf st'=kindOf st
 a:arrOf st'=arrOf st
 p:pendingOf st'=pendingOf st
 f:failedOf st'=failedOf st
def SameS.refl (st:SortSt):SameS st st:=⟨rfl,rfl,rfl,rfl⟩
def HG (R:Ci prog w s κ vs r) {left:Bool} {key:Keyed} {arr:Array Keyed} {base n hint:Nat} {st:SortSt} {Q:Option Nat->SortSt->Prop} (hk:kindOf st=κ) (hkey:key.1∈vs) (harr:∀ i,i<n -> ∃ x,arr[base+i]?=some x/\x.1∈vs)
  (srt:∀ i j x y,i<=j->j<n->arr[base+i]?=some x->arr[base+j]?=some y->r x.1<=r y.1) (hh:hint<n)
  (h:∀ k,k<=n->(∀ i x,i<k->arr[base+i]?=some x->if left then r x.1<r key.1 else r x.1<=r key.1)->(∀ i x,k<=i->i<n->arr[base+i]?=some x->if left then r key.1<=r x.1 else r key.1<r x.1)->Q (some k) st) :
  wpS (model prog w) A E s (OM left key arr base n hint) Q st:=by
 letI b:Nat->Bool:=λi=>match arr[base+i]? with
  |some x=>if left then decide (r x.1<r key.1) else decide (r x.1<=r key.1)
  |none=>false
 let bx:∀ {i x},arr[base+i]?=some x->b i=if left then decide (r x.1<r key.1) else decide (r x.1<=r key.1):=λ{i x} e=>by
  show (match arr[base+i]? with|some x=>_|none=>_)=_;rw[e]
 refine Za (b:=b) hh (λi hi Q' q=>?_) (λi j hij hj e=>?_) λk hk h1 h2=>h k hk (λi x hi e=>?_) (λi x hi hn e=>?_)
 .obtain ⟨x,ex,hx⟩:=harr i hi;rw[bx ex]at q;calc wpS_bind (zo ex ?_);cases left with
  |true=>
   rw[AD rfl]at q ⊢;calc IB R hk hx hkey q
  |false=>
   rw[AE ()]at q ⊢;refine wpS_bind (IB R hk hkey hx (wpS_pure ?_));have:(!decide (r key.1<r x.1))=decide (r x.1<=r key.1):=by
    by_cases z:r key.1<r x.1
    .rw[BB z,Al ()];rfl
    .rw[Al z,BB ()];rfl
   show Q' (some (!decide (r key.1<r x.1))) st;rw[this];exact q
 .obtain ⟨x,ex,_⟩:=harr i ();let⟨y,ey,_⟩:=harr j hj;have:=srt i j x y hij hj ex ey;rw[bx ex];rw[bx ey]at e;cases left with
  |true=>rw[AD rfl]at e ⊢;have:=B2 e;calc BB ()
  |false=>rw[AE ()]at e ⊢;have:=B2 e;exact BB ()
 .have q:=h1 i hi;rw[bx e]at q;cases left with
  |true=>rw[AD rfl]at q ⊢;calc B2 q
  |false=>rw[AE ()]at q ⊢;exact B2 q
 .have q:=h2 i hi hn;rw[bx e]at q;cases left with
  |true=>rw[AD rfl]at q ⊢;have:=of_decide_eq_false q;omega
  |false=>rw[AE ()]at q ⊢;have:=of_decide_eq_false q;omega
def ML (r:Yr) (a b out:Array Keyed) (ia ib:Nat):Prop:=MI (leR r) (a.toList++b.toList) out.toList (a.toList.drop ia) (b.toList.drop ib)
variable {a b out:Array Keyed} {ia ib:Nat}
def Jg (e:a[i]?=some x):a.toList.drop i=x::a.toList.drop (i+1):=by
 let⟨hi,rfl⟩:=Array.getElem?_eq_some_iff.mp e;rw[List.drop_eq_getElem_cons (~~~hi)];simp
def LZ (h:x∈a.toList.drop i):∃ j,i<=j/\a[j]?=some x:=by
 let⟨j,e⟩:=List.mem_iff_getElem?.mp h;rw[List.getElem?_drop,Bo]at e;calc ⟨i+j,(),e⟩
def ML.pushB (h:ML r a b out ia ib) (e:b[ib]?=some y) (hy:∀ x∈a.toList.drop ia,r y.1<=r x.1):ML r a b (out.push y) ia (ib+1):=by
 unfold ML at h ⊢;rw[Jg e]at h;rw[Array.toList_push];exact MI.takeR h λx hx z hz=>by rw[Ae.mp hx];calc hy z hz
def ML.pushA (h:ML r a b out ia ib) (e:a[ia]?=some x) (hx:∀ y∈b.toList.drop ib,r x.1<=r y.1):ML r a b (out.push x) (ia+1) ib:=by
 unfold ML at h ⊢;rw[Jg e]at h;rw[Array.toList_push];exact MI.takeL h λy hy z hz=>by rw[Ae.mp hy];calc hx z hz
def LM (a:Array Keyed) (i k:Nat):(a.extract i (i+k)).toList=(a.toList.drop i).take k:=by
 rw[Array.toList_extract,List.extract_eq_take_drop];simp
def ML.blockA (h:ML r a b out ia ib) (k:Nat) (hx:∀ x∈(a.toList.drop ia).take k,∀ y∈b.toList.drop ib,r x.1<=r y.1):ML r a b (out++a.extract ia (ia+k)) (ia+k) ib:=by
 unfold ML at h ⊢;rw[Array.toList_append,LM];rw[<-EF k (a.toList.drop ia),List.drop_drop]at h;calc MI.takeL h hx
def ML.blockB (h:ML r a b out ia ib) (k:Nat) (hx:∀ x∈(b.toList.drop ib).take k,∀ y∈a.toList.drop ia,r x.1<=r y.1):ML r a b (out++b.extract ib (ib+k)) ia (ib+k):=by
 unfold ML at h ⊢;rw[Array.toList_append,LM];rw[<-EF k (b.toList.drop ib),List.drop_drop]at h;calc MI.takeR h hx
def KI (a:Array Keyed) (i:Nat):(a.extract i a.size).toList=a.toList.drop i:=by
 rw[Array.toList_extract,List.extract_eq_take_drop,E8 (by simp)]
def ML.done (h:ML r a b out ia ib) (e:a.size<=ia\/b.size<=ib):Mgd (leR r) (a.toList++b.toList) (out++a.extract ia a.size++b.extract ib b.size).toList:=by
 erw[ML]at h;rw[Array.toList_append,Array.toList_append,KI,KI];rcases e with e|e
 .rw[List.drop_eq_nil_of_le (~~~e)]at h ⊢;simpa using h.endR
 .rw[List.drop_eq_nil_of_le (as:=b.toList) (~~~e)]at h ⊢;simpa using h.endL
def ML.lastA (h:ML r a b out ia ib) (hl:∀ y∈b.toList.drop ib,∀ x∈a.toList.drop ia,r y.1<=r x.1):Mgd (leR r) (a.toList++b.toList) (out++b.extract ib b.size++a.extract ia a.size).toList:=by
 erw[ML]at h;rw[Array.toList_append,Array.toList_append,KI,KI];calc h.last hl
def ML.headA (h:ML r a b out ia ib) (e:a[ia]?=some x):∀ z∈a.toList.drop ia,r x.1<=r z.1:=by
 have:=h.sl;rw[Jg e]at this ⊢;intro z hz;rcases AJ.mp hz with q|q
 .rw[q];exact AF _
 .exact (DA.mp this).1 z q
def ML.headB (h:ML r a b out ia ib) (e:b[ib]?=some y):∀ z∈b.toList.drop ib,r y.1<=r z.1:=by
 have:=h.sm;rw[Jg e]at this ⊢;intro z hz;rcases AJ.mp hz with q|q
 .rw[q];exact AF _
 .exact (DA.mp this).1 z q
end
section
variable {prog:Ym} {w:Yo} {A:Yn} {E:Yc} {s:Yl} {κ:SortKind} {vs:Yf} {r:Yr} {a b:Array Keyed}
structure Fr1 (r:Yr) (a b:Array Keyed) (st st':SortSt) (out:Array Keyed) (ia ib:Nat):Prop where
 m:ML r a b out ia ib
 s:SameS st st'
 ha:ia+1<a.size
 hb:ib<b.size
def Cs {a:Array Keyed} {i:Nat} {x:Keyed} (e:a[i]?=some x):x∈a.toList:=by
 let⟨hi,rfl⟩:=Array.getElem?_eq_some_iff.mp e;simp
def zX {α:Type} {c:Prop} [Decidable c] {m1 m2:StateT SortSt Sem α} {Q:α->SortSt->Prop} {st:SortSt} (h1:c->wpS (model prog w) A E s m1 Q st) (h2:¬ c->wpS (model prog w) A E s m2 Q st):wpS (model prog w) A E s (if c then m1 else m2) Q st:=by
 split
 .exact h1 (by assumption)
 .exact h2 (by assumption)
def ES {a:Array Keyed} (sa:a.toList.Pairwise (leR r)) {i j:Nat} {x y:Keyed} (hij:i<=j) (ex:a[i]?=some x) (ey:a[j]?=some y):r x.1<=r y.1:=by
 by_cases e:i=j
 .subst e;rw[ex]at ey;ext ey;exact AF _
 .obtain ⟨hi,rfl⟩:=Array.getElem?_eq_some_iff.mp ex;let⟨hj,rfl⟩:=Array.getElem?_eq_some_iff.mp ey;have:=List.pairwise_iff_getElem.mp sa i j (~~~hi) (~~~hj) ();simpa using this
def JG (h:x∈(a.toList.drop i).take k):∃ j,j<k/\a[i+j]?=some x:=by
 let⟨j,e⟩:=List.mem_iff_getElem?.mp h;rw[List.getElem?_take]at e;cbv at e
 .rw[List.getElem?_drop,Bo]at e;exact ⟨j,by assumption,e⟩
 .cases e
def BY (h:i<a.size):a[i]?=some a[i]:=DC h
def Aj {α β:Type} {x:StateT SortSt Sem α} {f:α->StateT SortSt Sem β} {Q:β->SortSt->Prop} {st:SortSt} {S:(α->SortSt->Prop)->Prop} (h:∀ P,S P->wpS (model prog w) A E s x P st) (g:S λv st=>wpS (model prog w) A E s (f v) Q st):wpS (model prog w) A E s (x >>= f) Q st:=wpS_bind (h _ g)
set_option maxHeartbeats 4000000 in
def Vo (R:Ci prog w s κ vs r) (ha:∀ x∈a.toList,x.1∈vs) (hb:∀ x∈b.toList,x.1∈vs) (sa:a.toList.Pairwise (leR r)) (sb:b.toList.Pairwise (leR r)) (h0:0<a.size) (h1:0<b.size)
  (hf:∀ y,b[0]?=some y -> ∀ x∈a.toList,r y.1<=r x.1) (hl:∀ y∈b.toList,∀ x,a[a.size-1]?=some x->r y.1<=r x.1) {st:SortSt} (hk:kindOf st=κ) {Q:Array Keyed->SortSt->Prop}
  (h:∀ out st',SameS st st'->Mgd (leR r) (a.toList++b.toList) out.toList->Q out st'):wpS (model prog w) A E s (iL a b) Q st:=by
 let lastA:∀ {out ia ib},ML r a b out ia ib->ia+1=a.size->Mgd (leR r) (a.toList++b.toList) (out++b.extract ib b.size++a.extract ia a.size).toList:=λ{out ia ib} m e=>m.lastA λy hy x hx=>by
  let⟨j,hj,ej⟩:=LZ hx;let hj2:=(Array.getElem?_eq_some_iff.mp ej).1;exact hl y (List.mem_of_mem_drop hy) x (by rw[show a.size-1=j by omega];calc ej)
 refine Aj (λP g=>wpS_lift (BX ⟨rfl,g⟩)) ?_;refine Aj (λP g=>zo (BY h1) g) ?_;let m0:ML r a b #[] 0 0:=⟨List.Perm.refl _,.nil,sa,sb,(λx hx=>absurd hx (by simp)),(λx hx=>absurd hx (by simp))⟩;let m1:ML r a b #[b[0]] 0 1:=m0.pushB (BY h1) (hf _ (BY h1));refine zX (λc1=>wpS_pure (h _ _ (.refl _) (m1.done (.inr (Nat.le_of_eq (show b.size=1 by simpa using (by simpa using c1:1=b.size).symm)))))) (λc1=>?_);refine zX (λc2=>wpS_pure (h _ _ (.refl _) (lastA m1 (~~~c2)))) (λc2=>?_);replace c1:¬ 1=b.size:=by simpa using c1
 replace c2:¬ 0+1=a.size:=by simpa using c2
 refine Aj (λP g=>wpS_get g) ?_;refine wpS_bind (wpS_mono (wpS_forRange (I:=λx c st'=>∃ out ia ib g,c=(none,out,ia,ib,g)/\Fr1 r a b st st' out ia ib/\x+1<=ia+ib) (Q:=λc st'=>∃ res,c.1=some res/\SameS st st'/\Mgd (leR r) (a.toList++b.toList) res.toList) ?step ?fin ⟨_,_,_,_,rfl,⟨m1,.refl _,(),()⟩,()⟩) ?post)
 case fin=>
  intro c st' hI;refine qz λG=>?_;let⟨out,ia,ib,g,eI1,f,hx⟩:=hI;calc G ?_;clear G;subst eI1;have:=f.ha;have:=f.hb;omega
 case post=>
  rintro ⟨c1,c2⟩ st' ⟨res,e,hs,hm⟩;dsimp only at e;subst e;exact wpS_pure (h _ _ hs hm)
 case step=>
  intro x c st' _ hx hI;refine qz λG=>?_;let⟨out,ia,ib,g,eI1,f,hx2⟩:=hI;calc G ?_;clear G;subst eI1;dsimp only;refine Aj (λP=>wpS_mono (wpS_forRange (I:=λy c st'=>∃ out2 ia2 ib2 ca cb,c=(none,out2,ia2,ib2,ca,cb)/\Fr1 r a b st st' out2 ia2 ib2/\ia+ib+y<=ia2+ib2) (Q:=λc st'=>(∃ res,c.1=some res/\SameS st st'/\Mgd (leR r) (a.toList++b.toList) res.toList) \/ ∃ out2 ia2 ib2 ca cb,c=(none,out2,ia2,ib2,ca,cb)/\Fr1 r a b st st' out2 ia2 ib2/\ia+ib+1<=ia2+ib2) ?step1 ?fin1 ⟨_,_,_,_,_,rfl,f,()⟩)) ?post1
  case fin1=>
   intro c st' hI;refine qz λG=>?_;let⟨out2,ia,ib,ca,cb,eI1,f,hy⟩:=hI;calc G ?_;clear G;subst eI1;exact .inr ⟨_,_,_,_,_,rfl,f,()⟩
  case step1=>
   intro y c st' _ hy hI;refine qz λG=>?_;let⟨out2,ia,ib,ca,cb,eI1,f,hy2⟩:=hI;calc G ?_;clear G;subst eI1;dsimp only;let hia:ia<a.size:=by have:=f.ha;omega
   let hib:=f.hb;let eb:b[ib]?=some b[ib]:=BY hib;let ea:a[ia]?=some a[ia]:=BY hia;let hkk:kindOf st'=κ:=f.s.k.trans hk;refine Aj (λP g=>zo eb g) (Aj (λP g=>zo ea g) (Aj (λP g=>IB R hkk (hb _ (Cs eb)) (ha _ (Cs ea)) g) ?_));refine zX (λhlt=>?_) (λhlt=>?_)
   .replace hlt:=B2 hlt;refine Aj (λP g=>zo eb g) ?_;let m2:ML r a b (out2.push b[ib]) ia (ib+1):=f.m.pushB eb λz hz=>by have:=f.m.headA ea z hz;omega
    refine zX (λc3=>wpS_pure (.inl ⟨_,rfl,f.s,m2.done (.inr (Nat.le_of_eq (show ib+1=b.size by simpa using c3).symm))⟩)) (λc3=>?_);let f2:Fr1 r a b st st' (out2.push b[ib]) ia (ib+1):=⟨m2,f.s,f.ha,by simp at c3;omega⟩;exact zX (λ_=>wpS_pure (.inr ⟨_,_,_,_,_,rfl,f2,()⟩)) (λ_=>wpS_pure ⟨_,_,_,_,_,rfl,f2,()⟩)
   .replace hlt:¬ _:=λh=>hlt (BB h);refine Aj (λP g=>zo ea g) ?_;let m2:ML r a b (out2.push a[ia]) (ia+1) ib:=f.m.pushA ea λz hz=>by have:=f.m.headB eb z hz;omega
    refine zX (λc3=>wpS_pure (.inl ⟨_,rfl,f.s,lastA m2 (~~~c3)⟩)) (λc3=>?_);let f2:Fr1 r a b st st' (out2.push a[ia]) (ia+1) ib:=⟨m2,f.s,by have:=f.ha;simp at c3;omega,f.hb⟩;exact zX (λ_=>wpS_pure (.inr ⟨_,_,_,_,_,rfl,f2,()⟩)) (λ_=>wpS_pure ⟨_,_,_,_,_,rfl,f2,()⟩)
  case post1=>
   intro c st' hI;refine qz λG=>?_;obtain ⟨res,e,hs,hm⟩|⟨out2,ia,ib,ca,cb,e,f,hy⟩:=hI
   .obtain ⟨c2,rfl⟩:∃ c2,c=(some res,c2):=⟨c.2,by ext c;ext e;rfl⟩;exact G (wpS_pure ⟨res,rfl,hs,hm⟩)
   .refine G ?_;clear G;subst e;dsimp only;refine Aj (λP g=>wpS_lift (BX ⟨rfl,g⟩)) ?_;refine wpS_bind (wpS_mono (wpS_forRange (I:=λy c st'=>∃ out3 ia3 ib3 g ca cb,c=(none,out3,ia3,ib3,g,ca,cb)/\Fr1 r a b st st' out3 ia3 ib3/\ia+ib<=ia3+ib3) (Q:=λc st'=>(∃ res,c.1=some res/\SameS st st'/\Mgd (leR r) (a.toList++b.toList) res.toList) \/ ∃ out3 ia3 ib3 g ca cb,c=(none,out3,ia3,ib3,g,ca,cb)/\Fr1 r a b st st' out3 ia3 ib3/\ia+ib<=ia3+ib3) ?step2 ?fin2 ⟨_,_,_,_,_,_,rfl,f,()⟩) ?post2)
    case fin2=>
     intro c st' hI;refine qz λG=>?_;let⟨out3,ia,ib,g,ca,cb,eI1,f,hy⟩:=hI;calc G ?_;clear G;subst eI1;exact .inr ⟨_,_,_,_,_,_,rfl,f,hy⟩
    case post2=>
     intro c st' hI;refine qz λG=>?_;obtain ⟨res,e,hs,hm⟩|⟨out3,ia,ib,g,ca,cb,e,f,hz⟩:=hI
     .obtain ⟨c2,rfl⟩:∃ c2,c=(some res,c2):=⟨c.2,by ext c;ext e;rfl⟩;exact G (wpS_pure ⟨res,rfl,hs,hm⟩)
     .refine G ?_;clear G;subst e;dsimp only;refine wpS_bind (wpS_modify (wpS_pure ⟨_,_,_,_,rfl,⟨f.m,⟨f.s.k,f.s.a,f.s.p,f.s.f⟩,f.ha,f.hb⟩,()⟩))
    case step2=>
     intro y c st' _ hy hI;refine qz λG=>?_;let⟨out3,ia,ib,g,ca,cb,eI1,f,hy2⟩:=hI;calc G ?_;clear G;subst eI1;let hia:ia<a.size:=by have:=f.ha;omega
     let hib:=f.hb;let eb:b[ib]?=some b[ib]:=BY hib;dsimp only;refine zX (λcg=>?_) (λcg=>?_);clear cg;generalize g-1=g';revert g';refine ?K;rotate_left;clear cg;exact ?K _;intro g';refine Aj (λP g=>wpS_modify g) ?_;refine Aj (λP g=>zo eb g) ?_;let hs2:=f.s;refine Aj (λP=>HG (left:=false) (key:=b[ib]) (arr:=a) (base:=ia) (n:=a.size-ia) (hint:=0) R (hs2.k.trans hk) (hb _ (Cs eb)) (λi hi=>⟨_,BY (),ha _ (Cs (BY ()))⟩) (λi j x y hij hj ex ey=>ES sa () ex ey) ()) λk hk1 g1 g2=>?_;let aft:∀ x∈a.toList.drop (ia+k),r b[ib].1<=r x.1:=λx hx=>by
      let⟨j,hj,ej⟩:=LZ hx;let hj2:=(Array.getElem?_eq_some_iff.mp ej).1;have:=g2 (j-ia) x () () (by rw[show ia+(j-ia)=j by omega];calc ej);exact DV this
     refine zX (λhk0=>?_) (λhk0=>?_);let m4:=f.m.blockA k λx hx z hz=>by
      let⟨i,hi,ei⟩:=JG hx;have:r x.1<=r b[ib].1:=g1 i x hi ei;have:=f.m.headB eb z hz;omega
     refine zX (λc4=>wpS_pure (.inl ⟨_,rfl,⟨hs2.k,hs2.a,hs2.p,hs2.f⟩,lastA m4 (show ia+k+1=a.size by simpa using c4)⟩)) (λc4=>zX (λc5=>wpS_pure (.inl ⟨_,rfl,⟨hs2.k,hs2.a,hs2.p,hs2.f⟩,m4.done (.inl (Nat.le_of_eq (show a.size=ia+k by simpa using (by simpa using c5:ia+k=a.size).symm)))⟩)) (λc5=>?_));let a4:ia+k+1<a.size:=by simp at c4 c5;omega
     let l4:ia<=ia+k:=Dn _ _;clear c4 c5 hk0;generalize out3++a.extract ia (ia+k)=o4 at m4 ⊢;generalize ia+k=i4 at m4 a4 l4 aft ⊢;revert aft;revert l4;revert a4;revert m4;revert i4;revert o4;calc ?K2;rotate_left;let hk00:k=0:=()
     exact ?K2 _ _ f.m f.ha (AF _) (λx hx=>aft x (by rw[hk00];calc hx));intro o4 i4 m4 a4 l4 aft;refine Aj (λP g=>zo eb g) ?_;let m5:=m4.pushB eb aft;refine zX (λc6=>wpS_pure (.inl ⟨_,rfl,⟨hs2.k,hs2.a,hs2.p,hs2.f⟩,m5.done (.inr (Nat.le_of_eq (show ib+1=b.size by simpa using c6).symm))⟩)) (λc6=>?_);let c6':ib+1<b.size:=by simp at c6;omega
     let ea4:=BY (Nat.lt_of_succ_lt a4);refine Aj (λP g=>zo ea4 g) ?_;refine Aj (λP=>HG (left:=true) (arr:=b) (base:=ib+1) (n:=b.size-(ib+1)) (hint:=0) R (hs2.k.trans hk) (ha _ (Cs ea4)) (λi hi=>⟨_,BY (),hb _ (Cs (BY ()))⟩) (λi j x y hij hj ex ey=>ES sb () ex ey) ()) λk2 hk2 g3 g4=>?_;let aft2:∀ y∈b.toList.drop (ib+1+k2),_<=r y.1:=λy hy=>by
      let⟨j,hj,ej⟩:=LZ hy;let hj2:=(Array.getElem?_eq_some_iff.mp ej).1;exact g4 (j-(ib+1)) y () () (by rw[show ib+1+(j-(ib+1))=j by omega];calc ej)
     refine zX (λhk3=>?_) (λhk3=>?_);let m6:=m5.blockB k2 λx hx z hz=>by
      let⟨i,hi,ei⟩:=JG hx;exact DV (BC (g3 i x hi ei) (m5.headA ea4 z hz))
     refine zX (λc7=>wpS_pure (.inl ⟨_,rfl,⟨hs2.k,hs2.a,hs2.p,hs2.f⟩,m6.done (.inr (Nat.le_of_eq (show ib+1+k2=b.size by simpa using c7).symm))⟩)) (λc7=>?_);let b6:ib+1+k2<b.size:=by simp at c7;omega
     let l6:ib+1<=ib+1+k2:=Dn _ _;clear c7 hk3;generalize o4.push b[ib]++b.extract (ib+1) (ib+1+k2)=o6 at m6 ⊢;generalize ib+1+k2=i6 at m6 b6 l6 aft2 ⊢;revert aft2;revert l6;revert b6;revert m6;revert i6;revert o6;calc ?K3;rotate_left;let hk00:k2=0:=()
     exact ?K3 _ _ m5 c6' (AF _) (λx hx=>aft2 x (by rw[hk00];calc hx));intro o6 i6 m6 b6 l6 aft2;refine Aj (λP g=>zo ea4 g) ?_;let m7:=m6.pushA ea4 aft2;refine zX (λc8=>wpS_pure (.inl ⟨_,rfl,⟨hs2.k,hs2.a,hs2.p,hs2.f⟩,lastA m7 (~~~c8)⟩)) (λc8=>?_);let a7:i4+1+1<a.size:=by simp at c8;omega
     let l7:_<=i4+1+i6:=Ao hy2 ();calc zX (λ_=>wpS_pure (.inr ⟨_,_,_,_,_,_,rfl,⟨m7,⟨hs2.k,hs2.a,hs2.p,hs2.f⟩,a7,b6⟩,l7⟩)) (λ_=>wpS_pure ⟨_,_,_,_,_,_,rfl,⟨m7,⟨hs2.k,hs2.a,hs2.p,hs2.f⟩,a7,b6⟩,l7⟩)
end
section
variable {prog:Ym} {w:Yo} {A:Yn} {E:Yc} {s:Yl} {κ:SortKind} {vs:Yf} {r:Yr} {a b out:Array Keyed} {na nb:Nat}
def MH (r:Yr) (a b out:Array Keyed) (na nb:Nat):Prop:=MI (geR r) (a.toList++b.toList) out.toList (a.toList.take na).reverse (b.toList.take nb).reverse
def NJ (e:a[i]?=some x):(a.toList.take (i+1)).reverse=x::(a.toList.take i).reverse:=by
 rw[List.take_add_one,Bo,e];simp
def GS (h:x∈a.toList.take n):∃ j,j<n/\a[j]?=some x:=by
 let⟨j,e⟩:=List.mem_iff_getElem?.mp h;rw[List.getElem?_take]at e;cbv at e
 .rw[Bo]at e;exact ⟨j,by assumption,e⟩
 .cases e
def MH.pushA (h:MH r a b out (na+1) nb) (e:a[na]?=some x) (hx:∀ y∈b.toList.take nb,r y.1<=r x.1):MH r a b (out.push x) na nb:=by
 unfold MH at h ⊢;rw[NJ e]at h;rw[Array.toList_push];exact MI.takeL (p:=[x]) h λy hy z hz=>by rw[Ae.mp hy];calc hx z (~~~hz)
def MH.pushB (h:MH r a b out na (nb+1)) (e:b[nb]?=some y) (hy:∀ x∈a.toList.take na,r x.1<=r y.1):MH r a b (out.push y) na nb:=by
 unfold MH at h ⊢;rw[NJ e]at h;rw[Array.toList_push];exact MI.takeR (p:=[y]) h λx hx z hz=>by rw[Ae.mp hx];calc hy z (~~~hz)
def NX (a:Array Keyed) (h:i<=n):(a.toList.take n).reverse=(a.extract i n).reverse.toList++(a.toList.take i).reverse:=by
 rw[Array.toList_reverse,Array.toList_extract,List.extract_eq_take_drop,<-List.reverse_append];congr 1;rw[<-List.drop_take];conv=>lhs;rw[<-EF i (a.toList.take n),List.take_take,Nat.min_eq_left h]
def MH.blockA (h:MH r a b out na nb) (hi:i<=na) (hx:∀ j x,i<=j->j<na->a[j]?=some x -> ∀ y∈b.toList.take nb,r y.1<=r x.1):MH r a b (out++(a.extract i na).reverse) i nb:=by
 unfold MH at h ⊢;rw[NX a hi]at h;rw[Array.toList_append];refine MI.takeL h λx hx' y hy=>?_;rw[Array.toList_reverse,List.mem_reverse,Array.toList_extract,List.extract_eq_take_drop]at hx';let⟨j,hj,ej⟩:=JG hx';calc hx (i+j) x () () ej y (~~~hy)
def MH.blockB (h:MH r a b out na nb) (hi:i<=nb) (hx:∀ j x,i<=j->j<nb->b[j]?=some x -> ∀ y∈a.toList.take na,r y.1<=r x.1):MH r a b (out++(b.extract i nb).reverse) na i:=by
 unfold MH at h ⊢;rw[NX b hi]at h;rw[Array.toList_append];refine MI.takeR h λx hx' y hy=>?_;rw[Array.toList_reverse,List.mem_reverse,Array.toList_extract,List.extract_eq_take_drop]at hx';let⟨j,hj,ej⟩:=JG hx';calc hx (i+j) x () () ej y (~~~hy)
def JE (a:Array Keyed) (n:Nat):(a.extract 0 n).toList=a.toList.take n:=by
 rw[Array.toList_extract,List.extract_eq_take_drop];simp
def Mgd.rev (h:Mgd (geR r) C xs):Mgd (leR r) C xs.reverse:=⟨(List.reverse_perm _).trans h.1,List.pairwise_reverse.mpr h.2⟩
def MH.done (h:MH r a b out na nb) (e:na=0\/nb=0):Mgd (leR r) (a.toList++b.toList) (a.extract 0 na++b.extract 0 nb++out.reverse).toList:=by
 erw[MH]at h;rw[Array.toList_append,Array.toList_append,JE,JE,Array.toList_reverse];rcases e with rfl|rfl
 .have:=h.endR.rev;simpa using this
 .have:=(MI.endL (l:=(a.toList.take na).reverse) (~~~h)).rev;simpa using this
def MH.firstB (h:MH r a b out na nb) (hl:∀ x∈a.toList.take na,∀ y∈b.toList.take nb,r y.1<=r x.1):Mgd (leR r) (a.toList++b.toList) (b.extract 0 nb++a.extract 0 na++out.reverse).toList:=by
 erw[MH]at h;let h2:=MI.endR (MI.takeL (p:=(a.toList.take na).reverse) (l:=[]) (~~~h) λx hx y hy=>hl x (~~~hx) y (~~~hy));rw[Array.toList_append,Array.toList_append,JE,JE,Array.toList_reverse];simpa using h2.rev
structure Fr2 (r:Yr) (a b:Array Keyed) (st st':SortSt) (out:Array Keyed) (na nb:Nat):Prop where
 m:MH r a b out na nb
 s:SameS st st'
 a0:0<na
 b0:1<nb
 al:na<a.size
 bl:nb<=b.size
set_option maxHeartbeats 4000000 in
def Wy (R:Ci prog w s κ vs r) (ha:∀ x∈a.toList,x.1∈vs) (hb:∀ x∈b.toList,x.1∈vs) (sa:a.toList.Pairwise (leR r)) (sb:b.toList.Pairwise (leR r)) (h0:0<a.size) (h1:0<b.size)
  (hf:∀ y,b[0]?=some y -> ∀ x∈a.toList,r y.1<=r x.1) (hl:∀ y∈b.toList,∀ x,a[a.size-1]?=some x->r y.1<=r x.1) {st:SortSt} (hk:kindOf st=κ) {Q:Array Keyed->SortSt->Prop}
  (h:∀ out st',SameS st st'->Mgd (leR r) (a.toList++b.toList) out.toList->Q out st'):wpS (model prog w) A E s (iF a b) Q st:=by
 let firstB:∀ {out na nb},MH r a b out na nb->nb=1->Mgd (leR r) (a.toList++b.toList) (b.extract 0 nb++a.extract 0 na++out.reverse).toList:=λ{out na nb} m e=>m.firstB λx hx y hy=>by
  let⟨j,hj,ej⟩:=GS hy;have:j=0:=()
  subst this;exact hf y ej x (List.mem_of_mem_take hx)
 let e0:a[a.size-1]?=some a[a.size-1]:=BY ();refine Aj (λP g=>wpS_lift (BX ⟨rfl,g⟩)) ?_;refine Aj (λP g=>zo e0 g) ?_;let m0:MH r a b #[] (a.size-1+1) b.size:=by
  refine ⟨?_,.nil,?_,?_,(λx hx=>absurd hx (by simp)),(λx hx=>absurd hx (by simp))⟩
  .show ([]++((a.toList.take (a.size-1+1)).reverse++(b.toList.take b.size).reverse)).Perm _;rw[List.nil_append,show a.size-1+1=a.toList.length by simp;omega,show b.size=b.toList.length by simp,List.take_length,List.take_length];exact List.Perm.append (List.reverse_perm _) (List.reverse_perm _)
  .exact List.pairwise_reverse.mpr (sa.sublist (List.take_sublist _ _))
  .exact List.pairwise_reverse.mpr (sb.sublist (List.take_sublist _ _))
 let m1:MH r a b #[a[a.size-1]] (a.size-1) b.size:=m0.pushA e0 λy hy=>hl y (List.mem_of_mem_take hy) _ e0;refine zX (λc1=>wpS_pure (h _ _ (.refl _) (m1.done (.inl (~~~c1))))) (λc1=>?_);refine zX (λc2=>wpS_pure (h _ _ (.refl _) (firstB m1 (~~~c2)))) (λc2=>?_);let c1':¬ a.size-1=0:=by simpa using c1
 let c2':¬ b.size=1:=by simpa using c2
 refine Aj (λP g=>wpS_get g) ?_;refine wpS_bind (wpS_mono (wpS_forRange (I:=λx c st'=>∃ out na nb g,c=(none,na,nb,out,g)/\Fr2 r a b st st' out na nb/\x+1+(na+nb)<=a.size+b.size) (Q:=λc st'=>∃ res,c.1=some res/\SameS st st'/\Mgd (leR r) (a.toList++b.toList) res.toList) ?step ?fin ⟨_,_,_,_,rfl,⟨m1,.refl _,(),(),(),()⟩,()⟩) ?post)
 case fin=>
  intro c st' hI;refine qz λG=>?_;let⟨out,na,nb,g,eI1,f,hx⟩:=hI;calc G ?_;clear G;subst eI1;have:=f.a0;have:=f.b0;omega
 case post=>
  rintro ⟨c1,c2⟩ st' ⟨res,e,hs,hm⟩;dsimp only at e;subst e;exact wpS_pure (h _ _ hs hm)
 case step=>
  intro x c st' _ hx hI;refine qz λG=>?_;let⟨out,na,nb,g,eI1,f,hx2⟩:=hI;calc G ?_;clear G;subst eI1;refine Aj (λP=>wpS_mono (wpS_forRange (I:=λy c st'=>∃ out2 na2 nb2 ca cb,c=(none,na2,nb2,out2,ca,cb)/\Fr2 r a b st st' out2 na2 nb2/\na2+nb2+y<=na+nb) (Q:=λc st'=>(∃ res,c.1=some res/\SameS st st'/\Mgd (leR r) (a.toList++b.toList) res.toList) \/ ∃ out2 na2 nb2 ca cb,c=(none,na2,nb2,out2,ca,cb)/\Fr2 r a b st st' out2 na2 nb2/\na2+nb2+1<=na+nb) ?step1 ?fin1 ⟨out,na,nb,_,_,rfl,f,()⟩)) ?post1
  case fin1=>
   intro c st' hI;refine qz λG=>?_;let⟨out2,na,nb,ca,cb,eI1,f,hy⟩:=hI;calc G ?_;clear G;subst eI1;exact .inr ⟨_,_,_,_,_,rfl,f,()⟩
  case step1=>
   intro y c st' _ hy hI;refine qz λG=>?_;let⟨out2,na2,nb2,ca,cb,eI1,f,hy2⟩:=hI;calc G ?_;clear G;subst eI1;obtain ⟨p,rfl⟩:∃ p,na2=p+1:=⟨na2-1,by have:=f.a0;omega⟩;obtain ⟨q,rfl⟩:∃ q,nb2=q+1:=⟨nb2-1,by have:=f.b0;omega⟩;let hp:p<a.size:=by have:=f.al;omega
   let hq:q<b.size:=by have:=f.bl;omega
   let eb:b[q]?=some b[q]:=BY hq;let ea:a[p]?=some a[p]:=BY hp;refine Aj (λP g=>zo eb g) (Aj (λP g=>zo ea g) (Aj (λP g=>IB R (f.s.k.trans hk) (hb _ (Cs eb)) (ha _ (Cs ea)) g) ?_));dsimp only;by_cases hlt:r b[q].1<r a[p].1
   .rw[BB hlt,AD rfl];refine Aj (λP g=>zo ea g) ?_;let m2:MH r a b (out2.push a[p]) p (q+1):=f.m.pushA ea λz hz=>by
     let⟨j,hj,ej⟩:=GS hz;have:=ES sb (show j<=q by omega) ej eb;omega
    refine zX (λc3=>wpS_pure (.inl ⟨_,rfl,f.s,m2.done (.inl (~~~c3))⟩)) (λc3=>?_);let f2:Fr2 r a b st st' (out2.push a[p]) p (q+1):=⟨m2,f.s,by simp at c3;omega,f.b0,(),f.bl⟩;exact zX (λ_=>wpS_pure (.inr ⟨_,_,_,_,_,rfl,f2,()⟩)) (λ_=>wpS_pure ⟨_,_,_,_,_,rfl,f2,()⟩)
   .rw[Al hlt,AE ()];refine Aj (λP g=>zo eb g) ?_;let m2:MH r a b (out2.push b[q]) (p+1) q:=f.m.pushB eb λz hz=>by
     let⟨j,hj,ej⟩:=GS hz;have:=ES sa (show j<=p by omega) ej ea;omega
    refine zX (λc3=>wpS_pure (.inl ⟨_,rfl,f.s,firstB m2 (~~~c3)⟩)) (λc3=>?_);let f2:Fr2 r a b st st' (out2.push b[q]) (p+1) q:=⟨m2,f.s,f.a0,by have:=f.b0;simp at c3;omega,f.al,()⟩;exact zX (λ_=>wpS_pure (.inr ⟨_,_,_,_,_,rfl,f2,()⟩)) (λ_=>wpS_pure ⟨_,_,_,_,_,rfl,f2,()⟩)
  case post1=>
   intro c st' hI;refine qz λG=>?_;obtain ⟨res,e,hs,hm⟩|⟨out2,na2,nb2,ca,cb,e,f,hy⟩:=hI
   .obtain ⟨c2,rfl⟩:∃ c2,c=(some res,c2):=⟨c.2,by ext c;ext e;rfl⟩;exact G (wpS_pure ⟨res,rfl,hs,hm⟩)
   .refine G ?_;clear G;subst e;refine Aj (λP g=>wpS_lift (BX ⟨rfl,g⟩)) ?_;refine wpS_bind (wpS_mono (wpS_forRange (I:=λy c st'=>∃ out3 na3 nb3 g ca cb,c=(none,na3,nb3,out3,g,ca,cb)/\Fr2 r a b st st' out3 na3 nb3/\na3+nb3<=na2+nb2) (Q:=λc st'=>(∃ res,c.1=some res/\SameS st st'/\Mgd (leR r) (a.toList++b.toList) res.toList) \/ ∃ out3 na3 nb3 g ca cb,c=(none,na3,nb3,out3,g,ca,cb)/\Fr2 r a b st st' out3 na3 nb3/\na3+nb3<=na2+nb2) ?step2 ?fin2 ⟨out2,na2,nb2,_,_,_,rfl,f,()⟩) ?post2)
    case fin2=>
     intro c st' hI;refine qz λG=>?_;let⟨out3,na,nb,g,ca,cb,eI1,f,hy⟩:=hI;calc G ?_;clear G;subst eI1;exact .inr ⟨_,_,_,_,_,_,rfl,f,hy⟩
    case post2=>
     intro c st' hI;refine qz λG=>?_;obtain ⟨res,e,hs,hm⟩|⟨out3,na3,nb3,g,ca,cb,e,f,hz⟩:=hI
     .obtain ⟨c2,rfl⟩:∃ c2,c=(some res,c2):=⟨c.2,by ext c;ext e;rfl⟩;exact G (wpS_pure ⟨res,rfl,hs,hm⟩)
     .refine G ?_;clear G;subst e;exact wpS_bind (wpS_modify (wpS_pure ⟨out3,na3,nb3,_,rfl,⟨f.m,⟨f.s.k,f.s.a,f.s.p,f.s.f⟩,f.a0,f.b0,f.al,f.bl⟩,()⟩))
    case step2=>
     intro y c st' _ hy hI;refine qz λG=>?_;let⟨out3,na3,nb3,g,ca,cb,eI1,f,hy2⟩:=hI;calc G ?_;clear G;subst eI1;dsimp only;generalize hq1:nb3-1=q;obtain rfl:nb3=q+1:=by have:=f.b0;omega
     clear hq1;let hq:q<b.size:=by have:=f.bl;omega
     let hq0:0<q:=by have:=f.b0;omega
     let hn0:=f.a0;let hnl:=f.al;let eb:b[q]?=some b[q]:=BY hq;refine zX (λcg=>?_) (λcg=>?_);clear cg;generalize g-1=g';revert g';refine ?K;rotate_left;clear cg;exact ?K _;intro g';refine Aj (λP g=>wpS_modify g) ?_;refine Aj (λP g=>zo eb g) ?_;let hs2:=f.s;refine Aj (λP=>HG (left:=false) (key:=b[q]) (arr:=a) (base:=0) (n:=na3) (hint:=na3-1) R (hs2.k.trans hk) (hb _ (Cs eb)) (λi hi=>⟨_,BY (),ha _ (Cs (BY ()))⟩) (λi j x y hij hj ex ey=>ES sa () ex ey) ()) λk hk1 g1 g2=>?_;let aft:∀ x∈a.toList.take k,r x.1<=r b[q].1:=λx hx=>by
      let⟨j,hj,ej⟩:=GS hx;exact g1 j x hj (by rw[Nat.zero_add];calc ej)
     refine zX (λhk0=>?_) (λhk0=>?_);let m4:=f.m.blockA hk1 λj x h1 h2 ej y hy=>by
      let⟨i,hi,ei⟩:=GS hy;let z1:=ES sb (show i<=q by omega) ei eb;let z2:r b[q].1<r x.1:=g2 j x h1 h2 (by rw[Nat.zero_add];calc ej);omega
     refine zX (λc4=>wpS_pure (.inl ⟨_,rfl,⟨hs2.k,hs2.a,hs2.p,hs2.f⟩,m4.done (.inl (~~~c4))⟩)) (λc4=>?_);let a4:0<k:=by simp at c4;omega
     clear c4 hk0 g1 g2;generalize na3-k=ac;generalize out3++(a.extract k na3).reverse=o4 at m4 ⊢;revert m4;revert o4;revert a4;revert aft;revert hk1;revert k;revert ac;calc ?K2;rotate_left;let hk00:k=na3:=by simp at hk0;omega
     calc ?K2 _ _ (AF _) (hk00▸aft) hn0 _ f.m;intro ac k hk1 aft a4 o4 m4;refine Aj (λP g=>zo eb g) ?_;let m5:=m4.pushB eb aft;refine zX (λc6=>wpS_pure (.inl ⟨_,rfl,⟨hs2.k,hs2.a,hs2.p,hs2.f⟩,firstB m5 (~~~c6)⟩)) (λc6=>?_);let c6':1<q:=by simp at c6;omega
     obtain ⟨p,rfl⟩:∃ p,k=p+1:=⟨k-1,()⟩;let hp:p<a.size:=()
     let ea4:a[p]?=some a[p]:=BY hp;refine Aj (λP g=>zo ea4 g) ?_;refine Aj (λP=>HG (left:=true) (key:=a[p]) (arr:=b) (base:=0) (n:=q) (hint:=q-1) R (hs2.k.trans hk) (ha _ (Cs ea4)) (λi hi=>⟨_,BY (),hb _ (Cs (BY ()))⟩) (λi j x y hij hj ex ey=>ES sb () ex ey) ()) λk2 hk2 g3 g4=>?_;let aft2:∀ y∈b.toList.take k2,r y.1<=r a[p].1:=λy hy=>by
      let⟨j,hj,ej⟩:=GS hy;exact DV (g3 j y hj (by rw[Nat.zero_add];calc ej))
     refine zX (λhk3=>?_) (λhk3=>?_);let m6:=m5.blockB hk2 λj x h1 h2 ej y hy=>by
      let⟨i,hi,ei⟩:=GS hy;let z1:=ES sa (show i<=p by omega) ei ea4;let z2:r a[p].1<=r x.1:=g4 j x h1 h2 (by rw[Nat.zero_add];calc ej);omega
     refine zX (λc7=>wpS_pure (.inl ⟨_,rfl,⟨hs2.k,hs2.a,hs2.p,hs2.f⟩,firstB m6 (~~~c7)⟩)) (λc7=>zX (λc8=>wpS_pure (.inl ⟨_,rfl,⟨hs2.k,hs2.a,hs2.p,hs2.f⟩,m6.done (.inr (~~~c8))⟩)) (λc8=>?_));let b6:1<k2:=by simp at c7 c8;omega
     clear c7 c8 hk3 g3 g4;generalize q-k2=bc;generalize o4.push b[q]++(b.extract k2 q).reverse=o6 at m6 ⊢;revert m6;revert o6;revert b6;revert aft2;revert hk2;revert k2;revert bc;calc ?K3;rotate_left;let hk00:k2=q:=by simp at hk3;omega
     calc ?K3 _ _ (AF _) (hk00▸aft2) c6' _ m5;intro bc k2 hk2 aft2 b6 o6 m6;refine Aj (λP g=>zo ea4 g) ?_;let m7:=m6.pushA ea4 aft2;refine zX (λc9=>wpS_pure (.inl ⟨_,rfl,⟨hs2.k,hs2.a,hs2.p,hs2.f⟩,m7.done (.inl (~~~c9))⟩)) (λc9=>?_);let a7:0<p:=by simp at c9;omega
     let b7:k2<=b.size:=()
     let l7:p+k2<=na2+nb2:=()
     calc zX (λ_=>wpS_pure (.inr ⟨_,p,k2,_,_,_,rfl,⟨m7,⟨hs2.k,hs2.a,hs2.p,hs2.f⟩,a7,b6,hp,b7⟩,l7⟩)) (λ_=>wpS_pure ⟨_,p,k2,_,_,_,rfl,⟨m7,⟨hs2.k,hs2.a,hs2.p,hs2.f⟩,a7,b6,hp,b7⟩,l7⟩)
end
section
variable {prog:Ym} {w:Yo} {A:Yn} {E:Yc} {s:Yl} {κ:SortKind} {vs:Yf} {r:Yr}
theorem PU:∀ (m:List Keyed) (k sa:Nat) (arr:Array Keyed),sa+k+m.length<=arr.size->((m.zipIdx k).foldl (λa x=>match x with|(p,j)=>a.setIfInBounds (sa+j) p) arr).toList=arr.toList.take (sa+k)++m++arr.toList.drop (sa+k+m.length)
 |[],k,sa,arr,h=>by simp
 |x::m,k,sa,arr,h=>by
  rw[List.zipIdx_cons,List.foldl_cons];simp only[C0]at h;rw[PU m (k+1) sa _ (by rw[Array.size_setIfInBounds];omega)];rw[Array.toList_setIfInBounds];let hl:arr.toList.length=arr.size:=by simp
  let e1:(arr.toList.set (sa+k) x).take (sa+(k+1))=arr.toList.take (sa+k)++[x]:=by
   rw[show sa+(k+1)=(sa+k)+1 by omega,List.take_add_one,List.take_set,Br ()];rw[List.set_eq_of_length_le (by simp;omega)];simp
  let e2:(arr.toList.set (sa+k) x).drop (sa+(k+1)+m.length)=arr.toList.drop (sa+k+(m.length+1)):=by
   rw[List.drop_set_of_lt ()];congr 1;omega
  rw[e1,e2];simp
def Nn {T R1 U:List Keyed} (h:i<R1.length):(T++(R1++U))[T.length+i]?=R1[i]?:=by
 rw[Ee (),Bf ()];congr 1;omega
def Ov {l:List Keyed} (h:x∈l.take k):∃ j,j<k/\l[j]?=some x:=by
 let⟨j,e⟩:=List.mem_iff_getElem?.mp h;rw[List.getElem?_take]at e;cbv at e
 .exact ⟨j,by assumption,e⟩
 .cases e
def Qo {l:List Keyed} (h:x∈l.drop k):∃ j,k<=j/\l[j]?=some x:=by
 let⟨j,e⟩:=List.mem_iff_getElem?.mp h;rw[List.getElem?_drop]at e;calc ⟨k+j,(),e⟩
def W9 (R:Ci prog w s κ vs r) {st:SortSt} (hk:kindOf st=κ) (hfl:failedOf st=none) {i sa na pw sb nb pw2:Nat} {T R1 R2 U:List Keyed} (ha:(arrOf st).toList=T++(R1++(R2++U))) (hv:∀ x∈(arrOf st).toList,x.1∈vs) (hT:T.length=sa) (h1:R1.length=na) (hsb:sb=sa+na) (h2:R2.length=nb) (n1:0<na) (n2:0<nb)
  (s1:R1.Pairwise (leR r)) (s2:R2.Pairwise (leR r)) (e1:(pendingOf st)[i]?=some (sa,na,pw)) (e2:(pendingOf st)[i+1]?=some (sb,nb,pw2)) {Q:Bool->SortSt->Prop}
  (h:∀ m st',kindOf st'=κ->failedOf st'=none->pendingOf st'=((pendingOf st).setIfInBounds i (sa,na+nb,pw)).eraseIdxIfInBounds (i+1)->(arrOf st').toList=T++(m++U)->m.Perm (R1++R2)->m.Pairwise (leR r)->Q true st') :
  wpS (model prog w) A E s (mergeAt' i) Q st:=by
 subst hT h1 h2 hsb;let at1:∀ j,j<R1.length->(arrOf st)[T.length+j]?=R1[j]?:=λj hj=>by rw[<-Bo,ha];exact Nn hj
 let at2:∀ j,j<R2.length->(arrOf st)[T.length+R1.length+j]?=R2[j]?:=λj hj=>by
  rw[<-Bo,ha,<-CI,show T.length+R1.length=(T++R1).length by simp];exact Nn hj
 let srt1:∀ {i j:Nat} {x y:Keyed},i<=j->R1[i]?=some x->R1[j]?=some y->r x.1<=r y.1:=λ{i j x y} hij ex ey=>ES (~~~s1) hij (~~~ex) (~~~ey);let srt2:∀ {i j:Nat} {x y:Keyed},i<=j->R2[i]?=some x->R2[j]?=some y->r x.1<=r y.1:=λ{i j x y} hij ex ey=>ES (~~~s2) hij (~~~ex) (~~~ey);let v1:∀ x∈R1,x.1∈vs:=λx hx=>hv x (by rw[ha];simp[hx]);let v2:∀ x∈R2,x.1∈vs:=λx hx=>hv x (by rw[ha];simp[hx]);let g1:∀ {j} (hj:j<R1.length),R1[j]?=some R1[j]:=λhj=>AM hj;let g2:∀ {j} (hj:j<R2.length),R2[j]?=some R2[j]:=λhj=>AM hj;refine wpS_bind (wpS_get ?_);rw[e1,e2];let eb0:(arrOf st)[T.length+R1.length]?=some R2[0]:=(at2 0 n2).trans (g2 n2);refine wpS_bind (wpS_modify ?_);refine wpS_bind (zo eb0 ?_);refine wpS_bind (HG R hk (v2 _ (Bd n2)) (λj hj=>⟨_,(at1 j hj).trans (g1 hj),v1 _ (Bd hj)⟩) (λi j x y hij hj ex ey=>srt1 hij ((at1 i ()).symm.trans ex) ((at1 j hj).symm.trans ey)) n1 λk hk1 q1 q2=>?_);let hP:∀ x∈R1.take k,r x.1<=r R2[0].1:=λx hx=>by
  let⟨j,hj,ej⟩:=Ov hx;exact q1 j x hj ((at1 j ()).trans ej)
 let hX:∀ x∈R1.drop k,r R2[0].1<=r x.1:=λx hx=>by
  let⟨j,hj,ej⟩:=Qo hx;let hl:=(AK.mp ej).1;exact DV (q2 j x hj hl ((at1 j hl).trans ej))
 let h0:∀ y∈R2,r R2[0].1<=r y.1:=λy hy=>by
  let⟨j,ej⟩:=List.mem_iff_getElem?.mp hy;exact srt2 (BK _) (g2 n2) ej
 refine zX (λc1=>?_) (λc1=>?_)
 .have hk2:R1.length<=k:=by simp at c1;omega
  rw[E8 hk2]at hP;exact wpS_pure (h (R1++R2) _ hk hfl rfl (by rw[ha];simp) (.refl _) (List.pairwise_append.mpr ⟨s1,s2,λx hx y hy=>Ao (hP x hx) (h0 y hy)⟩))
 let hkl:k<R1.length:=by simp at c1;omega
 let nl:R1.length-1<R1.length:=()
 let eL:(arrOf st)[T.length+k+(R1.length-k)-1]?=some R1[R1.length-1]:=by
  rw[show T.length+k+(R1.length-k)-1=T.length+(R1.length-1) by omega];exact (at1 _ nl).trans (g1 nl)
 refine wpS_bind (zo eL ?_);refine wpS_bind (HG R hk (v1 _ (Bd nl)) (λj hj=>⟨_,(at2 j hj).trans (g2 hj),v2 _ (Bd hj)⟩) (λi j x y hij hj ex ey=>srt2 hij ((at2 i ()).symm.trans ex) ((at2 j hj).symm.trans ey)) () λk2 hk2 q3 q4=>?_);let hXl:∀ x∈R1,r x.1<=r R1[R1.length-1].1:=λx hx=>by
  let⟨j,ej⟩:=List.mem_iff_getElem?.mp hx;let hl:=(AK.mp ej).1;exact srt1 () ej (g1 nl)
 let hY:∀ y∈R2.take k2,r y.1<=r R1[R1.length-1].1:=λy hy=>by
  let⟨j,hj,ej⟩:=Ov hy;exact DV (q3 j y hj ((at2 j ()).trans ej))
 let hS:∀ y∈R2.drop k2,r R1[R1.length-1].1<=r y.1:=λy hy=>by
  let⟨j,hj,ej⟩:=Qo hy;let hl:=(AK.mp ej).1;exact q4 j y hj hl ((at2 j hl).trans ej)
 refine zX (λc2=>?_) (λc2=>?_)
 .have:k2=0:=by simpa using c2
  subst this;exact wpS_pure (h (R1++R2) _ hk hfl rfl (by rw[ha];simp) (.refl _) (List.pairwise_append.mpr ⟨s1,s2,λx hx y hy=>Ao (hXl x hx) (hS y (~~~hy))⟩))
 let hk20:0<k2:=by simp at c2;omega
 let eX:((arrOf st).extract (T.length+k) (T.length+R1.length)).toList=R1.drop k:=by
  rw[Array.toList_extract,List.extract_eq_take_drop,ha,List.drop_append,List.drop_of_length_le (),List.nil_append,show T.length+k-T.length=k by omega,List.drop_append_of_le_length (),show T.length+R1.length-(T.length+k)=(R1.drop k).length by simp;omega,List.take_left'];rfl
 let eY:((arrOf st).extract (T.length+R1.length) (T.length+R1.length+k2)).toList=R2.take k2:=by
  rw[LM,ha,<-CI,show T.length+R1.length=(T++R1).length by simp,List.drop_left',List.take_append_of_le_length hk2];rfl
 generalize hx0:(arrOf st).extract (T.length+k) (T.length+R1.length)=x0 at eX;generalize hy0:(arrOf st).extract (T.length+R1.length) (T.length+R1.length+k2)=y0 at eY;let zx:x0.size=R1.length-k:=by rw[<-BU,eX,Dh]
 let zy:y0.size=k2:=by rw[<-BU,eY,Bg];omega
 let w1:∀ y,y0[0]?=some y -> ∀ x∈x0.toList,r y.1<=r x.1:=λy ey x hx=>by
  rw[<-Bo,eY,List.getElem?_take,AD hk20,g2 n2]at ey;ext ey;rw[eX]at hx;exact hX x hx
 let w2:∀ y∈y0.toList,∀ x,x0[x0.size-1]?=some x->r y.1<=r x.1:=λy hy x ex=>by
  rw[<-Bo,eX,List.getElem?_drop,zx,show k+(R1.length-k-1)=R1.length-1 by omega,g1 nl]at ex;ext ex;rw[eY]at hy;exact hY y hy
 let fin:∀ (out:Array Keyed) (st':SortSt),SameS (SortSt.mk' (kindOf st) (arrOf st) (((pendingOf st).setIfInBounds i (T.length,R1.length+R2.length,pw)).eraseIdxIfInBounds (i+1)) (gallopOf st) (failedOf st)) st'->Mgd (leR r) (x0.toList++y0.toList) out.toList ->
   wpS (model prog w) A E s (do
    modify λs=>setArr s (out.toList.zipIdx.foldl (λa x=>match x with|(p,j)=>a.setIfInBounds (T.length+k+j) p) (arrOf s));let s <- get;pure (failedOf s).isNone) Q st':=by
  intro out st' sm mg;refine wpS_bind (wpS_modify (wpS_bind (wpS_get ?_)));let hf:failedOf st'=none:=sm.f.trans hfl;rw[hf];rw[eX,eY]at mg;let hlen:out.toList.length=(R1.length-k)+k2:=by
   rw[mg.1.length_eq,AV,Dh,Bg];omega
  let ea:arrOf st'=arrOf st:=sm.a;let e3:((out.toList.zipIdx).foldl (λa x=>match x with|(p,j)=>a.setIfInBounds (T.length+k+j) p) (arrOf st')).toList=T++((R1.take k++(out.toList++R2.drop k2))++U):=by
   let hsz:(arrOf st').size=T.length+(R1.length+(R2.length+U.length)):=by rw[ea,<-BU,ha];simp
   rw[PU out.toList 0 (T.length+k) (arrOf st') (),ea,ha];let t1:List.take (T.length+k+0) (T++(R1++(R2++U)))=T++R1.take k:=by
    rw[Nat.add_zero,List.take_append,E8 (),show T.length+k-T.length=k by omega,List.take_append_of_le_length ()]
   let t2:List.drop (T.length+k+0+out.toList.length) (T++(R1++(R2++U)))=R2.drop k2++U:=by
    rw[show T.length+k+0+out.toList.length=(T++R1).length+k2 by rw[hlen];simp;omega,<-CI,List.drop_append,List.drop_of_length_le (),List.nil_append,show (T++R1).length+k2-(T++R1).length=k2 by omega,List.drop_append_of_le_length hk2]
   rw[t1,t2];simp
  let p1:=List.pairwise_append.mp (show (R1.take k++R1.drop k).Pairwise (leR r) by rw[EF];calc s1);let p2:=List.pairwise_append.mp (show (R2.take k2++R2.drop k2).Pairwise (leR r) by rw[EF];calc s2);let mo:∀ x,x∈out.toList->x∈R1.drop k\/x∈R2.take k2:=λx hx=>AR.mp (mg.1.mem_iff.mp hx);refine wpS_pure (h (R1.take k++(out.toList++R2.drop k2)) _ (sm.k.trans hk) hf sm.p e3 ?_ ?_)
  .refine ((mg.1.append_right (R2.drop k2)).append_left (R1.take k)).trans ?_;rw[CI,EF,<-CI,EF]
  .refine List.pairwise_append.mpr ⟨p1.1,List.pairwise_append.mpr ⟨mg.2,p2.2.1,λx hx y hy=>?_⟩,λx hx y hy=>?_⟩
   .rcases mo x hx with z|z
    .exact Ao (hXl x (List.mem_of_mem_drop z)) (hS y hy)
    .exact p2.2.2 x z y hy
   .rcases AR.mp hy with z|z
    .rcases mo y z with z|z
     .exact p1.2.2 x hx y z
     .exact Ao (hP x hx) (h0 y (List.mem_of_mem_take z))
    .exact Ao (hP x hx) (h0 y (List.mem_of_mem_drop z))
 let x1:∀ x∈x0.toList,x.1∈vs:=λx hx=>v1 x (List.mem_of_mem_drop (eX▸hx));let y1:∀ x∈y0.toList,x.1∈vs:=λx hx=>v2 x (List.mem_of_mem_take (eY▸hx));let x2:x0.toList.Pairwise (leR r):=eX▸s1.sublist (List.drop_sublist _ _);let y2:y0.toList.Pairwise (leR r):=eY▸s2.sublist (List.take_sublist _ _);refine zX (λc3=>?_) (λc3=>?_)
 .subst hx0 hy0;calc wpS_bind (Vo R x1 y1 x2 y2 () () w1 w2 ?_ fin);exact hk
 .subst hx0 hy0;calc wpS_bind (Wy R x1 y1 x2 y2 () () w1 w2 ?_ fin);calc hk
end
def KR (r:Yr) (xs:Array Keyed) (i:Nat):Nat:=match xs[i]? with
 |some p=>r p.1
 |none=>0
def RUp (r:Yr) (xs:Array Keyed) (lo hi:Nat):Prop:=∀ i j,lo<=i->i<=j->j<hi->KR r xs i<=KR r xs j
def RDn (r:Yr) (xs:Array Keyed) (lo hi:Nat):Prop:=∀ i j,lo<=i->i<=j->j<hi->KR r xs j<=KR r xs i
section
variable {prog:Ym} {w:Yo} {A:Yn} {E:Yc} {s:Yl} {κ:SortKind} {vs:Yf} {r:Yr}
def Ij {xs ys:Array Keyed} {i j:Nat} (h:xs[i]?=ys[j]?):KR r xs i=KR r ys j:=by erw[KR];rw[h]
def Kz {xs:Array Keyed} {i j:Nat} (hj:j<=xs.size) (k:Nat):KR r (mirror xs i j ((j-i) / 2)) k=if i<=k/\k<j then KR r xs (i+j-1-k) else KR r xs k:=by
 let e:=getElem?_mirror_all (i:=i) hj k;cbv at e
 .rw[AD (by assumption)];exact Ij e
 .rw[AE (by assumption)];calc Ij e
def OE {xs:Array Keyed} {src d:Nat} (hs:src<xs.size) (hd:d<=src) (k:Nat):KR r (bubble xs src d) k=if k=src-d then KR r xs src else if src-d<k/\k<=src then KR r xs (k-1) else KR r xs k:=by
 let e:=getElem?_bubble hs d hd k;cbv at e
 .rw[AD (by assumption)];exact Ij e
 .rw[AE (by assumption)];cbv at e
  .rw[AD (by assumption)];exact Ij e
  .rw[AE (by assumption)];calc Ij e
def IL {xs:Array Keyed} {i j:Nat} (hj:j<=xs.size) (he:∀ k,i<=k->k<j->KR r xs k=KR r xs (j-1)) (k:Nat):KR r (mirror xs i j ((j-i) / 2)) k=KR r xs k:=by
 rw[Kz hj];split
 .rw[he _ () (),he k () ()]
 .rfl
structure CB (lo:Nat) (st0 st:SortSt):Prop where
 k:kindOf st=kindOf st0
 p:pendingOf st=pendingOf st0
 f:failedOf st=failedOf st0
 perm:(arrOf st).Perm (arrOf st0)
 pre:∀ j,j<lo->(arrOf st)[j]?=(arrOf st0)[j]?
def CB.refl (lo:Nat) (st:SortSt):CB lo st st:=⟨rfl,rfl,rfl,.refl _,λ_ _=>rfl⟩
def CB.size {lo:Nat} {st0 st:SortSt} (h:CB lo st0 st):(arrOf st).size=(arrOf st0).size:=h.perm.size_eq
def CB.mir {lo i j:Nat} {st0 st:SortSt} (h:CB lo st0 st) (hi:lo<=i) (hj:j<=(arrOf st0).size):CB lo st0 (setArr st (mirror (arrOf st) i j ((j-i) / 2))) :=
 ⟨h.k,h.p,h.f,(mirror_perm _ _ _ _).trans h.perm,λk hk=>by
  show (mirror (arrOf st) i j ((j-i) / 2))[k]?=_;rw[getElem?_mirror_all (by rw[h.size];calc hj),AE ()];calc h.pre k hk⟩
def CB.bub {lo src d:Nat} {st0 st:SortSt} (h:CB lo st0 st) (hs:src<(arrOf st0).size) (hd:d<=src) (hl:lo<=src-d):CB lo st0 (setArr st (bubble (arrOf st) src d)) :=
 ⟨h.k,h.p,h.f,(bubble_perm _ _ _).trans h.perm,λk hk=>by
  show (bubble (arrOf st) src d)[k]?=_;rw[getElem?_bubble (by rw[h.size];calc hs) d hd,AE (),AE ()];calc h.pre k hk⟩
variable {st0 st:SortSt} {lo nrem n:Nat}
def Io (R:Ci prog w s κ vs r) (hk:kindOf st0=κ) (hv:∀ x∈(arrOf st0).toList,x.1∈vs) (c:CB lo st0 st) {i j:Nat} (hi:i<(arrOf st0).size) (hj:j<(arrOf st0).size) {Q:Option Bool->SortSt->Prop} (h:Q (some (decide (KR r (arrOf st) i<KR r (arrOf st) j))) st) :
  wpS (model prog w) A E s (ltAt' i j) Q st:=by
 let ei:(arrOf st)[i]?=some ((arrOf st)[i]'(by rw[c.size];calc hi)):=BY _;let ej:(arrOf st)[j]?=some ((arrOf st)[j]'(by rw[c.size];calc hj)):=BY _;let pm:=Array.perm_iff_toList_perm.mp c.perm;calc VT R (c.k.trans hk) ei ej (hv _ (pm.mem_iff.mp (Cs ei))) (hv _ (pm.mem_iff.mp (Cs ej))) ?_;erw[KR]at h;rw[ei,ej]at h;calc h
def P4 (lo a nrem:Nat):StateT SortSt Sem (Option (Option Nat) × Nat):=forIn [a:nrem] ((none,a):Option (Option Nat) × Nat) λ_ c=>do
 let x <- ltAt' (lo+c.2) (lo+c.2-1)
 match x with
 |some smaller=>if smaller=true then pure (ForInStep.done (none,c.2)) else pure (ForInStep.yield (none,c.2+1))
 |_=>pure (ForInStep.done (some none,c.2))
def RJ (R:Ci prog w s κ vs r) (hk:kindOf st0=κ) (hv:∀ x∈(arrOf st0).toList,x.1∈vs) (c:CB lo st0 st) (hz:lo+nrem<=(arrOf st0).size) (h1:1<=n) (h2:n<=nrem) (hu:RUp r (arrOf st) lo (lo+n)) {Q:Option (Option Nat) × Nat->SortSt->Prop}
  (h:∀ m,n<=m->m<=nrem->RUp r (arrOf st) lo (lo+m)->(m=nrem\/KR r (arrOf st) (lo+m)<KR r (arrOf st) (lo+m-1))->Q (none,m) st):wpS (model prog w) A E s (P4 lo n nrem) Q st:=by
 erw[P4];refine wpS_forRange (I:=λx c st'=>st'=st/\c=(none,x)/\RUp r (arrOf st) lo (lo+x)) ?step ?fin ⟨rfl,rfl,hu⟩
 case fin=>
  intro c' st' hI;refine qz λG=>?_;let⟨eI1,eI2,hs⟩:=hI;calc G ?_;clear G;subst eI1 eI2;rw[show max n nrem=nrem by omega]at hs ⊢;exact h nrem h2 (AF _) hs (.inl rfl)
 case step=>
  intro x c' st' hax hxn hI;refine qz λG=>?_;let⟨eI1,eI2,hs⟩:=hI;calc G ?_;clear G;subst eI1 eI2;calc wpS_bind (Io R hk hv c () () ?_);dsimp only;by_cases hl:KR r (arrOf st') (lo+x)<KR r (arrOf st') (lo+x-1)
  .rw[BB hl,AD rfl];exact wpS_pure (h x hax () hs (.inr hl))
  .rw[Al hl,AE ()];refine wpS_pure ⟨rfl,rfl,λi j h3 h4 h5=>?_⟩;by_cases hj:j<lo+x
   .exact hs i j h3 h4 hj
   .have hj':j=lo+x:=()
    by_cases hij:i=j
    .rw[hij];exact AF _
    .have:=hs i (lo+x-1) h3 () ();rw[hj'];omega
def TU (R:Ci prog w s κ vs r) (hk:kindOf st0=κ) (hv:∀ x∈(arrOf st0).toList,x.1∈vs) (hz:lo+nrem<=(arrOf st0).size) (h1:1<=nrem) {Q:Option Nat->SortSt->Prop}
  (h:∀ m st,CB lo st0 st->1<=m->m<=nrem->RUp r (arrOf st) lo (lo+m)->Q (some m) st):wpS (model prog w) A E s (countRun' lo nrem) Q st0:=by
 let one:∀ xs,RUp r xs lo (lo+1):=λxs i j a b c=>by rw[show i=j by omega];exact AF _
 refine wpS_bind (RJ R hk hv (.refl lo st0) hz (AF 1) h1 (one _) λn n1 n2 hu hor=>?_);refine zX (λc1=>wpS_pure (h n st0 (.refl lo st0) n1 n2 hu)) (λc1=>?_);let hn:n<nrem:=by simp at c1;omega
 let hlt:=hor.resolve_left ();let mirU:∀ {st:SortSt} {n m neq:Nat},CB lo st0 st->m<=nrem->RDn r (arrOf st) lo (lo+m)->RUp r (mirror (arrOf st) lo (lo+m) ((lo+m-lo) / 2)) lo (lo+m):=λ{st n m neq} c hm hd i j a1 a2 a3=>by
  rw[Kz (by rw[c.size];omega),Kz (by rw[c.size];omega),AD (),AD ()];exact hd _ _ () () ()
 refine zX (λc2=>?_) (λc2=>?_)
 case' refine_1=>
  calc wpS_bind (Io R hk hv (.refl lo st0) () (by dsimp only;omega) ?_);dsimp only;by_cases hrose:KR r (arrOf st0) lo<KR r (arrOf st0) (lo+n-1)
  case pos=>
   rw[BB hrose,AD rfl];exact wpS_pure (h n st0 (.refl lo st0) n1 n2 hu)
  case' neg=>
   rw[Al hrose,AE ()];let hall:∀ k,lo<=k->k<lo+n->KR r (arrOf st0) k=KR r (arrOf st0) (lo+n-1):=λk k1 k2=>by
    let a1:=hu lo k (AF _) k1 k2;let a2:=hu k (lo+n-1) k1 () ();omega
   refine wpS_bind (wpS_modify ?_);let cb:CB lo st0 (setArr st0 (mirror (arrOf st0) lo (lo+n) ((lo+n-lo) / 2))):=(CB.refl lo st0).mir (AF _) ();let dn:RDn r (mirror (arrOf st0) lo (lo+n) ((lo+n-lo) / 2)) lo (lo+(n+1)):=λi j a1 a2 a3=>by
    rw[IL () hall,IL () hall];by_cases hj:j<lo+n
    .rw[hall i a1 (),hall j () hj];exact AF _
    .by_cases hi:i<lo+n
     .rw[hall i a1 hi,show j=lo+n by omega];omega
     .rw[show i=j by omega];exact AF _
 case' refine_2=>
  let cb:CB lo st0 st0:=.refl lo st0;let dn:RDn r (arrOf st0) lo (lo+(n+1)):=λi j a1 a2 a3=>by
   let hn1:n=1:=by dsimp only at c2;omega
   subst hn1;by_cases hij:i=j
   .rw[hij];exact AF _
   .rw[show i=lo by omega,show j=lo+1 by omega];rw[show lo+1-1=lo by omega]at hlt;omega
 all_goals
  calc wpS_bind (wpS_lift (BX ⟨rfl,?_⟩));refine wpS_bind (wpS_mono (wpS_forRange (I:=λx c st'=>∃ neq,c=(none,x,neq)/\CB lo st0 st'/\RDn r (arrOf st') lo (lo+x)/\neq+1<=x /\ ∀ i,lo+x-(neq+1)<=i->i<lo+x->KR r (arrOf st') i=KR r (arrOf st') (lo+x-1)) (Q:=λc st'=>∃ x neq,c=(none,x,neq)/\CB lo st0 st'/\1<=x/\x<=nrem/\RDn r (arrOf st') lo (lo+x)/\neq+1<=x /\ ∀ i,lo+x-(neq+1)<=i->i<lo+x->KR r (arrOf st') i=KR r (arrOf st') (lo+x-1)) ?step ?fin ⟨0,rfl,cb,dn,(),λi a1 a2=>by congr 1;omega⟩) ?post)
  case fin=>
   intro c st' hI;refine qz λG=>?_;let⟨neq,eI1,cb,dn,q1,q2⟩:=hI;calc G ?_;clear G;subst eI1;rw[show max (n+1) nrem=nrem by omega]at dn q1 q2 ⊢;exact ⟨nrem,neq,rfl,cb,h1,AF _,dn,q1,q2⟩
  case step=>
   intro x c st' hx1 hx2 hI;refine qz λG=>?_;let⟨neq,eI1,cb,dn,q1,q2⟩:=hI;refine G ?_;clear G;subst eI1;let hx1':n+1<=x:=hx1;refine wpS_bind (Io R hk hv cb (by dsimp only;omega) (by dsimp only;omega) ?_);dsimp only;let step1:∀ ys:Array Keyed,(∀ k,KR r ys k=KR r (arrOf st') k)->KR r (arrOf st') (lo+x)<=KR r (arrOf st') (lo+x-1)->RDn r ys lo (lo+(x+1)):=λys hy hle i j a1 a2 a3=>by
    rw[hy,hy];by_cases hj:j<lo+x
    .exact dn i j a1 a2 hj
    .by_cases hij:i=j
     .rw[hij];exact AF _
     .have:=dn i (lo+x-1) a1 () ();rw[show j=lo+x by omega];omega
   by_cases hl:KR r (arrOf st') (lo+x)<KR r (arrOf st') (lo+x-1)
   .rw[BB hl,AD rfl];refine zX (λc3=>wpS_bind (wpS_modify (wpS_pure ⟨0,rfl,cb.mir () (),step1 _ (IL (by rw[cb.size];omega) q2) (),(),λi a1 a2=>by congr 1;omega⟩))) (λc3=>wpS_pure ⟨0,rfl,cb,step1 _ (λ_=>rfl) (),(),λi a1 a2=>by congr 1;omega⟩)
   .rw[Al hl,AE ()];refine wpS_bind (Io R hk hv cb () () ?_);dsimp only;by_cases hg:KR r (arrOf st') (lo+x-1)<KR r (arrOf st') (lo+x)
    .rw[BB hg,AD rfl];exact wpS_pure ⟨x,neq,rfl,cb,(),(),dn,q1,q2⟩
    .rw[Al hg,AE ()];refine wpS_pure ⟨neq+1,rfl,cb,step1 _ (λ_=>rfl) (),(),λi a1 a2=>?_⟩;rw[show lo+(x+1)-1=lo+x by omega];by_cases hi:i=lo+x
     .rw[hi]
     .rw[q2 i () ()];omega
  case post=>
   intro c st' hI;refine qz λG=>?_;let⟨x,neq,eI1,cb,x1,x2,dn,q1,q2⟩:=hI;calc G ?_;clear G;subst eI1;refine zX (λc3=>?_) (λc3=>?_)
   case' refine_1=>
    refine wpS_bind (wpS_modify ?_);replace dn:RDn r (mirror (arrOf st') (lo+x-(neq+1)) (lo+x) ((lo+x-(lo+x-(neq+1))) / 2)) lo (lo+x):=λi j a1 a2 a3=>by
     rw[IL (by rw[cb.size];omega) q2,IL (by rw[cb.size];omega) q2];exact dn i j a1 a2 a3
    replace cb:=cb.mir (i:=lo+x-(neq+1)) (j:=lo+x) () ()
   all_goals
    calc wpS_bind (wpS_modify ?_);let cb2:=cb.mir (i:=lo) (j:=lo+x) (AF _) ();calc wpS_bind (RJ R hk hv cb2 hz x1 x2 (mirU (n:=0) (neq:=0) cb x2 dn) λm m1 m2 hu2 _=>wpS_pure (h m _ cb2 () m2 hu2))
end
section
variable {prog:Ym} {w:Yo} {A:Yn} {E:Yc} {s:Yl} {κ:SortKind} {vs:Yf} {r:Yr} {st0 st:SortSt} {lo n ok:Nat}
def WY (R:Ci prog w s κ vs r) (hk:kindOf st0=κ) (hv:∀ x∈(arrOf st0).toList,x.1∈vs) (c0:CB lo st0 st) (hz:lo+n<=(arrOf st0).size) (h1:1<=ok) (h2:ok<=n) (hu:RUp r (arrOf st) lo (lo+ok))
  (h:∀ st',CB lo st0 st'->RUp r (arrOf st') lo (lo+n)->Q true st'):wpS (model prog w) A E s (binarySort' lo n ok) Q st:=by
 refine wpS_bind (wpS_mono (wpS_forRange (I:=λk c st'=>c=(none,Unit.unit)/\CB lo st0 st'/\RUp r (arrOf st') lo (lo+k)) (Q:=λc st'=>c=(none,Unit.unit)/\CB lo st0 st'/\RUp r (arrOf st') lo (lo+n)) ?step ?fin ⟨rfl,c0,by rw[show max ok 1=ok by omega];calc hu⟩) ?post)
 case fin=>
  intro c st' hI;refine qz λG=>?_;let⟨eI1,cb,hu⟩:=hI;calc G ?_;clear G;subst eI1;rw[show max (max ok 1) n=n by omega]at hu;exact ⟨rfl,cb,hu⟩
 case post=>
  intro c st' hI;refine qz λG=>?_;let⟨eI1,cb,hu⟩:=hI;calc G ?_;clear G;subst eI1;exact wpS_pure (h st' cb hu)
 case step=>
  intro k c st' hk1 hk2 hI;refine qz λG=>?_;let⟨eI1,cb,hu⟩:=hI;calc G ?_;clear G;subst eI1;let hk0:1<=k:=()
  refine wpS_bind (wpS_mono (wpS_forRange (I:=λx c st''=>st''=st' /\ ∃ a b,c=(none,a,b)/\a<=b/\b<=k/\b-a<=k-x/\(∀ i,i<a->KR r (arrOf st') (lo+i)<=KR r (arrOf st') (lo+k))/\(∀ i,b<=i->i<k->KR r (arrOf st') (lo+k)<=KR r (arrOf st') (lo+i))) (Q:=λc st''=>st''=st' /\ ∃ a b,c=(none,a,b)/\a<=k/\(∀ i,i<a->KR r (arrOf st') (lo+i)<=KR r (arrOf st') (lo+k))/\(∀ i,a<=i->i<k->KR r (arrOf st') (lo+k)<=KR r (arrOf st') (lo+i))) ?step1 ?fin1 ⟨rfl,0,k,rfl,(),(),(),λi hi=>(),λi a1 a2=>()⟩) ?post1)
  case fin1=>
   intro c st'' hI;refine qz λG=>?_;let⟨eI1,a,b,eI2,q1,q2,q3,q4,q5⟩:=hI;calc G ?_;clear G;subst eI1 eI2;exact ⟨rfl,a,b,rfl,(),q4,λi a1 a2=>q5 i () a2⟩
  case step1=>
   intro x c st'' _ hx hI;refine qz λG=>?_;let⟨eI1,a,b,eI2,q1,q2,q3,q4,q5⟩:=hI;calc G ?_;clear G;subst eI1 eI2;refine zX (λc1=>wpS_pure ⟨rfl,a,b,rfl,(),q4,λi a1 a2=>q5 i (by dsimp only at c1;omega) a2⟩) (λc1=>?_);let c1':a<b:=by dsimp only at c1;omega
   calc wpS_bind (Io R hk hv cb () (by dsimp only;omega) ?_);dsimp only;by_cases hl:KR r (arrOf st'') (lo+k)<KR r (arrOf st'') (lo+(a+b) / 2)
   .rw[BB hl,AD rfl];refine wpS_pure ⟨rfl,a,(a+b) / 2,rfl,(),(),(),q4,λi a1 a2=>?_⟩;have:=hu (lo+(a+b) / 2) (lo+i) () () ();omega
   .rw[Al hl,AE ()];refine wpS_pure ⟨rfl,(a+b) / 2+1,b,rfl,(),(),(),λi a1=>?_,q5⟩;have:=hu (lo+i) (lo+(a+b) / 2) () () ();omega
  case post1=>
   intro c st'' hI;refine qz λG=>?_;let⟨eI1,a,b,eI2,q1,q4,q5⟩:=hI;calc G ?_;clear G;subst eI1 eI2;refine wpS_bind (wpS_modify (wpS_pure ⟨rfl,cb.bub () (by dsimp only;omega) (by dsimp only;omega),λi j a1 a2 a3=>?_⟩));let hs:lo+k<(arrOf st'').size:=by rw[cb.size];omega
   show KR r (bubble (arrOf st'') (lo+k) (lo+k-(lo+a))) i<=KR r (bubble (arrOf st'') (lo+k) (lo+k-(lo+a))) j;rw[OE hs (),OE hs ()];rw[show lo+k-(lo+k-(lo+a))=lo+a by omega];by_cases i1:i=lo+a
   .rw[AD i1];by_cases j1:j=lo+a
    .rw[AD j1];exact AF _
    .rw[AE j1,AD ()];have:=q5 (j-1-lo) () ();rw[show lo+(j-1-lo)=j-1 by omega]at this;exact this
   .rw[AE i1];by_cases i2:lo+a<i/\i<=lo+k
    .rw[AD i2,AE (),AD ()];exact hu _ _ () () ()
    .rw[AE i2];by_cases j1:j=lo+a
     .rw[AD j1];have:=q4 (i-lo) ();rw[show lo+(i-lo)=i by omega]at this;exact this
     .rw[AE j1];by_cases j2:lo+a<j/\j<=lo+k
      .rw[AD j2];exact hu _ _ a1 () ()
      .rw[AE j2];calc hu _ _ a1 a2 ()
end
def Cn:Nat->List (List Keyed)->List (Nat × Nat)
 |_,[]=>[]
 |o,R::Rs=>(o,R.length)::Cn (o+R.length) Rs
theorem JV:∀ (o:Nat) (As Bs:List (List Keyed)),Cn o (As++Bs)=Cn o As++Cn (o+As.flatten.length) Bs
 |o,[],Bs=>by simp[Cn]
 |o,R::As,Bs=>by
  rw[List.cons_append,Cn,Cn,JV];simp only[List.cons_append,Fm,AV];rw[Nat.add_assoc]
theorem KP:∀ (o:Nat) (As:List (List Keyed)),(Cn o As).length=As.length
 |_,[]=>rfl
 |o,R::As=>by rw[Cn,C0,KP,C0]
abbrev two (p:Nat × Nat × Nat):Nat × Nat:=(p.1,p.2.1)
structure Run (κ:SortKind) (r:Yr) (a₀:List Keyed) (st:SortSt) (Rs:List (List Keyed)) (rest:List Keyed):Prop where
 k:kindOf st=κ
 f:failedOf st=none
 arr:(arrOf st).toList=Rs.flatten++rest
 perm:(arrOf st).toList.Perm a₀
 srt:∀ X∈Rs,X≠[]/\X.Pairwise (leR r)
 pd:(pendingOf st).toList.map two=Cn 0 Rs
section
variable {prog:Ym} {w:Yo} {A:Yn} {E:Yc} {s:Yl} {κ:SortKind} {vs:Yf} {r:Yr} {a₀:List Keyed} {st:SortSt} {Rs:List (List Keyed)} {rest:List Keyed}
def Run.plen (h:Run κ r a₀ st Rs rest):(pendingOf st).size=Rs.length:=by
 have:=BO List.length h.pd;rw[AG,KP]at this;simpa using this
def R3 (h:i+1<Rs.length):∃ As R1 R2 Bs,Rs=As++R1::R2::Bs/\As.length=i:=by
 calc ⟨Rs.take i,Rs[i],Rs[i+1],Rs.drop (i+2),?_,by rw[Bg];omega⟩;conv=>lhs;rw[<-EF i Rs,List.drop_eq_getElem_cons (by omega:i<Rs.length),List.drop_eq_getElem_cons h]
def OV (R:Ci prog w s κ vs r) (hv:∀ x∈a₀,x.1∈vs) (h:Run κ r a₀ st Rs rest) (hi:i+1<Rs.length)
  (q:∀ st' Rs',Run κ r a₀ st' Rs' rest->Rs'.length+1=Rs.length->Rs'.flatten.length=Rs.flatten.length->Q true st'):wpS (model prog w) A E s (mergeAt' i) Q st:=by
 let⟨As,R1,R2,Bs,rfl,rfl⟩:=R3 hi;let pd:=h.pd;rw[JV,Cn,Cn]at pd;let⟨PA,P1,e1,e2,e3⟩:=List.map_eq_append_iff.mp pd;let⟨p1,P2,e4,e5,e6⟩:=List.map_eq_cons_iff.mp e3;let⟨p2,PB,e7,e8,e9⟩:=List.map_eq_cons_iff.mp e6;subst e4 e7;let⟨x1,x2,pw⟩:=p1;let⟨y1,y2,pw2⟩:=p2;let hPA:PA.length=As.length:=by have:=BO List.length e2;rw[AG,KP]at this;exact this
 obtain ⟨rfl,rfl⟩:x1=0+As.flatten.length/\x2=R1.length:=by have:=e5;simp only[two,Prod.mk.injEq]at this;exact this
 obtain ⟨rfl,rfl⟩:y1=0+As.flatten.length+R1.length/\y2=R2.length:=by have:=e8;simp only[two,Prod.mk.injEq]at this;exact this
 let a1:(pendingOf st)[As.length]?=some (0+As.flatten.length,R1.length,pw):=by
  rw[<-Bo,e1,Ee (),hPA];simp
 let a2:(pendingOf st)[As.length+1]?=some (0+As.flatten.length+R1.length,R2.length,pw2):=by
  rw[<-Bo,e1,Ee (),show As.length+1-PA.length=1 by omega];rfl
 let s1:=h.srt R1 (by simp);let s2:=h.srt R2 (by simp);let harr:(arrOf st).toList=As.flatten++(R1++(R2++(Bs.flatten++rest))):=by rw[h.arr];simp
 refine W9 R h.k h.f harr (λx hx=>hv x (h.perm.mem_iff.mp hx)) () rfl rfl rfl (List.length_pos_iff.mpr s1.1) (List.length_pos_iff.mpr s2.1) s1.2 s2.2 a1 a2 λm st' hk hf hp ha hpm hs=>?_;let hml:m.length=R1.length+R2.length:=by rw[hpm.length_eq,AV]
 refine q st' (As++m::Bs) ⟨hk,hf,by rw[ha];simp,?_,λX hX=>?_,?_⟩ (by simp;omega) (by simp;omega)
 .refine List.Perm.trans ?_ h.perm;rw[ha,harr];calc List.Perm.append_left _ ?_;rw[<-CI R1];exact List.Perm.append_right _ hpm
 .rcases AR.mp hX with z|z
  .exact h.srt X (by simp[z])
  .rcases AJ.mp z with z|z
   .subst z;refine ⟨λe=>?_,hs⟩;rw[e]at hml;have:=List.length_pos_iff.mpr s1.1;simp at hml;omega
   .exact h.srt X (by simp[z])
 .rw[hp];let hz:As.length+1<(pendingOf st).size:=(Array.getElem?_eq_some_iff.mp a2).1;let e10:(((pendingOf st).setIfInBounds As.length (0+As.flatten.length,R1.length+R2.length,pw)).eraseIdxIfInBounds (As.length+1)).toList=PA++(0+As.flatten.length,R1.length+R2.length,pw)::PB:=by
   rw[Array.toList_eraseIdxIfInBounds,Array.toList_setIfInBounds,e1,<-hPA,List.set_append_right _ _ (AF _),List.eraseIdx_append_of_length_le ()];simp
  rw[e10,Cv,Ag,JV,Cn,e2,hml,e9,Nat.add_assoc (0+As.flatten.length)]
end
section
variable {prog:Ym} {w:Yo} {A:Yn} {E:Yc} {s:Yl} {κ:SortKind} {vs:Yf} {r:Yr} {a₀:List Keyed} {st st1:SortSt} {Rs:List (List Keyed)} {rest W:List Keyed} {lo n:Nat}
def Run.total (h:Run κ r a₀ st Rs rest):Rs.flatten.length+rest.length=a₀.length:=by
 have:=h.perm.length_eq;rw[h.arr,AV]at this;calc this
def Run.size (h:Run κ r a₀ st Rs rest):(arrOf st).size=a₀.length:=by rw[<-BU];calc h.perm.length_eq
def X4 (h:Run κ r a₀ st Rs rest) (c:CB lo st st1) (hl:lo=Rs.flatten.length):∃ W,Run κ r a₀ st1 Rs W/\W.length=rest.length:=by
 let ht:=h.total;let hz:(arrOf st1).toList.length=a₀.length:=by rw[BU,c.size,h.size]
 let e:(arrOf st1).toList.take lo=Rs.flatten:=by
  apply Fg;intro i;rw[List.getElem?_take];by_cases hi:i<lo
  .rw[AD hi,Bo,c.pre i hi,<-Bo,h.arr,Bf ()]
  .rw[AE hi,D0 ()]
 calc ⟨(arrOf st1).toList.drop lo,⟨c.k.trans h.k,c.f.trans h.f,?_,(Array.perm_iff_toList_perm.mp c.perm).trans h.perm,h.srt,by rw[c.p];calc h.pd⟩,by rw[Dh];omega⟩;rw[<-e,EF]
def iN (h:Run κ r a₀ st Rs W) (hl:lo=Rs.flatten.length) (hn:n<=W.length) (hu:RUp r (arrOf st) lo (lo+n)):(W.take n).Pairwise (leR r):=by
 rw[List.pairwise_iff_getElem];intro i j hi hj hij;rw[Bg]at hi hj;let at_:∀ (k:Nat) (hk:k<W.length),KR r (arrOf st) (lo+k)=r (W[k]).1:=λk hk=>by
  erw[KR];rw[<-Bo,h.arr,Ee (),show lo+k-Rs.flatten.length=k by omega,AM hk]
 have:=hu (lo+i) (lo+j) () () ();rw[at_ i (),at_ j ()]at this;rw[List.getElem_take,List.getElem_take];calc this
def Wz (h:Run κ r a₀ st Rs W) (hl:lo=Rs.flatten.length) (n1:1<=n) (hn:n<=W.length) (hs:(W.take n).Pairwise (leR r)):Run κ r a₀ (setPending st ((pendingOf st).push (lo,n,0))) (Rs++[W.take n]) (W.drop n):=by
 refine ⟨h.k,h.f,?_,h.perm,λX hX=>?_,?_⟩
 .show (arrOf st).toList=_;rw[h.arr];simp
 .rcases AR.mp hX with z|z
  .exact h.srt X z
  .rw[Ae.mp z];exact ⟨λe=>by have:=BO List.length e;rw[Bg,DY]at this;omega,hs⟩
 .show ((pendingOf st).push (lo,n,0)).toList.map two=_;rw[Array.toList_push,Cv,h.pd,JV,hl];simp[Cn,Bg];omega
def YB (hn:n<=W.length):(Rs++[W.take n]).flatten.length=Rs.flatten.length+n:=by
 simp[Bg];omega
def Q3 (h:Run κ r a₀ st Rs W) (hl:lo=Rs.flatten.length) (n1:1<=n) (hn:n<=W.length) (hs:(W.take n).Pairwise (leR r)) (hx:x<=lo) (hz:Rs.length<=lo) :
  ∃ lo2 Rs2 rest2,((none:Option Unit),lo+n)=(none,lo2)/\Run κ r a₀ (setPending st ((pendingOf st).push (lo,n,0))) Rs2 rest2/\lo2=Rs2.flatten.length/\x+1<=lo2/\Rs2.length<=lo2 :=
 ⟨_,_,_,rfl,Wz h hl n1 hn hs,by rw[YB hn,hl],(),by rw[AV];simp only[C0,DY];omega⟩
def iZ [Decidable c] (h:1<n) (e:n=m):(if c then n-2-1 else n-2)+1<m:=by
 split <;> omega
def iR (h:Run κ r a₀ st Rs W) (f:Nat × Nat × Nat->Nat × Nat × Nat) (hf:∀ p,two (f p)=two p) (i:Nat):Run κ r a₀ (setPending st ((pendingOf st).modify i f)) Rs W:=by
 calc ⟨h.k,h.f,h.arr,h.perm,h.srt,?_⟩;show ((pendingOf st).modify i f).toList.map two=_;rw[Array.toList_modify,<-h.pd];apply Fg;intro j;rw[AW,AW,List.getElem?_modify];cases (pendingOf st).toList[j]? with
 |none=>rfl
 |some p=>
  by_cases z:i=j
  .simp[z,hf]
  .simp[z]
set_option maxHeartbeats 4000000 in
def dA (R:Ci prog w s κ vs r) (hv:∀ x∈a₀,x.1∈vs) (h:Run κ r a₀ st [] a₀)
  (q:∀ st',failedOf st'=none->Mgd (leR r) a₀ (arrOf st').toList->Q Unit.unit st'):wpS (model prog w) A E s sortRuns' Q st:=by
 let hN:=h.size;calc wpS_bind (wpS_get ?_);refine wpS_bind (wpS_mono (wpS_forRange (I:=λx c st'=>∃ lo Rs rest,c=(none,lo)/\Run κ r a₀ st' Rs rest/\lo=Rs.flatten.length/\x<=lo/\Rs.length<=lo) (Q:=λc st'=>∃ lo Rs,c=(none,lo)/\Run κ r a₀ st' Rs []/\Rs.length<=lo/\lo<=a₀.length) ?step ?fin ⟨0,[],a₀,rfl,h,rfl,AF _,AF _⟩) ?post)
 case fin=>
  intro c st' hI;refine qz λG=>?_;let⟨lo,Rs,rest,eI1,h,hlo,hp,hz⟩:=hI;calc G ?_;clear G;subst eI1;let ht:=h.total;have:rest=[]:=GC.mp (by have:max 0 (arrOf st).size<=lo:=hp;omega);subst this;exact ⟨lo,Rs,rfl,h,hz,()⟩
 case post=>
  intro c st' hI;refine qz λG=>?_;let⟨lo,Rs,eI1,h,hz,hz2⟩:=hI;calc G ?_;clear G;subst eI1;refine wpS_bind (wpS_mono (wpS_forRange (I:=λx c st'=>c=(none,Unit.unit) /\ ∃ Rs,Run κ r a₀ st' Rs []/\Rs.length+x<=max (a₀.length) (x+1)) (Q:=λc st'=>c=(none,Unit.unit) /\ ∃ Rs,Run κ r a₀ st' Rs []/\Rs.length<=1) ?step2 ?fin2 ⟨rfl,Rs,h,()⟩) ?post2)
  case fin2=>
   intro c st' hI;refine qz λG=>?_;let⟨eI1,Rs,h,hx⟩:=hI;calc G ?_;clear G;subst eI1;let hx':Rs.length+max 0 (arrOf st).size<=max a₀.length (max 0 (arrOf st).size+1):=hx;exact ⟨rfl,Rs,h,()⟩
  case post2=>
   intro c st' hI;refine qz λG=>?_;let⟨eI1,Rs,h,hx⟩:=hI;calc G ?_;clear G;subst eI1;calc wpS_pure (q st' h.f ⟨h.perm,?_⟩);rw[h.arr,DO];match Rs,hx,h with
   |[],_,_=>calc .nil
   |[X],_,h=>simpa using (h.srt X (by simp)).2
   |_::_::_,hx,_=>simp at hx
  case step2=>
   intro x c st' _ hx hI;refine qz λG=>?_;let⟨eI1,Rs,h,hr⟩:=hI;calc G ?_;clear G;subst eI1;calc wpS_bind (wpS_get ?_);let hpl:=h.plen;refine zX (λc1=>wpS_pure ⟨rfl,Rs,h,Ao (Nat.le_of_eq hpl.symm) c1⟩) (λc1=>?_);let c1':1<(pendingOf st').size:=by have:¬ (pendingOf st').size<=1:=c1;omega
   refine wpS_bind (OV R hv h ?_ λst2 Rs2 h2 l1 l2=>?_)
   .exact iZ c1' hpl
   .exact zX (λz=>absurd z ()) (λ_=>wpS_pure ⟨rfl,Rs2,h2,()⟩)
 case step=>
  intro x c st' _ hx hI;refine qz λG=>?_;let⟨lo,Rs,rest,eI1,h,hlo,hp,hz⟩:=hI;calc G ?_;clear G;subst eI1;let ht:=h.total;refine zX (λc1=>?_) (λc1=>?_)
  .have c1':(arrOf st).size<=lo:=c1;have:rest=[]:=GC.mp ();subst this;exact wpS_pure ⟨lo,Rs,rfl,h,hz,()⟩
  let c1':lo<(arrOf st).size:=Nat.lt_of_not_le c1;let hv':∀ x∈(arrOf st').toList,x.1∈vs:=λx hx=>hv x (h.perm.mem_iff.mp hx);refine wpS_bind (TU (lo:=lo) (nrem:=(arrOf st).size-lo) R h.k hv' (by rw[h.size];omega) () λn st1 cb n1 n2 hu=>?_);refine zX (λc2=>?_) (λc2=>?_)
  case' refine_1=>
   calc wpS_bind (wpS_lift (BX ⟨rfl,?_⟩));let c2':n<minRun' (arrOf st).size (arrOf st).size 0:=c2;refine wpS_bind (WY (n:=min ((arrOf st).size-lo) (minRun' (arrOf st).size (arrOf st).size 0)) R h.k hv' cb (by rw[h.size];omega) n1 () hu λst2 cb2 hu2=>?_);replace n1:1<=min ((arrOf st).size-lo) (minRun' (arrOf st).size (arrOf st).size 0):=()
   replace n2:min ((arrOf st).size-lo) (minRun' (arrOf st).size (arrOf st).size 0)<=(arrOf st).size-lo:=()
   refine zX (λz=>absurd z ()) (λ_=>?_);replace hu:=hu2;replace cb:=cb2
  all_goals
   let⟨W,hW,hWl⟩:=X4 h cb hlo;let n3:=Ao n2 (show (arrOf st).size-lo<=W.length by omega);let hs:=iN hW hlo n3 hu;calc wpS_bind (wpS_get ?_);split
   .refine wpS_bind (wpS_mono (wpS_forRange (I:=λy c st3=>c=(none,Unit.unit) /\ ∃ Rs3,Run κ r a₀ st3 Rs3 W/\Rs3.flatten.length=Rs.flatten.length/\Rs3.length<=lo) (Q:=λc st3=>c=(none,Unit.unit) /\ ∃ Rs3,Run κ r a₀ st3 Rs3 W/\Rs3.flatten.length=Rs.flatten.length/\Rs3.length<=lo) ?step3 (λ_ _ z=>z) ⟨rfl,Rs,hW,rfl,hz⟩) ?post3)
    case step3=>
     intro y c st3 _ _ hI;refine qz λG=>?_;let⟨eI1,Rs3,h3,l3,z3⟩:=hI;calc G ?_;clear G;subst eI1;calc wpS_bind (wpS_get ?_);let hpl:=h3.plen;dsimp only;by_cases hp1:(pendingOf st3).size>1
     .obtain ⟨p,ep⟩:∃ p,(pendingOf st3)[(pendingOf st3).size-2]?=some p:=⟨_,DC ()⟩;rw[AD hp1,ep];refine zX (λ_=>wpS_pure ⟨rfl,Rs3,h3,l3,z3⟩) (λ_=>?_);refine wpS_bind (OV R hv h3 (i:=(pendingOf st3).size-2) () λst4 Rs4 h4 l4 z4=>?_);exact zX (λz=>absurd z ()) (λ_=>wpS_pure ⟨rfl,Rs4,h4,(),()⟩)
     .rw[AE hp1];exact wpS_pure ⟨rfl,Rs3,h3,l3,z3⟩
    case post3=>
     intro c st3 hI;refine qz λG=>?_;let⟨eI1,Rs3,h3,l3,z3⟩:=hI;calc G ?_;clear G;subst eI1;calc wpS_bind (wpS_modify (wpS_bind (wpS_modify (wpS_pure ?_))));calc Q3 (iR h3 _ ?_ _) (hlo.trans l3.symm) n1 n3 hs hp z3;rintro ⟨a,b,c⟩;rfl
   .exact wpS_bind (wpS_modify (wpS_pure (Q3 hW hlo n1 n3 hs hp hz)))
end
section
variable {prog:Ym} {w:Yo} {A:Yn} {E:Yc} {s:Yl} {κ:SortKind} {vs:Yf} {r:Yr}
def WB (R:Ci prog w s κ vs r):wpS (model prog w) A E s sortRuns' (λ_ st=>failedOf st=none/\((arrOf st).map (·.2)).toList.Perm vs/\((arrOf st).map (·.2)).toList.Pairwise λx y=>r x<=r y) (SortSt.mk' κ (pairsOf vs) #[] 7 none):=by
 let hz:(pairsOf vs).toList=vs.zip vs:=pairsOf_toList vs;let hv:∀ p∈(pairsOf vs).toList,p.1∈vs:=λp hp=>by rw[hz]at hp;exact (mem_zip_self hp).2
 refine dA R hv ⟨rfl,rfl,rfl,.refl _,(λX hX=>absurd hX (by simp)),rfl⟩ λst hf hm=>⟨hf,?_,?_⟩
 .rw[Array.toList_map];have:=hm.1.map (·.2);rw[hz,List.map_snd_zip (AF _)]at this;exact this
 .rw[Array.toList_map];refine List.pairwise_map.mpr ((List.Pairwise.and_mem.mp hm.2).imp λ{x y} h=>?_);let hx:=(mem_zip_self (hz▸hm.1.mem_iff.mp h.1)).1;let hy:=(mem_zip_self (hz▸hm.1.mem_iff.mp h.2.1)).1;rw[<-hx,<-hy];calc h.2.2
def TN
  (hc:wpAny (model prog w) A.in1 (collect v) (λvs s1=>vs.length<=sizeLine/\K8 s1.heap vs /\
   ∀ (h':Heap) (out:List Value) (n:Nat),(∀ b u,s1.heap.get? b=some u->h'.get? b=some u)->h'.get? ⇑s1=some (seqObj "list" out.toArray n)->out.Perm vs->out.Pairwise (λx y=>AX (Cj s1.heap y) (Cj s1.heap x)=false)->Q (.ref ⇑s1) { s1 with heap:=h' }) E s) :
  wpAny (model prog w) A (call (.builtin "sorted") [v]) Q E s:=by
 calc Calls.call_function_entry kind_sorted plain_sorted entry_sorted (args_sorted1 _) ?_;unfold Builtin.«sorted»;calc AA (AB ?_);refine AA (An hc (λvs s1 z=>?_) λ_ _ e=>e);let⟨hz,ht,h⟩:=z;calc AA (wpAny_newList ?_ hz);let hoL:(s1.heap.push (seqObj "list" vs.toArray 0)).get? ⇑s1=some (seqObj "list" vs.toArray 0):=AL _ rfl;refine AA (BQ (BI slot_list_sort ⟨_,hoL,rfl⟩ entry_list_sort (jI (κ:=tuples' true) (F:=λout=>out.toList.Perm vs/\out.toList.Pairwise (λx y=>AX (Cj s1.heap y) (Cj s1.heap x)=false)) hoL hz (λout e=>by rw[<-BU];calc e.1.length_eq) (λh2=>⟨by simp,?_⟩) ?_ λout e=>⟨_,rfl,?_⟩) (args_list_sort _)))
 .match vs,h2 with
  |[],_=>calc .nil
  |[x],_=>simp
  |_::_::_,h2=>simp at h2;omega
 .intro h2 h6 k6;let kT:∀ {v xs},Bm s1.heap v xs->Bm h6 v xs:=λ{v xs} t=>t.keep λb o _ e=>k6 b o (λz=>BN _ (z▸AI e)) (AH _ e);let ht6:K8 h6 vs:=λv hv=>let ⟨x,xs,t⟩:=ht v hv;⟨x,xs,kT t⟩;refine ⟨λA E Q q=>?_,λA E=>wpS_mono (WB (jD ht6)) ?_⟩
  .match vs,h2,ht6 with
   |v::vs,_,ht6=>exact Um ht6 q
  .rintro _ st ⟨e1,e2,e3⟩;refine ⟨e1,e2,(List.Pairwise.and_mem.mp e3).imp λ{x y} z=>?_⟩;let mx:=e2.mem_iff.mp z.1;let my:=e2.mem_iff.mp z.2.1;let⟨a,as,tx⟩:=ht x mx;let⟨b,bs,ty⟩:=ht y my;rw[Fn tx,Fn ty,<-Fn (kT tx),<-Fn (kT ty),NQ (List.mem_map_of_mem my) (List.mem_map_of_mem mx)];have:rkV h6 vs x<=rkV h6 vs y:=z.2.2;erw[rkV]at this;exact Al ()
 .refine AB ⟨_,rfl,?_⟩;let g1:=get?_update_seq hoL (λ_=> #[]);let g4:=get?_update_seq (AH (seqObj "list" #[] 0) (AH (seqObj "tuple" vs.toArray 0) g1)) (λ_=>out);refine h _ out.toList _ (λb u e=>?_) (by rw[Array.toArray_toList];calc g4) e.1 e.2;let hb:⇑s1≠b:=λz=>BN _ (z▸AI e);calc (Cz _ _ hb).trans (AH _ (AH _ ((Cz _ _ hb).trans (AH _ e))))
def leL (a b:Ye):Bool:=!AX b a
def EM (ts:Ya):List (List Int):=ts.mergeSort leL
def ZC (a b c:Ye) (h1:leL a b=true) (h2:leL b c=true):leL a c=true:=by
 unfold leL at *;rw[Bool.not_eq_true']at *;cases e:AX c a with
 |false=>rfl
 |true=>
  cases e2:AX b a with
  |true=>rw[e2]at h1;ext h1
  |false=>
   cases e3:AX a b with
   |true=>rw[Jf e e3]at h2;ext h2
   |false=>rw[JT e2 e3]at h2;rw[h2]at e;ext e
def WU (a b:Ye):(leL a b||leL b a)=true:=by
 erw[leL];cases e:AX b a with
 |false=>rfl
 |true=>
  cases e2:AX a b with
  |false=>rfl
  |true=>have:=Jf e e2;rw[Mw]at this;ext this
def LW (ts:Ya):(EM ts).Perm ts:=List.mergeSort_perm ts leL
def Sb (ts:Ya):(EM ts).Pairwise λa b=>AX b a=false:=(List.pairwise_mergeSort ZC WU ts).imp λ{a b} h=>by erw[leL]at h;simpa using h
theorem ON:∀ {xs ys:Ya},xs.Perm ys->xs.Pairwise (λa b=>AX b a=false)->ys.Pairwise (λa b=>AX b a=false)->xs=ys
 |[],ys,h,_,_=>by rw[List.nil_perm.mp h]
 |x::xs,[],h,_,_=>by have:=h.length_eq;simp at this
 |x::xs,y::ys,h,hx,hy=>by
  let px:=DA.mp hx;let py:=DA.mp hy;let e:x=y:=by
   let m1:x∈y::ys:=h.mem_iff.mp Ax;let m2:y∈x::xs:=h.mem_iff.mpr Ax;rcases AJ.mp m1 with z|z
   .exact z
   .rcases AJ.mp m2 with z'|z'
    .exact z'.symm
    .exact JT (py.1 x z) (px.1 y z')
  subst e;rw[ON (List.Perm.cons_inv h) px.2 py.2]
def Vl (h:xs.Perm ts) (hp:xs.Pairwise λa b=>AX b a=false):xs=EM ts:=ON (h.trans (LW ts).symm) hp (Sb ts)
end
end ST
namespace L3
open L2 ST
def F4 (H:Hp) (ys:List V) (ts:Ya):Prop:=ys.length=ts.length /\ ∀ (i:Nat) t,ts[i]?=some t -> ∃ b,ys[i]?=some (.ref b)/\H b=some (.tup ((kkI t).map kV))
def Xi (hl:its.length=ts.length) (ha:∀ (i:Nat) u,its[i]?=some u -> ∃ t b,ts[i]?=some t/\u=.ref b/\H b=some (.tup ((kkI t).map kV))/\Bm h1 (.ref b) t)
  (hp:out.Perm its) (hs:out.Pairwise λx y=>AX (Cj h1 y) (Cj h1 x)=false):∃ ys,zT ys out/\F4 H ys (EM ts):=by
 let key:∀ u∈its,∃ t b,u=.ref b/\H b=some (.tup ((kkI t).map kV))/\Cj h1 u=t:=λu hu=>by
  let⟨i,hi⟩:=List.mem_iff_getElem?.mp hu;let⟨t,b,_,rfl,e1,e2⟩:=ha i u hi;exact ⟨t,b,rfl,e1,Fn e2⟩
 let e0:its.map (Cj h1)=ts:=by
  apply Fg;intro i;rw[AW];by_cases hi:i<its.length
  .rw[AM hi];let⟨t,b,e1,e2,_,e4⟩:=ha i _ (AM hi);rw[e1,e2];exact BO some (Fn e4)
  .rw[D0 (),D0 ()];rfl
 let e1:out.map (Cj h1)=EM ts:=Vl (by rw[<-e0];calc hp.map _) (List.pairwise_map.mpr hs);refine ⟨out.map λu=>match u with|.ref b=> .ref b|_=> .non,?_,?_,λi t et=>?_⟩
 .refine Nr (by simp) λi y u ey eu=>?_;rw[AW,eu]at ey;let⟨t,b,rfl,_⟩:=key u (hp.mem_iff.mp (CM eu));ext ey;rfl
 .rw[AG,<-e1,AG]
 .rw[<-e1,AW]at et;cases eu:out[i]? with
  |none=>rw[eu]at et;ext et
  |some u=>
   rw[eu]at et;let⟨t',b,rfl,e2,e3⟩:=key u (hp.mem_iff.mp (CM eu));let et':Cj h1 (.ref b)=t:=Bb et;rw[e3]at et';subst et';calc ⟨b,by rw[AW,eu];rfl,e2⟩
theorem RE:∀ {ts:Ya} {ys:List V},F4 H ys ts->zG L H (ts.map λt=>D.tup (t.map D.int)) ys
 |[],ys,h=>by
  have:ys=[]:=GC.mp h.1;subst this;calc .nil
 |t::ts,[],h=>by have:=h.1;ext this
 |t::ts,y::ys,h=>by
  let⟨b,e1,e2⟩:=h.2 0 t rfl;ext e1;refine .cons (UK ?_ e2) (RE ⟨Nat.succ.inj h.1,λi u e=>by let⟨b,q1,q2⟩:=h.2 (i+1) u (~~~e);calc ⟨b,by simpa using q1,q2⟩⟩);calc PK (HA t)
theorem Oo:∀ {ds:List D} {ts:Ya} {vs:List V},G3 ds=some ts->zG L H ds vs->F4 H vs ts
 |[],ts,vs,h,r=>by ext h;erw[zG]at r;subst r;exact ⟨rfl,λi t e=>by simp at e⟩
 |d::ds,ts,vs,h,r=>by
  erw[G3]at h;cbv at h
  .rename_i x xs h1 h2;ext h;erw[zG]at r;let⟨v,r',rfl,r1,r2⟩:=r;let⟨l2,q2⟩:=Oo h2 r2;refine ⟨by simp[l2],λi t e=>?_⟩;cases i with
   |succ i=>let⟨b,z1,z2⟩:=q2 i t (~~~e);calc ⟨b,by simpa using z1,z2⟩
   |zero=>
    ext e;cases d with
    |tup es=>
     erw[Rep]at r1;let⟨a,ws,rfl,e1,r3⟩:=r1;have:=Hi h1 r3;subst this;calc ⟨a,rfl,?_⟩;rw[e1];erw[kkI];rw[CS];rfl
    |_=>ext h1
  .cases h
section
variable {X:Cx}
def TV:CV X (.builtin "sorted") (λxs H Q=>∃ a vs ts,xs=[.ref a]/\(SqL X.K H a vs\/SqT X.K H a vs)/\F4 H vs ts/\(∀ t∈ts,t≠[])/\ts.length<=90000 /\ ∀ ys l,F4 H ys (EM ts)->H l=none->Q (.ref l) (upd H l (.lst ys))):=by
 intro zB s Y H xs us Q I r h;let⟨a,vs,ts,rfl,hq,hv,hne,hz,q⟩:=h;let⟨u,rfl,rx⟩:=EX r;ext rx;let key:∃ (ty:String) (its:List Value),(ty = "list" \/ ty = "tuple")/\(∃ ol,s.heap.get? a=some ol/\ol.cls=.type ty /\ ∃ nl,ol.data=.seq its.toArray nl)/\zT vs its:=by
  rcases hq with hq|hq
  .obtain ⟨its,rv,⟨ol,nl,e1,e2,_,e3⟩,_⟩:=I.list hq;exact ⟨"list", its,.inl rfl,⟨ol,e1,e2,nl,e3⟩,rv⟩
  .obtain ⟨its,rv,⟨ol,e1,e2,nl,e3⟩,_⟩:=I.tuple hq;exact ⟨"tuple", its,.inr rfl,⟨ol,e1,e2,nl,e3⟩,rv⟩
 let⟨ty,its,hty,hl,rv⟩:=key;let hlen:its.length=ts.length:=by rw[<-rv.length];exact hv.1
 let hsl:its.length<=sizeLine:=by rw[sizeLine_eq];omega
 let ait:∀ (i:Nat) u,its[i]?=some u -> ∃ t b,ts[i]?=some t/\u=.ref b/\H b=some (.tup ((kkI t).map kV)):=by
  intro i u e;let hi:i<ts.length:=by rw[<-hlen];exact (AK.mp e).1
  let⟨b,e1,e2⟩:=hv.2 i _ (AM hi);calc ⟨_,b,AM hi,?_,e2⟩;let⟨u',e3,rfl⟩:=rv.get e1;rw[e]at e3;exact Bb e3
 refine TN (QV hty hl ?_ hsl);generalize hH1:(s.heap.push (seqObj "list" #[] 0)).update ⇑s (Obj.mapSeq (· ++ its.toArray))=h1;let k1:∀ b u,s.heap.get? b=some u->h1.get? b=some u:=λb u e=>by
  let hb:⇑s≠b:=λz=>BN _ (z▸AI e);rw[<-hH1];exact (Cz _ _ hb).trans (AH _ e)
 let a2:∀ (i:Nat) u,its[i]?=some u -> ∃ t b,ts[i]?=some t/\u=.ref b/\H b=some (.tup ((kkI t).map kV))/\Bm h1 (.ref b) t:=λi u e=>by
  let⟨t,b,e1,e2,e3⟩:=ait i u e;exact ⟨t,b,e1,e2,e3,(Wq (I.hok b _ e3)).keep λc o _ eo=>k1 c o eo⟩
 refine ⟨hsl,λv hv'=>?_,λh' out n hk hL hp hs=>?_⟩
 .obtain ⟨i,hi⟩:=List.mem_iff_getElem?.mp hv';let⟨t,b,e1,rfl,_,tt⟩:=a2 i v hi;cases t with
  |nil=>calc absurd rfl (hne _ (CM e1))
  |cons x t=>exact ⟨x,t,tt⟩
 .obtain ⟨ys,rvy,tv⟩:=Xi hlen a2 hp hs;let I2:Inv X zB Y H { s with heap:=h1 }:=I.kept k1;let hf:H h1.objs.size=none:=I2.hok.fresh (AF _);calc ⟨.ref h1.objs.size,upd H h1.objs.size (.lst ys),I2.laid hk (AF _) ⟨by rw[tv.1,(LW ts).length_eq,sizeLine_eq];omega,out,n,rvy,hL⟩,rfl,q ys _ tv hf⟩
def Gh (ts:Ya):Bool:=ts.all λt=> !t.isEmpty
def X6 (h:Gh ts=true):∀ t∈ts,t≠[]:=λt ht e=>by
 erw[Gh]at h;rw[Ap]at h;have:=h t ht;rw[e]at this;ext this
def Gk:KB:=λxs M=>match xs with
 |[x]=>match zr M x with
  |some ds=>match G3 ds with
   |some ts=>if Gh ts=true/\ts.length<=90000 then some (.fl ((EM ts).map λt=>D.tup (t.map D.int)),M) else none
   |none=>none
  |none=>none
 |_=>none
def cW:Dc X.K (λxs H Q=>∃ a vs ts,xs=[.ref a]/\(SqL X.K H a vs\/SqT X.K H a vs)/\F4 H vs ts/\(∀ t∈ts,t≠[])/\ts.length<=90000 /\ ∀ ys l,F4 H ys (EM ts)->H l=none->Q (.ref l) (upd H l (.lst ys))) Gk:=by
 intro L M M' H H0 xs d vs Q cc r hk q;erw[Gk]at hk;cbv at hk
 .rename_i x;cbv at hk
  .rename_i ds e1;cbv at hk
   .rename_i ts e2;cbv at hk
    .rename_i hb;ext hk;let⟨v,rfl,r1⟩:=r.one;let⟨a,ws,rfl,hs,r2⟩:=FR cc r1 e1;exact ⟨a,ws,ts,rfl,hs,Oo e2 r2,X6 hb.1,hb.2,λys l tv hl=>q L _ _ (.upd hl) (cc.upd hl) (zR.newLst' cc hl (RE tv))⟩
    .cases hk
   .cases hk
  .cases hk
 .cases hk
def fN (hg:Gl X "sorted") (hm:X.mg "sorted" = none) (ha:QAE X [e] fa) (he:starEach [e] X.env=(false,eval e X.env)::starEach [] X.env:=by rfl) (hpl:(backTo pos (starEach [] X.env)).any (·.1)=false:=by rfl):QE X (.Call (.Name "sorted" p) [e] [] pos) (fB Gk fa) :=
 Gf cW TV (by rfl) hg hm ha () () he hpl
end
end L3
namespace L2
def PR:entryFor table "dict.update.loop" = some Builtin.«dict.update.loop»:=entryFor_of_tree (by kernel_rfl)
def Ju:plainId "dict.update.loop" = true:=by decide+kernel
def Cy.some {H H1:Hp} {d:Yt} {k x:V} (p:Cy H d k x H1):H d≠none /\ ∀ b,b≠d->H1 b=H b:=by
 rcases p with ⟨kvs,k,e,_,_,rfl⟩|⟨kvs,k,b,e,_,_,_,rfl⟩
 .exact ⟨by rw[e];simp,λb hb=>zS hb⟩
 .exact ⟨by rw[e];simp,λb hb=>zS hb⟩
end L2
namespace L3
open L2
def Oq (neg:Bool) (K:Yb):R2:=λx y H Q=>∃ (L:Yg) (d:D) (ds:List D) (p:Yt) (xs:List V),y=.ref p/\(SqL K H p xs\/SqT K H p xs)/\BS 1 d=true/\ds.all (BS 1)=true/\Rep L H d x/\zG L H ds xs/\Q (.bl (nb neg (ds.any λe=>BR 1 e d))) H
section
variable {X:Cx} {a b:Expr} {pos:Pos} {f g:FE} {zB:Yd} {Y:L2.St} {H:Hp} {s:Yl} {L:Yg} {d:D} {ds:List D} {xs:List V} {its:Yf} {v:V} {u:Yu}
open Classical in
def eY (L:Yg) (H:Hp) (ds:List D) (d:D) (y:Yu):Bool:=decide (∃ e,e∈ds/\(∃ v,Rep L H e v/\zf v y)/\BR 1 e d=true)
open Classical in
def Mz (hs:ds.all (BS 1)=true) {e:D} {v:V} {y:Yu} (he:e∈ds) (r:Rep L H e v) (q:zf v y):eY L H ds d y=BR 1 e d:=by
 rw[Ap]at hs;let h1:=hs e he;let key:(∃ e,e∈ds/\(∃ v,Rep L H e v/\zf v y)/\BR 1 e d=true) ↔ BR 1 e d=true:=by
  constructor
  .rintro ⟨e',h2,⟨v',r',q'⟩,h3⟩;let h4:=hs e' h2;have:v=v':=by
    cases e <;> first|cases h1|skip
    cases e' <;> first|cases h4|skip
    let r1:=r;let r2:=r';unfold Rep at r1 r2;let⟨a1,_,rfl,_⟩:=r1;let⟨a2,_,rfl,_⟩:=r2;ext q;ext q';rfl
   subst this;rw[Qe 1 e e' v h1 h4 r r'];exact h3
  .intro h;exact ⟨e,he,⟨v,r,q⟩,h⟩
 erw[eY];cases z:BR 1 e d with
 |true=>calc BB (key.mpr z)
 |false=>exact Al λw=>by rw[key.mp w]at z;ext z
def Lf (rr:zG L H ds xs) (r:zT xs its) (h:j<its.length):∃ e v,e∈ds/\ds[j]?=some e/\Rep L H e v/\zf v its[j]:=by
 let l1:xs.length=its.length:=r.length;let l2:xs.length=ds.length:=rr.length;let hj:j<ds.length:=()
 let⟨v,g1,t1⟩:=rr.get (AM hj);let⟨o,g2,t2⟩:=r.get g1;rw[AM h]at g2;ext g2;calc ⟨_,v,Bd hj,AM hj,t1,t2⟩
def RT (I:Inv X zB Y H s) (hu:X.A.units+1+1<cLine) (hd:BS 1 d=true) (hs:ds.all (BS 1)=true) (rd:Rep L H d v) (rx:zf v u) (rr:zG L H ds xs) (r:zT xs its) (w:Yu) (hw:w∈its):SeqAt.EqAt X.A.in1 s w u (eY L H ds d w):=by
 let⟨j,hj,rfl⟩:=EY hw;let⟨e,v',he,_,re,q⟩:=Lf rr r hj;rw[Mz hs he re q];rw[Ap]at hs;calc R6 I 1 X.A.in1 _ _ _ _ _ _ hu (hs e he) hd re rd q rx
def Q0 (hs:ds.all (BS 1)=true) (rr:zG L H ds xs) (r:zT xs its):its.any (eY L H ds d)=ds.any λe=>BR 1 e d:=by
 let l1:xs.length=its.length:=r.length;let l2:xs.length=ds.length:=rr.length;rw[C9,List.any_eq_true,List.any_eq_true];constructor
 .rintro ⟨w,hw,h⟩;let⟨j,hj,rfl⟩:=EY hw;let⟨e,v',he,_,re,q⟩:=Lf rr r hj;rw[Mz hs he re q]at h;exact ⟨e,he,h⟩
 .rintro ⟨e,he,h⟩;let⟨j,hj,rfl⟩:=EY he;let⟨e',v',he',g,re,q⟩:=Lf rr r (j:=j) ();rw[AM hj]at g;ext g;calc ⟨its[j],Bd (),by rw[Mz hs he' re q];calc h⟩
def R4 (hu:X.A.units+1+1<cLine):OpR X (compareOp .NotIn) (Oq true X.K):=by
 intro zB s Y H x y v u Q I rx ry h;let⟨L,d,ds,p,xs,rfl,hq,hd,hs,rd,rr,q⟩:=h;ext ry;rcases hq with hq|hq
 .obtain ⟨its,r,pl,hz⟩:=I.list hq;refine SeqAt.notIn_listAt (eY L H ds d) pl.isList (λw hw=>RT I hu hd hs rd rx rr r w (~~~hw)) ⟨.bl _,H,I,rfl,?_⟩;rw[show its.toArray.any (eY L H ds d)=its.any (eY L H ds d) by simp,Q0 hs rr r];exact q
 .obtain ⟨its,r,pl,hz⟩:=I.tuple hq;refine SeqAt.notIn_tupleAt (eY L H ds d) pl (λw hw=>RT I hu hd hs rd rx rr r w (~~~hw)) ⟨.bl _,H,I,rfl,?_⟩;rw[show its.toArray.any (eY L H ds d)=its.any (eY L H ds d) by simp,Q0 hs rr r];calc q
def G6 (neg:Bool):K2:=λx y M=>match x with
 |.dat d=>match zr M y with
  |some ds=>if BS 1 d&&ds.all (BS 1) then some (.dat (.bl (nb neg (ds.any λe=>BR 1 e d))),M) else none
  |none=>none
 |_=>none
def gQ {K:Yb} {neg:Bool}:BG K (Oq neg K) (G6 neg):=by
 intro L M M' H H0 x y d v w Q cc rx ry hk q;erw[G6]at hk;cbv at hk
 .rename_i d';cbv at hk
  .rename_i ds e1;cbv at hk
   .rename_i hb;ext hk;rw[BE]at hb;let⟨p,vs,rfl,hs,r⟩:=FR cc ry e1;exact ⟨L,d',ds,p,vs,rfl,hs,hb.1,hb.2,rx,r,q L H _ (.refl L H) cc (CP (L:=L) (H:=H))⟩
   .cases hk
  .cases hk
 .cases hk
def cM (hu:X.A.units+1+1<cLine) (h1:QE X a f) (h2:QE X b g) (hm:behindInMarks .NotIn b=false:=by rfl):QT X (.Compare a [.NotIn] [b] pos) (tst (fOp (G6 true) f g)):=Ed gQ (R4 hu) h1 h2 hm
end
end L3
namespace L2
open ST
section
variable {X:Cx} {e:Expr} {p pos:Pos}
def Sn (hg:Gl X "len") (hm:X.mg "len" = none) (ha:PZ X e t) (hs:starEach [e] X.env=(false,eval e X.env)::starEach [] X.env:=by rfl) (hpl:(backTo pos (starEach [] X.env)).any (·.1)=false:=by rfl) :
  PE X (.Call (.Name "len" p) [e] [] pos) (λY H Q=>t Y H λks H1=>Q (.int ks.length) H1):=by
 intro zB s Y H Q I h;calc ER (Ce I hg hm (by rfl) ?_ () ());calc callWith_builtin1 ?_ hs hpl;rw[hs];refine E6 (thn (ha zB s Y H _ I h) λu s1 ⟨a,o,es,ep,tb,ks,H1,hv,ho,hS,I1,q⟩=>Fi ?_);subst hv;let hb:=hS.bound;let hsb:scanBound<2 ^ 62:=()
 let hn:es.size=ks.length:=by
  let⟨ks',p,f⟩:=hS.ent;have:=Jj f;rw[<-p.length_eq,<-this,BU]
 calc call_len_set ho hS.ex hS.data hS.fits () ⟨.int ks.length,H1,I1.tok _,?_,q⟩;calc ⟨_,by rw[hn]⟩
end
end L2
namespace L3
open L2 ST
section
variable {X:Cx} {e:Expr} {p pos:Pos}
def GR (f:FZ):FE:=λY M=>match f Y M with
 |some (ks,M1)=>some (.dat (.int ks.length),M1)
 |none=>none
def VD (hg:Gl X "len") (hm:X.mg "len" = none) (h:QZ X e fz) (hs:starEach [e] X.env=(false,eval e X.env)::starEach [] X.env:=by rfl) (hpl:(backTo pos (starEach [] X.env)).any (·.1)=false:=by rfl) :
  QE X (.Call (.Name "len" p) [e] [] pos) (GR fz):=.mk <| PE.imp (Sn hg hm h.un hs hpl) λτ H Q zz=>by
 let⟨L,Y,M,d,M',c,rs,hf,q⟩:=zz;erw[GR]at hf;cbv at hf
 .rename_i ks M1 e1;ext hf;exact ⟨L,Y,M,_,_,c,rs,e1,λL1 H1 s1 c1=>q L1 H1 _ s1 c1 (CO (L:=L1) (H:=H1))⟩
 .cases hf
end
section
variable {prog:Ym} {w:Yo} {A:Yn} {E:Yc} {s:Yl}
def Xs (h:Q (s.heap.get? a) s):wpAny (model prog w) A (loadIfAlive a) Q E s:=λΓ p _=>by
 erw[loadIfAlive];rw[Sem.wp_loadIfAlive];simpa using h
abbrev DH (f:Value) (g:Bool) (TI TO:Addr):Obj:={ cls:=.type "zip", dict:=none,data:=.fields #[f,.bool g,.bool false,.ref TI,.ref TO],slots:=#[] }
structure ZipA (b1 b2:Bool) (h:Heap) (z TI TO i1 i2 t1 t2:Yt) (k:Nat):Prop where
 z:∃ f g,(f=.none \/ ∃ T:Addr,f=rawInt T)/\h.get? z=some (DH f g TI TO)
 ti:IsPair h TI (.ref i1) (.ref i2)
 to:∃ a b,IsPair h TO a b
 a:SI b1 h i1 t1 k
 b:SI b2 h i2 t2 k
def N9 {z TI TO:Yt} {f:Yu} {g:Bool} {Q:Bool->Shared->Prop} (hf:f=.none \/ ∃ T:Addr,f=rawInt T) (Z0:s.heap.get? z=some (DH f g TI TO)) (qt:Q true s) (qf:∀ h' g',h'.get? z=some (DH f g' TI TO)->Heap.SameBut z s.heap h'->Q false { s with heap:=h' }):wpAny (model prog w) A (Builtin.SmallTypes.ownedTupleIsFree (.ref z)) Q E s:=by
 erw[Builtin.SmallTypes.ownedTupleIsFree];rcases hf with rfl|⟨T,rfl⟩
 .exact AA (Ad Z0 rfl (x:=.none) rfl (AB qt))
 .refine AA (Ad Z0 rfl (x:=rawInt T) rfl ?_);erw[rawInt];dsimp only;calc AA (Xs ?_);cases AT:s.heap.get? ((T:Int)).toNat with
  |none=>calc AB qt
  |some o=>
   simp only[Option.isNone_some,CL,B6];calc AA (Ad Z0 rfl (x:=.bool g) rfl ?_);ext g
   .rw[AD ()];exact AA (C2 Z0 (by simp) λh1 Z1 e1=>AB (qf h1 true Z1 e1))
   .rw[AE ()];calc AB (qf s.heap true Z0 (Heap.SameBut.refl _ _))
def jK {b1 b2:Bool} {z TI TO i1 i2 t1 t2:Yt} {k:Nat} {xs ys:Yp} {x y:Yu} {Q:Option Value->Shared->Prop} (D:ZipApart z TI TO i1 i2 t1 t2) (Z:ZipA b1 b2 s.heap z TI TO i1 i2 t1 t2 k)
  (T1:SO b1 s.heap t1 xs) (T2:SO b2 s.heap t2 ys) (hx:xs[k]?=some x) (hy:ys[k]?=some y)
  (q:∀ h',ZipA b1 b2 h' z TI TO i1 i2 t1 t2 (k+1)->IsPair h' ⇑s x y ->
   (∀ c o,c∉[z,TO,i1,i2]->s.heap.get? c=some o->h'.get? c=some o)->Q (some (.ref ⇑s)) { s with heap:=h' }):wpAny (model prog w) A (pyNext (.ref z)) Q E s:=by
 let⟨⟨f,g,hf,Z0⟩,P0,⟨a,b,O0⟩,I1,I2⟩:=Z;let ty:s.TypeIs (.ref z) "zip" := ⟨_,Z0,rfl⟩;erw[pyNext];calc AA (CN (CA (name:=Str.ofString "__next__") ty Es (BI Es ty PySem.F.entry_zip_next ?_ (PySem.F.args_zip_next_1 _))));calc AA (m:=field (.ref z) 2) (Ad Z0 rfl (x:=.bool false) rfl ?_);calc AA (m:=field (.ref z) 3) (Ad Z0 rfl (x:=.ref TI) rfl ?_);calc AA (CH P0 rfl ?_);refine AA (m:=Builtin.SmallTypes.ownedTupleIsFree (.ref z)) (N9 hf Z0 ?_ λh1 g' Z1 e1=>?_)
 .rw[AD rfl];refine AA (BX (AA (Ad Z0 rfl (x:=.ref TO) rfl (AA (C2 Z0 (by simp) λh1 Z1 e1=>?_)))));replace Z1:h1.get? z=some (DH .ellipsis g TI TO):=Z1;refine AA ?_;simp only[List.forIn_cons,List.forIn_nil,List.zipIdx_cons,List.zipIdx_nil];refine AA (AA (D7 (AA (m:=Builtin.SmallTypes.nextOf (.ref i1)) (HE (SI.but I1 e1.extBut D.i1z) (SO.but T1 e1.extBut D.l1z) hx λh2 J1 e2=>AB ?_))));let O2:IsPair h2 TO a b:=e2.extBut _ _ D.TOi1 (e1.extBut _ _ D.TOz O0);refine AA (CH O2 rfl (AA (wpAny_updateSeq_pair O2 λh3 O3 e3=>AA (wpAny_letGo (AB ?_)))));replace O3:IsPair h3 TO x b:=O3
  refine AA (AA (D7 (AA (m:=Builtin.SmallTypes.nextOf (.ref i2)) (HE (SI.but (SI.but (SI.but I2 e1.extBut D.i2z) e2.extBut D.i12.symm) e3.extBut D.TOi2.symm)
   (SO.but (SO.but (SO.but T2 e1.extBut D.l2z) e2.extBut D.l2i1) e3.extBut D.l2TO) hy λh4 J2 e4=>AB ?_))))
  let O4:IsPair h4 TO x b:=e4.extBut _ _ D.TOi2 O3;refine AA (CH O4 rfl (AA (wpAny_updateSeq_pair O4 λh5 O5 e5=>AA (wpAny_letGo (AB (AB ?_))))));replace O5:IsPair h5 TO x y:=O5;calc AA (CH O5 rfl (AA (wpAny_newTuple ?_)));let sz:h5.objs.size=⇑s:=by rw[e5.1,e4.1,e3.1,e2.1,e1.1]
  let Z5:h5.get? z=some (DH .ellipsis g TI TO):=e5.extBut _ _ D.TOz.symm (e4.extBut _ _ D.i2z.symm (e3.extBut _ _ D.TOz.symm (e2.extBut _ _ D.i1z.symm Z1)));let kp:∀ c o,c∉[z,TO,i1,i2]->s.heap.get? c=some o->h5.get? c=some o:=λc o n e=>by
   simp only[AJ,Aw,Ay,not_or]at n;let⟨n1,n2,n3,n4⟩:=n;exact e5.extBut _ _ n2 (e4.extBut _ _ n4 (e3.extBut _ _ n2 (e2.extBut _ _ n3 (e1.extBut _ _ n1 e))))
  let A5:SI b1 h5 i1 t1 (k+1):=SI.but (SI.but (SI.but J1 e3.extBut D.TOi1.symm) e4.extBut D.i12) e5.extBut D.TOi1.symm;let B5:SI b2 h5 i2 t2 (k+1):=SI.but J2 e5.extBut D.TOi2.symm;let zl:z<h5.objs.size:=AI Z5;calc AA (m:=Builtin.SmallTypes.ownedTupleHandOut (.ref z) (.ref h5.objs.size)) ?_;erw[Builtin.SmallTypes.ownedTupleHandOut];let Z6:(h5.push { cls:=.type "tuple", data:=.seq #[x,y] }).get? z=some (DH .ellipsis g TI TO):=AH _ Z5;refine AA (C2 Z6 (by simp) λh7 Z7 e7=>?_);replace Z7:h7.get? z=some (DH (rawInt h5.objs.size) g TI TO):=Z7;refine C2 Z7 (by simp) λh8 Z8 e8=>?_;replace Z8:h8.get? z=some (DH (rawInt h5.objs.size) false TI TO):=Z8;let up:∀ c o,c≠z->h5.get? c=some o->h8.get? c=some o:=λc o n e=>e8.extBut _ _ n (e7.extBut _ _ n (AH _ e));let N8:IsPair h8 h5.objs.size x y:=e8.extBut _ _ (Ca zl) (e7.extBut _ _ (Ca zl) (AL _ rfl));rw[sz]at Z8 N8;calc AB ⟨_,rfl,?_⟩;rw[sz];refine AB (q h8 ⟨⟨_,false,.inr ⟨_,rfl⟩,Z8⟩,up _ _ D.TIz (kp _ _ (by simp[D.TIz,D.TITO,D.TIi1,D.TIi2]) P0),⟨_,_,up _ _ D.TOz O5⟩,?_,?_⟩ N8 λc o n e=>up c o (λm=>n (by simp[m])) (kp c o n e))
  .exact A5.keep λo e=>up _ o D.i1z e
  .exact B5.keep λo e=>up _ o D.i2z e
 .rw[AE ()];dsimp only;rw[<-Array.forIn_toList];simp only[List.forIn_cons,List.forIn_nil];refine AA (AA (AA (BQ (AA (m:=Builtin.SmallTypes.nextOf (.ref i1)) (HE (SI.but I1 e1.extBut D.i1z) (SO.but T1 e1.extBut D.l1z) hx λh2 J1 e2=>AB (AB ?_))))));refine AA (AA (BQ (AA (m:=Builtin.SmallTypes.nextOf (.ref i2)) (HE (SI.but (SI.but I2 e1.extBut D.i2z) e2.extBut D.i12.symm) (SO.but (SO.but T2 e1.extBut D.l2z) e2.extBut D.l2i1) hy λh4 J2 e4=>AB (AB (AB ?_))))));let sz:h4.objs.size=⇑s:=by rw[e4.1,e2.1,e1.1]
  let kp:∀ c o,c∉[z,i1,i2]->s.heap.get? c=some o->h4.get? c=some o:=λc o n e=>by
   simp only[AJ,Aw,Ay,not_or]at n;exact e4.extBut _ _ n.2.2 (e2.extBut _ _ n.2.1 (e1.extBut _ _ n.1 e))
  let Z4:h4.get? z=some (DH f g' TI TO):=e4.extBut _ _ D.i2z.symm (e2.extBut _ _ D.i1z.symm Z1);calc AA (wpAny_newTuple (hsz:=by show 2<=sizeLine;rw[sizeLine_eq];omega) (AB ⟨_,rfl,?_⟩));let up:∀ c o,h4.get? c=some o->(h4.push { cls:=.type "tuple", data:=.seq #[x,y] }).get? c=some o:=λc o e=>AH _ e;let N8:IsPair (h4.push { cls:=.type "tuple", data:=.seq #[x,y] }) h4.objs.size x y:=AL _ rfl;rw[sz]at N8;show wpAny _ _ (pure (some (Value.ref h4.objs.size))) _ _ _;rw[sz];refine AB (q _ ⟨⟨f,g',hf,up _ _ Z4⟩,up _ _ (kp _ _ (by simp[D.TIz,D.TIi1,D.TIi2]) P0),⟨a,b,up _ _ (kp _ _ (by simp[D.TOz,D.TOi1,D.TOi2]) O0)⟩,?_,?_⟩ N8 λc o n e=>up c o (kp c o (λm=>n (by simp only[AJ,Aw,Ay]at m ⊢;rcases m with m|m|m <;> simp[m])) e))
  .exact (SI.but J1 e4.extBut D.i12).keep λo e=>up _ o e
  .exact J2.keep λo e=>up _ o e
def Zb {b1 b2:Bool} {z TI TO i1 i2 t1 t2:Yt} {k:Nat} {xs ys:Yp} {Q:Option Value->Shared->Prop} (hh:A.handled=none) (D:ZipApart z TI TO i1 i2 t1 t2) (Z:ZipA b1 b2 s.heap z TI TO i1 i2 t1 t2 k)
  (T1:SO b1 s.heap t1 xs) (T2:SO b2 s.heap t2 ys) (he:xs[k]?=none\/ys[k]?=none)
  (q:∀ h',(∀ c o,c∉[z,TO,i1,i2]->s.heap.get? c=some o->h'.get? c=some o)->Q none { s with heap:=h' }):wpAny (model prog w) A (pyNext (.ref z)) Q E s:=by
 let⟨⟨f,g,hf,Z0⟩,P0,⟨a,b,O0⟩,I1,I2⟩:=Z;let ty:s.TypeIs (.ref z) "zip" := ⟨_,Z0,rfl⟩
 let stop:∀ (e:Addr) (h':Heap),(∀ c o,c∉[z,TO,i1,i2]->s.heap.get? c=some o->h'.get? c=some o)->(∃ o,h'.get? e=some o/\o.cls=.type "StopIteration") ->
   wpAny (model prog w) A (do if (<- isInstance (.ref e) (.type "StopIteration")) then pure none else throw (.ref e):Sem (Option Value)) Q E { s with heap:=h' }:=λe h' k1 ⟨o,e1,e2⟩=>
  AA (Eb (T := "StopIteration") (b:=true) ⟨o,e1,e2⟩ isSubtype_stop (AB (q h' k1)))
 erw[pyNext];calc AA (CN (CA (name:=Str.ofString "__next__") ty Es (BI Es ty PySem.F.entry_zip_next ?_ (PySem.F.args_zip_next_1 _))));calc AA (m:=field (.ref z) 2) (Ad Z0 rfl (x:=.bool false) rfl ?_);calc AA (m:=field (.ref z) 3) (Ad Z0 rfl (x:=.ref TI) rfl ?_);calc AA (CH P0 rfl ?_);refine AA (m:=Builtin.SmallTypes.ownedTupleIsFree (.ref z)) (N9 hf Z0 ?_ λh1 g' Z1 e1=>?_)
 .rw[AD rfl];refine AA (BX (AA (Ad Z0 rfl (x:=.ref TO) rfl (AA (C2 Z0 (by simp) λh1 Z1 e1=>?_)))));replace Z1:h1.get? z=some (DH .ellipsis g TI TO):=Z1;calc AA ?_;simp only[List.forIn_cons,List.forIn_nil,List.zipIdx_cons,List.zipIdx_nil];cases hx:xs[k]? with
  |none=>
   refine AA (AA (D7 (AA (m:=Builtin.SmallTypes.nextOf (.ref i1)) (Jo hh (SI.but I1 e1.extBut D.i1z) (SO.but T1 e1.extBut D.l1z) hx λh2 e e2 he=>?_))));let⟨oe,o1,o2⟩:=he;let Z2:h2.get? z=some (DH .ellipsis g TI TO):=e2 _ _ D.i1z.symm Z1;let ne:e≠z:=λm=>by subst m;rw[Z2]at o1;ext o1;simp at o2
   refine C2 Z2 (by simp) λh3 _ e3=>stop e h3 (λc o n x=>?_) ⟨oe,e3.extBut _ _ ne o1,o2⟩;simp only[AJ,Aw,Ay,not_or]at n;calc e3.extBut _ _ n.1 (e2 _ _ n.2.2.1 (e1.extBut _ _ n.1 x))
  |some x=>
   let hy:ys[k]?=none:=by
    rcases he with m|m
    .rw[hx]at m;ext m
    .exact m
   refine AA (AA (D7 (AA (m:=Builtin.SmallTypes.nextOf (.ref i1)) (HE (SI.but I1 e1.extBut D.i1z) (SO.but T1 e1.extBut D.l1z) hx λh2 J1 e2=>AB ?_))));let O2:IsPair h2 TO a b:=e2.extBut _ _ D.TOi1 (e1.extBut _ _ D.TOz O0);refine AA (CH O2 rfl (AA (wpAny_updateSeq_pair O2 λh3 O3 e3=>AA (wpAny_letGo (AB ?_)))))
   refine AA (AA (D7 (AA (m:=Builtin.SmallTypes.nextOf (.ref i2)) (Jo hh (SI.but (SI.but (SI.but I2 e1.extBut D.i2z) e2.extBut D.i12.symm) e3.extBut D.TOi2.symm)
    (SO.but (SO.but (SO.but T2 e1.extBut D.l2z) e2.extBut D.l2i1) e3.extBut D.l2TO) hy λh4 e e4 he=>?_))))
   let⟨oe,o1,o2⟩:=he;let Z4:h4.get? z=some (DH .ellipsis g TI TO):=e4 _ _ D.i2z.symm (e3.extBut _ _ D.TOz.symm (e2.extBut _ _ D.i1z.symm Z1));let ne:e≠z:=λm=>by subst m;rw[Z4]at o1;ext o1;simp at o2
   refine C2 Z4 (by simp) λh5 _ e5=>stop e h5 (λc o n x=>?_) ⟨oe,e5.extBut _ _ ne o1,o2⟩;simp only[AJ,Aw,Ay,not_or]at n;exact e5.extBut _ _ n.1 (e4 _ _ n.2.2.2 (e3.extBut _ _ n.2.1 (e2.extBut _ _ n.2.2.1 (e1.extBut _ _ n.1 x))))
 .rw[AE ()];dsimp only;rw[<-Array.forIn_toList];simp only[List.forIn_cons,List.forIn_nil];cases hx:xs[k]? with
  |none=>
   refine AA (AA (AA (BQ (AA (m:=Builtin.SmallTypes.nextOf (.ref i1)) (Jo hh (SI.but I1 e1.extBut D.i1z) (SO.but T1 e1.extBut D.l1z) hx λh2 e e2 he=>?_)))));refine stop e h2 (λc o n x=>?_) he;simp only[AJ,Aw,Ay,not_or]at n;calc e2 _ _ n.2.2.1 (e1.extBut _ _ n.1 x)
  |some x=>
   let hy:ys[k]?=none:=by
    rcases he with m|m
    .rw[hx]at m;ext m
    .exact m
   refine AA (AA (AA (BQ (AA (m:=Builtin.SmallTypes.nextOf (.ref i1)) (HE (SI.but I1 e1.extBut D.i1z) (SO.but T1 e1.extBut D.l1z) hx λh2 J1 e2=>AB (AB ?_))))));refine AA (AA (BQ (AA (m:=Builtin.SmallTypes.nextOf (.ref i2)) (Jo hh (SI.but (SI.but I2 e1.extBut D.i2z) e2.extBut D.i12.symm) (SO.but (SO.but T2 e1.extBut D.l2z) e2.extBut D.l2i1) hy λh4 e e4 he=>?_))));refine stop e h4 (λc o n x=>?_) he;simp only[AJ,Aw,Ay,not_or]at n;calc e4 _ _ n.2.2.2 (e2.extBut _ _ n.2.2.1 (e1.extBut _ _ n.1 x))
def Uj {z TI TO:Yt} {f:Yu} {g:Bool} {Q:Yc} (Z0:s.heap.get? z=some (DH f g TI TO)) (h:Q (.ref z) s):wpAny (model prog w) A (pyIter (.ref z)) Q E s :=
 let ty:s.TypeIs (.ref z) "zip" := ⟨_,Z0,rfl⟩;wpAny_pyIter_slot ty PySem.F.slot_zip_iter (BI PySem.F.slot_zip_iter ty PySem.F.entry_zip_iter (show wpAny _ _ (ret (.ref z)) _ _ s from AB ⟨_,rfl, "zip", _,ty,Es.lookup,h⟩) (PySem.F.args_zip_iter_1 _))
end
theorem Oz:∀ {es:List DictEntry} {kvs:List (Key × Value)},Pairs (B8 P w) es kvs -> ∀ (i:Nat) e,es[i]?=some e -> ∃ kv,kvs[i]?=some kv/\E2 kv.1 e.key=true
 |_,_,.nil,i,e,h=>by simp at h
 |_,_,.cons h1 h2 h3,0,e,h=>by ext h;calc ⟨_,rfl,h1⟩
 |_,_,.cons h1 h2 h3,i+1,e,h=>Oz h3 i e (~~~h)
theorem KS:∀ {kvs:List (Key × V)} {vs:List (Key × Value)},KV kvs vs->vs.map (·.1)=kvs.map (·.1)
 |_,_,.nil=>rfl
 |_,_,.cons h1 h2=>by rw[Ag,Ag,KS h2,h1.1]
def Q6 (I:Inv X zB Y H s) (hd:o.data=.dict es ep) (e:H d=some (.frz o (.dK kvs))) :
  s.heap.get? d=some o /\ ∃ vs,KV kvs vs/\Pairs (B8 X.prog X.w) es.toList vs/\kvs.length=es.size:=by
 let⟨h0,_,_,vs,r,o',es',ep',h1,_,h3,_,h4,_⟩:=(show Am X.prog X.w H s.heap d (.frz o (.dK kvs))from I.hok d _ e);rw[h0]at h1;ext h1;rw[hd]at h3;ext h3;calc ⟨h0,vs,r,h4,?_⟩;let h5:=Pairs.length h4;let h6:=BO List.length (KS r);simp at h5 h6;omega
def X2 (I:Inv X zB Y H s) (ed:H d=some (.dK kvs)):∃ o es en,s.heap.get? d=some o/\o.data=.dict es en/\Inv X zB Y (upd H d (.frz o (.dK kvs))) s:=by
 let⟨z1,z2,vs,r,o,es',en,h1,h2,h3,h4,h5,h6⟩:=(show Am X.prog X.w H s.heap d (.dK kvs)from I.hok d _ ed);calc ⟨o,es',en,h1,h3,Gx (s:=s) (h':=s.heap) (t':=s.toks) (ob:=.frz o (.dK kvs)) I (by rw[ed];calc True.intro) (Heap.SameBut.refl _ _) ⟨o,h1⟩ ⟨h1,z1,z2,vs,r,o,es',en,h1,h2,h3,h4,h5,h6⟩⟩
def iI (h:E2 k v=true):zf (kV k) v:=by
 rcases EI h with ⟨i,t,rfl,rfl⟩|⟨x,t,rfl,rfl⟩
 .exact ⟨t,rfl⟩
 .exact ⟨t,rfl⟩
def dX:∀ {d:D} {k:Key},Az d=some k->Rep L H d (kV k)
 |.int i,k,h=>by ext h;erw[Rep];rfl
 |.str x,k,h=>by ext h;erw[Rep];rfl
theorem QJ {κ:Type} {kf:D->Option κ} {L:Yg} {H:Hp}:∀ {ps:List (D × D)} {vs:List (κ × V)} {i:Nat} {p:D × D},AS kf L H ps vs->ps[i]?=some p -> ∃ k x,vs[i]?=some (k,x)/\kf p.1=some k/\Rep L H p.2 x
 |[],_,i,p,_,e=>by simp at e
 |q::ps,vs,i,p,r,e=>by
  erw[AS]at r;let⟨k,v,r',rfl,ek,r1,r2⟩:=r;cases i with
  |zero=>ext e;calc ⟨k,v,rfl,ek,r1⟩
  |succ i=>calc QJ (i:=i) r2 (~~~e)
def Hb (d:Yt) (o:Obj) (kvs:List (Key × V)):It :=
 ⟨λi H=>H d=some (.frz o (.dK kvs))/\i<kvs.length,
  λi H v H'=>∃ k x,kvs[i]?=some (k,x)/\v=kV k/\H'=H,
  λi H=>H d=some (.frz o (.dK kvs))/\kvs.length<=i⟩
def PF {P:Ym} {w:Yo} {K:Yb} {tg:Expr} {it d:Yt} {o:Obj} {kvs:List (Key × V)} {es:Array DictEntry} {en:Nat} (hd:o.data=.dict es en) :
  Turn P w K tg (Hb d o kvs) [it] it (λi h=>h.IsKeyIter it d i es.size en) where
 mem:=Ae.mpr rfl;obj:=λi h he c hc=>by
  cases Ae.mp hc;let⟨q,h1,h2,h3⟩:=he;exact ⟨_,h1,λv m=>by rw[h3]at m;ext m⟩
 keep:=λi h h' he k=>by
  let⟨q,h1,h2,h3⟩:=he;exact ⟨q,k it (Ae.mpr rfl) _ h1,h2,h3⟩
 item:=by
  intro X hP hw hK hc i zB s Y H E I hf he hg;subst hP hw hK;let⟨hg,hi⟩:=hg;let⟨h0,vs,r,h4,hl⟩:=Q6 I hd hg;let hx:es[i]?=some es[i]:=DC ();let⟨kv,e1,e2⟩:=Oz h4 i es[i] (by rw[Bo];calc hx);rcases hkx:kvs[i]with ⟨k,x⟩;let hk:kvs[i]?=some (k,x):=by rw[AM hi,hkx]
  let ek:kv.1=k:=by
   let a1:(vs.map (·.1))[i]?=some kv.1:=by rw[AW,e1];rfl
   rw[KS r,AW,hk]at a1;exact (Bb a1).symm
  rw[ek]at e2;refine Zq he h0 hd hx λh' he' hs'=>⟨_,rfl,?_⟩;let⟨q,h8,h9,h10⟩:=id he';refine Iy h8 h9 h10 () ⟨kV k,H,G4 (s:=s) (h':=h') (t':=s.toks) I hf λc q n z=>hs'.extBut c q (λy=>n (Ae.mpr y)) z,iI e2,⟨k,x,hk,rfl,rfl⟩,he',λc hm=>(hf c hm).1⟩
 done:=by
  intro X hP hw hK hc i zB s Y H E I hf he hg;subst hP hw hK;let⟨hg,hi⟩:=hg;let⟨h0,vs,r,h4,hl⟩:=Q6 I hd hg;exact a9 (I.ok.hd hc) he h0 hd () λh' x=>⟨rfl,G4 (s:=s) (h':=h') (t':=s.toks) I hf λc q n z=>x c q (λy=>n (Ae.mpr y)) z⟩
 self:=λA i s Q E he h=>wpAny_pyIter_keyiter he h
section
variable {X:Cx} {e:Expr} {tg:Expr} {f:FE}
def SU {td:TE} (ho:PE X e td):PI X tg e (λY H R=>td Y H λx H1=>∃ d kvs,x=.ref d/\((H1 d=some (.dK kvs) /\ ∀ o,R (Hb d o kvs) (upd H1 d (.frz o (.dK kvs)))) \/ ∃ o,H1 d=some (.frz o (.dK kvs))/\R (Hb d o kvs) H1)):=by
 intro zB s Y H R I h;refine thn (ho zB s Y H _ I h) λv s1 ⟨x,H1,I1,r1,d,kvs,ex,q⟩=>?_;subst ex;ext r1;rcases q with ⟨ed,q⟩|⟨o,ed,q⟩
 .obtain ⟨t1,t2,t3⟩:=Pu I1 (.inl ⟨kvs,.inl ed⟩);let⟨o,es',en,h1,h3,I0⟩:=X2 I1 ed;calc OZ (o:=o) (es:=es') (ep:=en) t3 t1 h1 h3 ?_;refine ⟨_,[_],_,_,_,rfl,I0.kept (t':=s1.toks) λb q z=>AH _ z,PF h3,⟨_,AL _ rfl,rfl,rfl⟩,λc hc=>?_,q o⟩;cases Ae.mp hc;exact I0.fpOk (AF _) (I0.hok.fresh (AF _))
 .obtain ⟨t1,t2,t3⟩:=Pu I1 (.inl ⟨kvs,.inr ⟨o,ed⟩⟩);let⟨h1,_,_,vs,r,o',es',en,h1',h2,h3,h4,h5,h6⟩:=(show Am X.prog X.w H1 s1.heap d (.frz o (.dK kvs))from I1.hok d _ ed);rw[h1]at h1';ext h1';calc OZ (o:=o) (es:=es') (ep:=en) t3 t1 h1 h3 ?_;refine ⟨_,[_],_,_,_,rfl,I1.kept (t':=s1.toks) λb q z=>AH _ z,PF h3,⟨_,AL _ rfl,rfl,rfl⟩,λc hc=>?_,q⟩;cases Ae.mp hc;calc I1.fpOk (AF _) (I1.hok.fresh (AF _))
def G8 (f:FE):FI:=λY M=>match f Y M with
 |some (.dat (.ref n),M1)=>match M1[n]? with
  |some (.dict ps)=>some (ps.map (·.1),none,M1.set n (.froK ps))
  |some (.froK ps)=>some (ps.map (·.1),none,M1)
  |_=>none
 |_=>none
def dN (h:QE X e f):QI X tg e (G8 f):=.mk <| PI.imp (SU h.un) λτ H R zz=>by
 let⟨L,Y,M,xs,gd,M',c,rs,hf,q⟩:=zz;let fin:∀ {L2:Yg} {H2:Hp} {ps:List (D × D)} {a:Yt} {o:Obj} {vs:List (Key × V)},H2 a=some (.frz o (.dK vs))->AS Az L2 H2 ps vs -> ∀ (i:Nat) (d:D),(ps.map (·.1))[i]?=some d->(Hb a o vs).go i H2 /\ ∀ v H3,(Hb a o vs).yld i H2 v H3->(∀ a o,H2 a=some o->H3 a=some o)/\Rep L2 H3 d v:=by
  intro L2 H2 ps a o vs hz r4 i d hd;rw[AW]at hd;cases hp:ps[i]? with
  |none=>rw[hp]at hd;ext hd
  |some p=>
   rw[hp]at hd;ext hd;let⟨k,x,hk,ek,rx⟩:=QJ r4 hp;refine ⟨⟨hz,(AK.mp hk).1⟩,λv H3 hy=>?_⟩;let⟨k',x',hk',rfl,rfl⟩:=hy;rw[hk]at hk';ext hk';exact ⟨λa o e=>e,dX ek⟩
 erw[G8]at hf;cbv at hf
 .rename_i n M1 e1;cbv at hf
  .rename_i ps e2;ext hf;refine ⟨L,Y,M,_,_,c,rs,e1,λL1 H1 v s1 c1 r1=>?_⟩;erw[zR,Rep]at r1;let⟨a,rfl,ea⟩:=r1;let⟨vs,e3,r3⟩:=c1.obj n a _ ea e2;refine ⟨a,vs,rfl,.inl ⟨e3,λo=>?_⟩⟩;let⟨c2,s2⟩:=c1.put (m:=.froK ps) (o':=.frz o (.dK vs)) ea e3 (λ_ z=>by ext z) (λ_ _ z=>by ext z) λs2=>⟨o,_,CY,r3.stp s2⟩;refine q L1 _ _ (s1.trans s2) c2 λL2 H2 M2 s3 c3 _=>?_;let hz:H2 a=some (.frz o (.dK vs)):=s3.frz _ _ _ CY;let r4:=r3.stp (s2.trans s3);exact ⟨λi d hd=>fin hz r4 i d hd,hz,by rw[AG,r4.length];calc AF _⟩
  .rename_i ps e2;ext hf;refine ⟨L,Y,M,_,_,c,rs,e1,λL1 H1 v s1 c1 r1=>?_⟩;erw[zR,Rep]at r1;let⟨a,rfl,ea⟩:=r1;let⟨o,vs,e3,r3⟩:=c1.obj n a _ ea e2;calc ⟨a,vs,rfl,.inr ⟨o,e3,?_⟩⟩;refine q L1 _ _ s1 c1 λL2 H2 M2 s3 c3 _=>?_;let hz:H2 a=some (.frz o (.dK vs)):=s3.frz _ _ _ e3;let r4:=r3.stp s3;exact ⟨λi d hd=>fin hz r4 i d hd,hz,by rw[AG,r4.length];calc AF _⟩
  .cases hf
 .cases hf
end
def Xu:typeLookup (.type "zip") "__getattr__" = pure none:=by rw[Dt,Dj];kernel_rfl
def Sg:typeLookup (.type "zip") "keys" = pure none:=by rw[Dt,Dj];kernel_rfl
def Xl:entryFor table "zip.__getattribute__" = some Builtin.«object.__getattribute__» :=
 entryFor_alias (id' := "object.__getattribute__") (by kernel_rfl) (by decide+kernel) (by decide+kernel) (by kernel_rfl)
def iT (a:Yt) (fs:Yp) (sl:Array (Option Value)) (u:Tok) :
  Meets (Builtin.«object.__getattribute__» ⟨[.ref a,.str "keys" u],[]⟩) (λA R s=>s.heap.get? a=some { cls:=.type "zip", dict:=none,data:=.fields fs,slots:=sl }/\raisesAttr (.ref a) "keys" A R s) :=
 Meets.of_wp λprog w A R s hs=>by
  let⟨hp,g,d,tk,os⟩:=s;let⟨hx,hs⟩:=hs;let hT:(⟨hp,g,d,tk,os⟩:Shared).TypeIs (.ref a) "zip" := ⟨_,hx,rfl⟩;let hmiss:=Sg;let hname:(["__module__", "__name__", "__qualname__", "__doc__", "__annotations__"]:List Str).contains "keys" = false:=()
  unfold Builtin.«object.__getattribute__»;repeat (any_goals (first|assumption|wp_step))
  try simp only[hname,CL,B6]
  repeat (any_goals (first|assumption|wp_step))
  calc wpAny_raiseAttrError hs.1 hs.2 (attrMsg_fits (by decide+kernel) (by size_fits))
section
variable {prog:Ym} {w:Yo} {A:Yn} {E:Yc} {s:Yl}
set_option maxHeartbeats 4000000 in
def Zf (hx:s.heap.get? a=some { cls:=.type "zip", dict:=none,data:=.fields fs,slots:=sl }) (hA:A.handled=none)
  (h:∀ h' tk,(∀ b u,s.heap.get? b=some u->h'.get? b=some u)->Q none { s with heap:=h',toks:=tk }):wpAny (model prog w) A (getAttr? (.ref a) "keys") Q E s:=by
 let⟨hp,g,d,tk,os⟩:=s;let hT:∀ tk',(⟨hp,g,d,tk',os⟩:Shared).TypeIs (.ref a) "zip" := λ_=>⟨_,hx,rfl⟩;let f1:=sub_AttributeError;let f3:=F.slot_zip_getattribute.lookup;let f4:=F.slot_zip_getattribute.bind (.ref a);let f5:=Xu;erw[getAttr?,getAttrBy?,getAttrBy];repeat (any_goals (first|assumption|exact hT _|((with_reducible show wpAny _ _ (call (Value.builtin "zip.__getattribute__") _ _) _ _ _);calc call_meets F.slot_zip_getattribute (hT _) Xl (F.args_zip_getattribute_2 _ _) (iT a fs sl _) ⟨hx,hA,λh' tk' e hx'=>?_⟩)|wp_step))
 let⟨t',u',he⟩:=hx'.there;show wpAny _ _ (getattributeRaised _ _ _ _ _ _ _) _ _ _;erw[getattributeRaised];repeat (any_goals (first|assumption|wp_step))
 calc h _ _ hx'.keeps
end
set_option genInjectivity true in
inductive PutsP (d:Yt):List (V × V)->Hp->Hp->Prop
 |nil {H:Hp}:PutsP d [] H H
 |cons {k x:V} {ps:List (V × V)} {H H1 H2:Hp}:Cy H d k x H1->PutsP d ps H1 H2->PutsP d ((k,x)::ps) H H2
section
variable {X:Cx} {zB:Yd} {Y:L2.St} {A:Yn}
def SD {b1 b2:Bool} {d z TI TO i1 i2 t1 t2:Yt} {xs ys:Yf} {R:Yx} (hu:A.units+2<cLine) (hA:A.handled=none) (D:ZipApart z TI TO i1 i2 t1 t2) (hd:d∉[z,TI,TO,i1,i2,t1,t2]) {ps:List (V × V)} {H H2:Hp} (P:PutsP d ps H H2) :
  ∀ (k:Nat) (j:Int) (s:Yl),Inv X zB Y H s->(∀ b∈[z,TO,i1,i2],Bq X zB H b)->ZipA b1 b2 s.heap z TI TO i1 i2 t1 t2 k->SO b1 s.heap t1 xs.toArray->SO b2 s.heap t2 ys.toArray ->
   (t1∉[z,TO,i1,i2]/\t2∉[z,TO,i1,i2])->(∀ (i:Nat) p,ps[i]?=some p -> ∃ x y,xs[k+i]?=some x/\ys[k+i]?=some y/\zf p.1 x/\zf p.2 y)->(xs.length<=k+ps.length\/ys.length<=k+ps.length) ->
   (∀ s',Inv X zB Y H2 s'->R (.ok (.ret .none)) s')->codeAny (model X.prog X.w) A (.builtin "dict.update.loop" ⟨[.ref d,.ref z,rawInt j,.none],[]⟩) R s:=by
 induction P with
 |nil=>
  intro k j s I hf Z T1 T2 ht hp he hR;calc Cb PR ?_;rw[DK Ju _];show wpAny _ A.in1 (pyNext (.ref z) >>= _) _ _ s;refine AA (Zb (~~~hA) D Z T1 T2 (he.imp (λq=>by simp at q ⊢;omega) λq=>by simp at q ⊢;omega) λh' kk=>?_);show wpAny _ A.in1 (Builtin.Dict.addKeywords d [] >>= _) _ _ _;calc AA (AB ?_);exact AB (hR _ (G4 (s:=s) (h':=h') (t':=s.toks) I (ch:=[z,TO,i1,i2]) hf λb u hb e=>kk b u hb e))
 | @cons k x ps H H1 H2 dp _ ih=>
  intro n j s I hf Z T1 T2 ht hp he hR;let⟨u1,u2,e1,e2,r1,r2⟩:=hp 0 _ rfl;calc Cb PR ?_;rw[DK Ju _];show wpAny _ A.in1 (pyNext (.ref z) >>= _) _ _ s;refine AA (jK D Z T1 T2 (x:=u1) (y:=u2) (~~~e1) (~~~e2) λh' Z' N' kk=>?_);let I1:Inv X zB Y H { s with heap:=h' }:=G4 (s:=s) (h':=h') (t':=s.toks) I (ch:=[z,TO,i1,i2]) hf λb u hb e=>kk b u hb e;show wpAny _ A.in1 (holding [.ref ⇑s] _ >>= _) _ _ _;calc AA (BQ ?_);calc AA (wpAny_tryCatch ?_);erw[Builtin.Dict.pairItems];calc AA (Co (T := "tuple") ⟨_,N',rfl⟩ ?_);rw[AD ()];calc AA (CH N' rfl (AB ?_));show wpAny _ A.in1 (holding [u1,u2] (dictSet d u1 u2)) _ _ _;refine BQ (VU (show A.in1.units+1<cLine from hu) I1 dp r1 r2 λs3 I3 hs=>?_);let⟨dn,ds⟩:=dp.some;let nd:∀ b∈[z,TI,TO,i1,i2,t1,t2],b≠d:=λb hb e=>hd (e▸hb);let kp:∀ b∈[z,TI,TO,i1,i2,t1,t2],∀ o,h'.get? b=some o->s3.heap.get? b=some o:=λb hb o e=>by rw[hs.2 b (nd b hb)];exact e
  let⟨⟨f,g,hff,Z0⟩,P0,⟨x0,y0,O0⟩,J1,J2⟩:=Z'
  refine AB ⟨ED Ju _,ih (n+1) (j+1) s3 I3 (λb hb=>?_) ⟨⟨f,g,hff,kp z (by simp) _ Z0⟩,kp TI (by simp) _ P0,⟨x0,y0,kp TO (by simp) _ O0⟩,J1.keep λo e=>kp i1 (by simp) o e,J2.keep λo e=>kp i2 (by simp) o e⟩
   (T1.keep λo e=>kp t1 (by simp) o (kk t1 o ht.1 e)) (T2.keep λo e=>kp t2 (by simp) o (kk t2 o ht.2 e)) ht (λi p e=>?_) ?_ hR⟩
  .have hb':b≠d:=nd b (by
    simp only[AJ,Aw,Ay]at hb ⊢;rcases hb with q|q|q|q <;> simp[q])
   exact ⟨(ds b hb').trans (hf b hb).1,(hf b hb).2⟩
  .obtain ⟨a1,a2,q1,q2,q3,q4⟩:=hp (i+1) p (~~~e);exact ⟨a1,a2,by rw[show n+1+i=n+(i+1) by omega];calc q1,by rw[show n+1+i=n+(i+1) by omega];calc q2,q3,q4⟩
  .simp only[C0]at he;omega
end
section
variable {X:Cx} {a b:Expr} {p p2 pos pos2:Pos}
def YX (hu:X.A.units+1+4<cLine) (hc:X.calm=true) (hgT:Gl X "dict") (hmT:X.mg "dict" = none) (hg:Gl X "zip") (hm:X.mg "zip" = none) (ha:PA X [a,b] ta)
  (hs:starEach [a,b] X.env=[(false,eval a X.env),(false,eval b X.env)]:=by rfl) (hs2:starEach [b] X.env=[(false,eval b X.env)]:=by rfl)
  (hs':starEach [.Call (.Name "zip" p2) [a,b] [] pos2] X.env=(false,eval (.Call (.Name "zip" p2) [a,b] [] pos2) X.env)::starEach [] X.env:=by rfl) (hpl':(backTo pos (starEach [] X.env)).any (·.1)=false:=by rfl) :
  PE X (.Call (.Name "dict" p) [.Call (.Name "zip" p2) [a,b] [] pos2] [] pos) (λY H Q=>ta Y H λvs H1=>∃ b1 b2 l1 l2 xs ys isT,vs=[.ref l1,.ref l2]/\SqG X.K b1 H1 l1 xs/\SqG X.K b2 H1 l2 ys /\
   ∀ q,H1 q=none -> ∃ H2,PutsP q (xs.zip ys) (upd H1 q (IM isT)) H2/\Q (.ref q) H2):=by
 intro zB s Y H Q I h;calc ER (Ce I hgT hmT (by rfl) ?_ () ());calc callWith_type1 ?_ hs' hpl';rw[hs'];show wpAny _ _ (spliced ((false,eval (.Call (.Name "zip" p2) [a,b] [] pos2) X.env)::backTo pos (starEach [] X.env))) _ _ s;calc E6 ?_;refine Call_ (Ce I hg hm (by rfl) (PyProof.Rows.callWith_type1 (thn (ha pos2 zB s Y H _ I h) λus s1 ⟨vs,H1,I1,r1,q1⟩=>?_) (by rw[hs,hs2]) (by rw[hs2];rfl)));let⟨b1,b2,l1,l2,xs,ys,isT,rfl,s1',s2',q⟩:=q1;cases r1 with
 |cons r rr=>
  cases rr with
  |cons r' rr=>
   ext rr;ext r;ext r';let⟨its,rv,p1⟩:=RV I1 s1';let⟨its2,rv2,p2⟩:=RV I1 s2';let d1:l1<⇑s1:=Qs p1;let d2:l2<⇑s1:=Qs p2;let d1':@LT.lt Nat _ l1 ⇑s1:=d1;let d2':@LT.lt Nat _ l2 ⇑s1:=d2;let n1:=rv.length;let n2:=rv2.length;let hA:X.A.handled=none:=I1.ok.hd hc;refine U9 p1 p2 λh' Z kp=>Fi ?_;let I2:Inv X zB Y H1 { s1 with heap:=h' }:=I1.kept (t':=s1.toks) kp;let hz:=AI Z.z;let hq:H1 h'.objs.size=none:=I2.hok.fresh (AF _);let⟨H2,P,qq⟩:=q _ hq;refine callType_codes (Q₁:=λobj s₁=>obj=.ref h'.objs.size/\s₁={ s1 with heap:=h'.push Fv }) F.kt_called_dict (F.kt_typeCall_dict_1 _) F.entry_dict_init (kt_code_dict_new (s:={ s1 with heap:=h' }) _ ⟨rfl,rfl⟩) ?_;rintro obj s₁ ⟨rfl,rfl⟩;let big:sysModules<h'.objs.size:=I2.big;let hsm:(h'.objs.size==sysModules)=false:=by rw[beq_eq_false_iff_ne];exact Ca big
   let pD:(h'.push Fv).get? h'.objs.size=some Fv:=AL _ rfl;let I3:Inv X zB Y (upd H1 h'.objs.size (IM isT)) { s1 with heap:=h'.push Fv }:=by
    refine I2.laid (t':=s1.toks) (λb q z=>AH _ z) (AF _) ?_;cases isT with
    |false=>exact ⟨BK _,hsm,[],.nil,Fv,#[],0,pD,⟨rfl,rfl,rfl⟩,rfl,λ_ he=>by simp at he,.nil,List.nodup_nil⟩
    |true=>exact ⟨BK _,hsm,[],.nil,Fv,#[],0,pD,⟨rfl,rfl,rfl⟩,rfl,rfl,List.nodup_nil⟩
   let hZ1:(h'.push Fv).get? (⇑s1+4)=_:=AH _ Z.z;calc ⟨⟨_,pD,rfl⟩,F.args_dict_init_2 _ _,?_⟩;unfold Builtin.«dict.__init__»;calc AA ?_;erw[Builtin.Dict.selfAndRest];calc AA (wpAny_notOrdered_dict ⟨_,pD,rfl⟩ ?_);show wpAny _ _ (pure (h'.objs.size,[Value.ref (⇑s1+4)])) _ _ _;calc AB ?_;show wpAny _ _ (Builtin.Dict.updateFrom "dict.__init__" h'.objs.size (.ref (⇑s1+4)) [] .none) _ _ _;erw[Builtin.Dict.updateFrom];calc AA (Co (T := "zip") ⟨_,hZ1,rfl⟩ ?_);rw[AD ()];refine AA (Zf hZ1 (~~~hA) λh2 tk k=>?_);let I4:Inv X zB Y (upd H1 h'.objs.size (IM isT)) { s1 with heap:=h2,toks:=tk }:=I3.kept (t':=tk) k;rw[AD (show (none:Option Value).isNone=true from rfl)];calc AA (BX ?_);let kk:∀ c o,h'.get? c=some o->h2.get? c=some o:=λc o e=>k c o (AH _ e);calc AA (Uj (s:={ s1 with heap:=h2,toks:=tk }) (kk _ _ Z.z) ?_);calc AB ⟨ED Ju _,?_⟩;let l4:⇑s1+4<h'.objs.size:=hz
   refine SD (b1:=b1) (b2:=b2) (xs:=its) (ys:=its2) (show X.A.in1.units+2<cLine from En (by show X.A.units+1+2<=_;omega) hu) (~~~hA) (zipApart_new d1 d2) (λm=>?_) P 0 0 _ I4 (λb hb=>?_)
    ⟨⟨.none,false,.inl rfl,kk _ _ Z.z⟩,kk _ _ Z.ti,let ⟨x,y,e⟩:=Z.to;⟨x,y,kk _ _ e⟩,Z.a.keep λo e=>kk _ o e,Z.b.keep λo e=>kk _ o e⟩ (p1.keep λo e=>kk _ o (kp _ o e)) (p2.keep λo e=>kk _ o (kp _ o e)) ⟨λm=>?_,λm=>?_⟩ (λi pr e=>?_) ?_ λs' I'=>⟨rfl,.ref h'.objs.size,H2,I',rfl,qq⟩
   .simp only[AJ,Aw,Ay]at m;rcases m with q|q|q|q|q|q|q <;> (have q':=BO (id:Nat->Nat) q;simp only[id]at q';omega)
   .have g:⇑s1<=b/\b<h'.objs.size:=by
     simp only[AJ,Aw,Ay]at hb;rcases hb with rfl|rfl|rfl|rfl
     .exact ⟨Dn _ 4,l4⟩
     .exact ⟨Dn _ 3,Nat.lt_of_succ_lt l4⟩
     .exact ⟨AF _,En (Dn _ 4) l4⟩
     .exact ⟨Dn _ 1,En (Nat.add_le_add_left () _) l4⟩
    let ff:=I1.fpOk g.1 (I1.hok.fresh g.1);exact ⟨by rw[zS (Ah g.2)];calc ff.1,ff.2⟩
   .simp only[AJ,Aw,Ay]at m;rcases m with q|q|q|q <;> (have q':=BO (id:Nat->Nat) q;simp only[id]at q';omega)
   .simp only[AJ,Aw,Ay]at m;rcases m with q|q|q|q <;> (have q':=BO (id:Nat->Nat) q;simp only[id]at q';omega)
   .obtain ⟨f1,f2⟩:=List.getElem?_zip_eq_some.mp e;let⟨u,hu',ru⟩:=rv.get f1;let⟨u2,hu2,ru2⟩:=rv2.get f2;exact ⟨u,u2,by rw[Nat.zero_add];calc hu',by rw[Nat.zero_add];calc hu2,ru,ru2⟩
   .rw[List.length_zip,Nat.zero_add,<-n1,<-n2];omega
end
def Gs (n:Nat):List (D × D)->Mem->Option Mem
 |[],M=>some M
 | (k,v)::ds,M=>match GK M n k v with
  |some M1=>Gs n ds M1
  |none=>none
def G0 (isT:Bool) (g:FA):FE:=λY M=>match g Y M with
 |some ([x,y],M1)=>match zr M1 (.dat x),zr M1 (.dat y) with
  |some xs,some ys=>match Gs M1.length (xs.zip ys) (M1++[LA isT]) with
   |some M2=>some (.dat (.ref M1.length),M2)
   |none=>none
  |_,_=>none
 |_=>none
theorem ND {K:Yb} {n:Nat} {p:Yt}:∀ {xs ys:List D} {L:Yg} {M M':Mem} {H:Hp} {us vs:List V},Cor K L M H->L[n]?=some p->zG L H xs us->zG L H ys vs->Gs n (xs.zip ys) M=some M' -> ∃ H',PutsP p (us.zip vs) H H'/\Cor K L M' H'/\Stp L H L H'
 |[],ys,L,M,M',H,us,vs,c,lp,r,r',e=>by
  erw[zG]at r;subst r;rw[List.zip_nil_left]at e;ext e;rw[List.zip_nil_left];calc ⟨H,.nil,c,.refl L H⟩
 |x::xs,[],L,M,M',H,us,vs,c,lp,r,r',e=>by
  erw[zG]at r';subst r';rw[List.zip_nil_right]at e;ext e;rw[List.zip_nil_right];calc ⟨H,.nil,c,.refl L H⟩
 |x::xs,y::ys,L,M,M',H,us,vs,c,lp,r,r',e=>by
  unfold zG at r r';let⟨u,us',rfl,r1,r2⟩:=r;let⟨v,vs',rfl,r3,r4⟩:=r';rw[List.zip_cons_cons]at e ⊢;erw[Gs]at e;cbv at e
  .rename_i M1 e1;let⟨H1,dp,c1,s1⟩:=Q5 c lp r1 r3 e1;let⟨H2,P,c2,s2⟩:=ND c1 lp (r2.stp s1) (r4.stp s1) e;exact ⟨H2,.cons dp P,c2,s1.trans s2⟩
  .cases e
section
variable {X:Cx} {a b:Expr} {p p2 pos pos2:Pos}
def Xv (isT:Bool) (hu:X.A.units+1+4<cLine) (hc:X.calm=true) (hgT:Gl X "dict") (hmT:X.mg "dict" = none) (hg:Gl X "zip") (hm:X.mg "zip" = none) (ha:QA X [a,b] g)
  (hs:starEach [a,b] X.env=[(false,eval a X.env),(false,eval b X.env)]:=by rfl) (hs2:starEach [b] X.env=[(false,eval b X.env)]:=by rfl)
  (hs':starEach [.Call (.Name "zip" p2) [a,b] [] pos2] X.env=(false,eval (.Call (.Name "zip" p2) [a,b] [] pos2) X.env)::starEach [] X.env:=by rfl) (hpl':(backTo pos (starEach [] X.env)).any (·.1)=false:=by rfl) :
  QE X (.Call (.Name "dict" p) [.Call (.Name "zip" p2) [a,b] [] pos2] [] pos) (G0 isT g):=.mk <| PE.imp (YX hu hc hgT hmT hg hm ha.un hs hs2 hs' hpl') λτ H Q zz=>by
 let⟨L,Y,M,d,M',c,rs,hf,q⟩:=zz;erw[G0]at hf;cbv at hf
 .rename_i x y M1 e1;cbv at hf
  .rename_i ds es' e2 e3;cbv at hf
   .rename_i M2 e4;ext hf;refine ⟨L,Y,M,_,_,c,rs,e1,λL1 H1 vs s1 c1 r1=>?_⟩;let⟨v,v',rfl,r2,r3⟩:=r1.two;let⟨b1,l1,rfl,_,k1⟩:=N1 c1 r2 e2;let⟨b2,l2,rfl,_,k2⟩:=N1 c1 r3 e3;let⟨ws1,g1,p1⟩:=k1 L1 H1 _ (.refl _ _) c1 e2;let⟨ws2,g2,p2⟩:=k2 L1 H1 _ (.refl _ _) c1 e3;refine ⟨b1,b2,l1,l2,ws1,ws2,isT,rfl,g1,g2,λp hp=>?_⟩;obtain ⟨c0,s0⟩:Cor X.K (L1++[p]) (M1++[LA isT]) (upd H1 p (IM isT))/\Stp L1 H1 (L1++[p]) (upd H1 p (IM isT)):=by
     cases isT with
     |true=>calc c1.pushO (m:=.dicT []) hp ⟨[],CY,rfl⟩
     |false=>exact c1.pushO (m:=.dict []) hp ⟨[],CY,rfl⟩
    let lp0:(L1++[p])[M1.length]?=some p:=by rw[<-c1.len];simp
    let⟨H2,P,c2,s2⟩:=ND c0 lp0 (p1.stp s0) (p2.stp s0) e4;calc ⟨H2,P,q _ _ _ ((s1.trans s0).trans s2) c2 ?_⟩;erw[zR,Rep];exact ⟨p,rfl,lp0⟩
   .cases hf
  .cases hf
 .cases hf
end
end L3
namespace L2
section
variable {X:Cx} {scope:Y0} {elt t1 i1 t2 i2:Expr} {f1 f2:Yi} {pos:Pos} {own own2:Yj} {wi wi2:TI} {g g2:TG} {tc tc2:TT} {te:TE}
def cZ (hN:X.N.Nodup) (hi':X.N[i]?=some x) (hx:Loc X.env.scope x) (hfn:X.fn x=true\/X.env.scope.names.lookup x=some .local)
  (hsub:∀ i∈own2,i∈own) (C:CompIn X scope own) (hcalm:X.calm=true) (hi:PI X t1 i1 wi) (p:CompParts2 X scope t1 f1 t2 i2 f2 elt g tc wi2 g2 tc2 te)
  (hsw:swapsWith (BM elt t1 i1 f1 t2 i2 f2 scope pos) (some (.Name x pos')) pos''.line X.env=pure true) (hs:∀ x,foldedSetIterable i1 X.env x=pure x:=by intro _;rfl) :
  PS X (.Assign [.Name x pos'] (BM elt t1 i1 f1 t2 i2 f2 scope pos) pos'') (Hf (Mp own own2 wi g tc wi2 g2 tc2 te) (Cq i)):=by
 intro zB s Y H D I h;let⟨cl,hcl,c1,c2⟩:=C.sc.closure I;rw[exec_Assign_Name_used _ _ _ _ hsw];calc AA (wpAny_standAt (AA ?_));show wpAny _ X.A (do let _ <- comprehension (BM elt t1 i1 f1 t2 i2 f2 scope pos) scope X.env _ (newList []) false (eval i1 X.env) (some (assign (.Name x pos') X.env))) _ _ s
 refine AA (An (wpAny_comprehension_free (use:=some (assign (.Name x pos') X.env)) (Q:=λ_ s'=>SP X zB D .next s') rfl hs hcl C.sc.kind C.sc.names
  (thn (hi zB s Y H _ I h) λv s1 h1=>thn h1 λitv s2 h2=>?_)) (λ_ s' hq=>AB (AB hq)) λ_ _ e=>e)
 let⟨it,fp,tn,J,H2,e,I2,T,st2,f2,W,⟨m0,w0⟩,turn⟩:=h2;subst e
 refine Pf hsub C hcalm I2 T st2 f2 c1 c2 (p.g _ _ _ _ _) (p.c _ _ _ _ _) (p.w2 _ _ _ _ _) (p.g2 _ _ _ _ _) (p.c2 _ _ _ _ _) (p.e _ _ _ _ _) (p.s2 _ _ _ _ _) (RR:=λacc C r s'=>compPost (model X.prog X.w) X.A X.xe (some (assign (.Name x pos') X.env)) (λ_ s'=>SP X zB D .next s') acc C r s')
  (QQ:=λys H=>∀ E,H E=none->Cq i (.ref E) Y (upd H E (.lst ys)) D.nx) w0 turn ?_
 intro σc H' s' its n ys Ic rv hz qq;let⟨m,hn,_⟩:=Ic.loc;let⟨J',nD⟩:=KG (h':=s'.heap) I2 f2 Ic rv hz (.refl ..);let⟨oC,es,ep,hoC,hdC,r1,r2⟩:=id hn;let nC:upd H' ⇑s2 (.lst ys) (⇑s2+1)=none:=by rw[zS (Ca (DU _))];exact Ic.free
 let K':Inv X (zB++[(⇑s2+1,oC)]) Y (upd H' ⇑s2 (.lst ys)) s':=J'.pins_of λq hq=>by
  rcases AR.mp hq with z|z
  .exact J'.pin q (BD _ z)
  .have e:q=(⇑s2+1,oC):=by simpa using z
   subst e;refine ⟨hoC,nC,Ca (C7 I2.lt),I2.nofs (CQ _),λv z=>?_⟩;let z':oC.data=.cell v:=z;rw[hdC]at z';ext z'
 show wpAny _ X.A (assign (.Name x pos') X.env (.ref ⇑s2)) _ _ _;refine thn (Ly hN hi' hx hfn _ s' Y _ (.ref ⇑s2) (.ref ⇑s2) _ K' rfl (qq _ nD)) λ_ s'' ⟨Y'',H'',I'',q''⟩=>?_;let⟨eC,_⟩:=I''.pin (⇑s2+1,oC) (by simp);refine ⟨m,⟨oC,es,ep,eC,hdC,r1,r2⟩,λh' hs'=>⟨Y'',H'',?_,q''⟩⟩;let I3:Inv X zB Y'' H'' s'':=I''.unpinned;let⟨_,nC'',neC,_,_⟩:=I''.pin (⇑s2+1,oC) (by simp);refine I3.turned (t':=s''.toks) (it:=⇑s2+1) (λb o hb e=>hs'.extBut b o hb e) nC'' neC (.inr (Ao I2.sz (CQ _))) (λx c e z=>?_) (λq hq z=>?_)
 .obtain ⟨v,o,ho,hd⟩:=I3.cell x c e;rw[z,eC]at ho;ext ho;rw[hdC]at hd;ext hd
 .obtain ⟨e,_⟩:=I2.pin q hq;calc Ah (C7 (AI e)) z
end
end L2
namespace L3
open L2
section
variable {X:Cx} {scope:Y0} {elt t1 i1 t2 i2:Expr} {f1 f2:Yi} {pos:Pos}
def SQ (hN:X.N.Nodup) (hi':X.N[i]?=some x) (hx:Loc X.env.scope x) (hfn:X.fn x=true\/X.env.scope.names.lookup x=some .local)
  (hsw:swapsWith (BM elt t1 i1 f1 t2 i2 f2 scope pos) (some (.Name x pos')) pos''.line X.env=pure true)
  (hsub:∀ i∈own2,i∈own) (hg:Dd own g fg) (hg2:Dd own2 g2 fg2) (C:CompIn X scope own) (hcalm:X.calm=true) (hi:QI X t1 i1 fi) (p:QParts2 X scope t1 f1 t2 i2 f2 elt g tc fi2 g2 tc2 te) (hs:∀ x,foldedSetIterable i1 X.env x=pure x:=by intro _;rfl) :
  QS X (.Assign [.Name x pos'] (BM elt t1 i1 f1 t2 i2 f2 scope pos) pos'') (AN i (EN own own2 fi fg tc fi2 fg2 tc2 te)) :=
 .mk <| PS.imp (cZ hN hi' hx hfn hsub C hcalm hi.un ⟨p.g,λzB cl s H fp=>(p.c zB cl s H fp).un,λzB cl s H fp=>(p.w2 zB cl s H fp).un,p.g2,λzB cl s H fp=>(p.c2 zB cl s H fp).un,λzB cl s H fp=>(DZ (p.e zB cl s H fp)).un,p.s2⟩ hsw hs) λ_ _ _ z=>MG (λ_ _ _ z=>RP hg hg2 z) z
end
end L3
namespace Law
open L2 L3
def KO:FS:=(zN (AN 1 (fOp zQ (fB AZ (zK (zC 0) zb)) (fC (.int 3))))
  (zN (B9 (AQ (fSl (zC 0) AY (Af (fC (.int 63))))) (gN 2) (AN 1 (fOp BW (fOp zQ (fOp zQ (fOp GY (zC 1) (fC (.int 6364136223846793))) (fOp BW (zC 2) (fOp GO (fC (.int 10)) (fC (.int 30))))) (fC (.int 1442695040888963))) (fC (.int 2305843009213693951)))))
  (Aa (Aq (zD (toD (Ar [2] (AQ (fSl (zC 0) AY (Af (fC (.int 63))))) (gN 2) (tst (fOp kGe (fB HQ (zK (zC 2) zb)) (fOp GO (fC (.int 10)) (fC (.int 18))))) (fB HQ (zK (zC 2) zb)))) (zD (toD (zC 1)) zF))))))
def Hj:FF:=BH 3 KO
def Ln:FS:=(zN (Cf (EE (tst (fOp kNe (fOp kIx (zC 0) (fC (.int 0))) (Aq zF))) (tst (fOp kEq (fOp kIx (fOp kIx (zC 0) (fC (.int 0))) (fC (.int 0))) (fC (.int 0))))) (BL (fM FN (fOp kIx (zC 0) (fC (.int 0))) (zD (toD (fC (.int 0))) zF))) 100)
  (zN (sIf (tst (fOp kNe (fOp kIx (zC 0) (fC (.int 0))) (Aq zF))) (zN (AN 2 (fOp BW (fOp kIx (fOp kIx (zC 0) (fC (.int 0))) (fC (.int 0))) (zC 1)))
  (zN (Fq (fOp GP (fOp kIx (fOp kIx (zC 0) (fC (.int 0))) (fC (.int 0))) (zC 1)) (fOp kIx (zC 0) (fC (.int 0))) (fC (.int 0)))
  (Aa (zC 2)))) BP)
  (zN (Fq (fOp BW (fOp zQ (fOp GY (fOp kIx (zC 0) (fC (.int 1))) (fC (.int 6364136223846793))) (fC (.int 1442695040888963))) (fC (.int 2305843009213693951))) (zC 0) (fC (.int 1)))
  (Aa (fOp BW (fOp GP (fOp BW (fOp GY (fOp kIx (zC 0) (fC (.int 1))) (fOp kIx (zC 0) (fC (.int 1)))) (fC (.int 2305843009213693921))) (fC (.int 65537))) (zC 1))))))
def zg:FF:=BH 3 Ln
structure Gen (M:Mem) (n k:Nat):Prop where
 ex:∃ (c:Ye) (s:Int),M[n]?=some (.lst [.ref k,.int s])/\M[k]?=some (.lst (c.map D.int))/\(∀ x∈c,0<=x)/\c.length<=63/\0<=s/\s<2305843009213693951
 ne:n≠k
 wf:∀ (j:Nat) u,M[j]?=some u->MO.und M.length u=true
structure Nx (M M':Mem) (n k:Nat):Prop where
 gen:Gen M' n k
 len:M'.length=M.length
 fr:∀ j,j≠n->j≠k->M'[j]?=M[j]?
def Nx.refl (h:Gen M n k):Nx M M n k:=⟨h,rfl,λ_ _ _=>rfl⟩
def Nx.trans {M M1 M2:Mem} {n k:Nat} (a:Nx M M1 n k) (b:Nx M1 M2 n k):Nx M M2 n k:=⟨b.gen,b.len.trans a.len,λj h1 h2=>(b.fr j h1 h2).trans (a.fr j h1 h2)⟩
theorem Dr (n:Nat):∀ c:List Int,D.unds n (c.map D.int)=true
 |[]=>rfl
 |x::r=>by
  show (D.und n (D.int x)&&D.unds n (r.map D.int))=true;rw[Dr n r];rfl
def Gen.lt (h:Gen M n k):n<M.length/\k<M.length:=by
 let⟨c,s,e1,e2,_⟩:=h.ex;calc ⟨(AK.mp e1).1,(AK.mp e2).1⟩
def Gen.put {M:Mem} (h:Gen M n k) {c:Ye} (hc:∀ x∈c,0<=x) (hl:c.length<=63) (h0:0<=s) (h1:s<2305843009213693951) :
  Nx M ((M.set k (.lst (c.map D.int))).set n (.lst [.ref k,.int s])) n k:=by
 let⟨hn,hk⟩:=h.lt;refine ⟨⟨⟨c,s,?_,?_,hc,hl,h0,h1⟩,h.ne,λj u e=>?_⟩,by simp,λj h1 h2=>?_⟩
 .rw[Br (~~~hn)]
 .rw[Bl h.ne,Br hk]
 .rw[C1,C1];rw[DN]at e;cbv at e
  .split at e
   .cases e;show D.unds _ _=true;erw[D.unds,D.unds,D.unds,D.und];simp[hk]
   .cases e
  .rw[DN]at e;cbv at e
   .rename_i z;subst z;ext e;exact Dr _ _
   .exact h.wf j u e
 .rw[Bl (Ne.symm h1),Bl (Ne.symm h2)]
def J7 {M:Mem} (h:M[k]?=some u):M.set k u=M:=by
 apply Fg;intro i;rw[DN];split
 .rename_i e;subst e;rw[AD (AK.mp h).1];exact h.symm
 .rfl
theorem Jv:∀ {a b:Ye},a.map D.int=b.map D.int->a=b
 |[],[],_=>rfl
 |[],_::_,h=>by ext h
 |_::_,[],h=>by ext h
 |x::a,y::b,h=>by
  rw[Ag,Ag]at h;let h1:=(List.cons.inj h).1;let h2:=Jv (List.cons.inj h).2;ext h1;rw[h2]
def at0 {x:D} {xs:List D}:atI (x::xs) 0=some x:=RL rfl
def at1 {x y:D} {xs:List D}:atI (x::y::xs) 1=some y:=RL rfl
def Zd (h:Gen M n k) (h0:0<m) (h1:m<1073741824) :
  Ok (zg [.ref n,.int m] M) λd M'=>(∃ i,d=.int i/\0<=i/\i<m)/\Nx M M' n k:=by
 erw[zg];rw[B3];erw[Ln];rw[zI];let st:∀ {M:Mem} {c:Ye} {s:Int} {Y:Sd} {P:EV->Mem->Prop},Y[0]?=some (some (.ref n))->M[n]?=some (.lst [.ref k,.int s])->P (.dat (.ref k)) M->Ok (fOp kIx (zC 0) (fC (.int 0)) Y M) P:=λhσ hM p=>
  Av.mpr (zm.mpr ⟨_,hσ,BA.mpr (Jq (zj hM) at0 p)⟩)
 let sd:∀ {M:Mem} {s:Int} {Y:Sd} {P:EV->Mem->Prop},Y[0]?=some (some (.ref n))->M[n]?=some (.lst [.ref k,.int s])->P (.dat (.int s)) M->Ok (fOp kIx (zC 0) (fC (.int 1)) Y M) P:=λhσ hM p=>
  Av.mpr (zm.mpr ⟨_,hσ,BA.mpr (Jq (zj hM) at1 p)⟩)
 let hd:∀ {M:Mem} {c:Ye} {x s:Int} {Y:Sd} {P:EV->Mem->Prop},Y[0]?=some (some (.ref n))->M[n]?=some (.lst [.ref k,.int s])->M[k]?=some (.lst ((x::c).map D.int))->P (.dat (.int x)) M->Ok (fOp kIx (fOp kIx (zC 0) (fC (.int 0))) (fC (.int 0)) Y M) P:=λ{M c x s Y P} hσ hM hK p=>
  Av.mpr (st (c:=c) hσ hM (BA.mpr (Jq (zj hK) at0 p)))
 let ne:∀ {M:Mem} {c:Ye} {s:Int} {Y:Sd} {P:Bool->Mem->Prop},Y[0]?=some (some (.ref n))->M[n]?=some (.lst [.ref k,.int s])->M[k]?=some (.lst (c.map D.int))->P (!c.isEmpty) M->Ok (tst (fOp kNe (fOp kIx (zC 0) (fC (.int 0))) (Aq zF)) Y M) P:=λ{M c s Y P} hσ hM hK p=>by
  calc Jz.mpr (Av.mpr (st (c:=c) hσ hM (F6.mpr (Ek.mpr ⟨BK _,?_⟩))));rw[UI (Dm hK) (by intro d e;ext e;rfl)];rw[Fl];simpa using p
 let W:∀ (fuel m':Nat) (Y:Sd) (M':Mem),m'<fuel->((Y=[some (.ref n),some (.int m),none]/\Nx M M' n k) /\ ∃ (c:Ye) (s:Int),M'[n]?=some (.lst [.ref k,.int s])/\M'[k]?=some (.lst (c.map D.int))/\c.length=m') ->
   OkS (Cf (EE (tst (fOp kNe (fOp kIx (zC 0) (fC (.int 0))) (Aq zF))) (tst (fOp kEq (fOp kIx (fOp kIx (zC 0) (fC (.int 0))) (fC (.int 0))) (fC (.int 0))))) (BL (fM FN (fOp kIx (zC 0) (fC (.int 0))) (zD (toD (fC (.int 0))) zF))) fuel Y M')
    (λo σ1 M1=>o=.nx/\σ1=[some (.ref n),some (.int m),none]/\Nx M M1 n k):=by
  intro fuel m' Y M' hlt hI;refine Ho (I:=λm' Y M'=>(Y=[some (.ref n),some (.int m),none]/\Nx M M' n k) /\ ∃ (c:Ye) (s:Int),M'[n]?=some (.lst [.ref k,.int s])/\M'[k]?=some (.lst (c.map D.int))/\c.length=m') ?_ fuel m' Y M' hlt hI;rintro m' Y M' ⟨⟨rfl,nx⟩,c,s,e1,e2,hl⟩;calc aE.mpr (ne rfl e1 e2 ?_);cases c with
  |nil=>simp;calc nx
  |cons x c=>
   simp only[List.isEmpty_cons,Bool.not_false,if_true];calc Jz.mpr (Av.mpr (hd rfl e1 e2 (BA.mpr (LD.mpr (Fl.mpr ?_)))));by_cases hx:x=0
   .rw[AD (~~~hx)];refine Em.mpr (Ea.mpr (st (c:=c) rfl e1 ⟨⟨_,Dm e2⟩,DI.mpr (Bu.mpr (BA.mpr (zJ.mpr (Ek.mpr ?_))))⟩));rw[Ag]at e2;rw[jC e2];refine ⟨c.length,by rw[<-hl];simp,?_⟩;let⟨c',s',z1,z2,z3,z4,z5,z6⟩:=nx.gen.ex;rw[e1]at z1;ext z1;rw[e2]at z2;let hcc:c'=x::c:=by
     have:(x::c).map D.int=c'.map D.int:=by have:=z2;simp only[Option.some.injEq,MO.lst.injEq]at this;simpa using this
     exact (Jv this).symm
    subst hcc;let P:=nx.gen.put (c:=c) (s:=s) (λy hy=>z3 y (BF _ hy)) (by simp at z4;omega) z5 z6;let q:((M'.set k (.lst (c.map D.int))).set n (.lst [.ref k,.int s]))=M'.set k (.lst (c.map D.int)):=J7 (by rw[Bl (Ne.symm nx.gen.ne)];calc e1);rw[q]at P;let hk:=nx.gen.lt.2;refine ⟨⟨rfl,nx.trans P⟩,c,s,?_,?_,rfl⟩
    .rw[Bl (Ne.symm nx.gen.ne)];exact e1
    .rw[Br hk]
   .rw[AE (~~~hx)];first|exact ⟨rfl,rfl,nx⟩|exact ⟨trivial,trivial,nx⟩|simpa using nx
 let⟨c,s,e1,e2,e3,e4,_⟩:=h.ex;calc OkS.mono (W 100 c.length _ M () ⟨⟨rfl,.refl h⟩,c,s,e1,e2,rfl⟩) ?_;rintro o Y M1 ⟨rfl,rfl,nx⟩;rw[zM,zI,ET];let⟨c,s,e1,e2,e3,e4,e5,e6⟩:=nx.gen.ex;calc ne rfl e1 e2 ?_;cases c with
 |nil=>
  simp only[List.isEmpty_nil,Bool.not_true,CL,B6];rw[Fe,zM,zI,MV];refine Av.mpr (Av.mpr (Av.mpr (sd rfl e1 (BA.mpr (JD.mpr ⟨by simp[GQ] <;> omega,BA.mpr (Eo.mpr (BA.mpr (F8.mpr ⟨(),?_⟩)))⟩)))));rw[zJ];calc zm.mpr ⟨_,rfl,BA.mpr ?_⟩;rw[zJ];let hs0:0<=(s*6364136223846793+1442695040888963) % 2305843009213693951:=Int.emod_nonneg _ ();let hs1:(s*6364136223846793+1442695040888963) % 2305843009213693951<2305843009213693951:=FJ _ ();generalize (s*6364136223846793+1442695040888963) % 2305843009213693951=s' at hs0 hs1;let P:=nx.gen.put (c:=[]) (λ_ h=>by ext h) (by simp) hs0 hs1;rw[J7 (show M1[k]?=some (.lst (([]:List Int).map D.int))from e2)]at P;calc ⟨_,QN (k:=1) e1 (by simp),?_⟩;rw[zM,Ey];let e1':(M1.set n (.lst [.ref k,.int s']))[n]?=some (.lst [.ref k,.int s']):=Br nx.gen.lt.1;refine Av.mpr (Av.mpr (Av.mpr (Av.mpr (sd rfl e1' (sd rfl e1' (JD.mpr ⟨by simp[GQ] <;> omega,BA.mpr (F8.mpr ⟨(),BA.mpr (Kl.mpr ⟨(),zm.mpr ⟨_,rfl,F8.mpr ⟨h0,?_⟩⟩⟩)⟩)⟩))))));rw[zJ];calc ⟨⟨_,rfl,Int.emod_nonneg _ (),FJ _ h0⟩,nx.trans P⟩
 |cons x c=>
  simp only[List.isEmpty_cons,Bool.not_false,if_true];rw[zI,zc];refine Av.mpr (hd rfl e1 e2 (zm.mpr ⟨_,rfl,F8.mpr ⟨h0,?_⟩⟩));rw[zJ,zM,zI,MV];refine Av.mpr (hd rfl e1 e2 (zm.mpr ⟨_,rfl,Kl.mpr ⟨⟨h0,h1⟩,?_⟩⟩));rw[zJ];refine st (c:=c) rfl e1 (BA.mpr ?_);rw[zJ];refine ⟨_,QN (k:=0) e2 (by simp),?_⟩;rw[zM,Ey];refine zm.mpr ⟨_,rfl,?_⟩;rw[zJ,VN];let hx:=e3 x Ax;let P:=nx.gen.put (c:=(x / m)::c) (λy hy=>by
   rcases AJ.mp hy with z|z
   .subst z;exact Int.ediv_nonneg hx ()
   .exact e3 y (BF _ z)) (~~~e4) e5 e6
  rw[J7 (by rw[Bl (Ne.symm nx.gen.ne)];calc e1)]at P;calc ⟨⟨_,rfl,Int.emod_nonneg _ (),FJ _ h0⟩,nx.trans P⟩
def NU (ns:Ye) (lo hi:Ys):∃ c:List Int,L3.Bw (ns.map D.int) lo hi=c.map D.int/\c.length<=ns.length:=by
 refine ⟨(ns.drop (HT.sIx ns.length 0 lo)).take (HT.sIx ns.length ns.length hi-HT.sIx ns.length 0 lo),?_,?_⟩
 .unfold L3.Bw;rw[AG,List.map_take,List.map_drop]
 .rw[Bg,Dh];omega
def QB (h:x::r=c.map D.int):∃ y c',c=y::c'/\x=.int y/\r=c'.map D.int:=by
 cases c with
 |nil=>ext h
 |cons y c'=>rw[Ag]at h;calc ⟨y,c',rfl,(List.cons.inj h).1,(List.cons.inj h).2⟩
def C5:Bv none xs M:=trivial
def zh (h:n<=100000):n<=sizeLine:=Ao h ()
def Ri {ns:Ye} (h:ns.length<=63):Ok (Hj [.ref 0] [.fro (ns.map D.int)]) λd M'=>d=.ref 2/\Gen M' 2 1/\M'[0]?=some (.fro (ns.map D.int))/\M'.length=3:=by
 erw[Hj];rw[B3];erw[KO];let e0:([.fro (ns.map D.int)]:Mem)[0]?=some (.fro (ns.map D.int)):=rfl;let⟨cut,ec,lc⟩:=NU ns none (some 63);let sl:∀ {Y:Sd} {P:EV->Mem->Prop},Y[0]?=some (some (.ref 0))->P (.fl (cut.map D.int)) [.fro (ns.map D.int)]->Ok (fSl (zC 0) AY (Af (fC (.int 63))) Y [.fro (ns.map D.int)]) P:=λhσ p=>by
  calc PQ.mpr (zm.mpr ⟨_,hσ,Px.mpr (RW.mpr (BA.mpr (OD.mpr ?_)))⟩);rw[RD (Mu e0) rfl,ec];exact p
 rw[zI,zc];calc Av.mpr (He.mpr (IP.mpr (zm.mpr ⟨_,rfl,Hg.mpr ((Qn (SW e0)).mpr (BA.mpr (Eo.mpr ?_)))⟩)));rw[zJ,zM,zI,Du];let⟨x,M1,ex,px⟩:=sl (Y:=[some (.ref 0),some (.int (((ns.map D.int).length:Int)+3)),none]) (P:=λx M=>x=.fl (cut.map D.int)/\M=[.fro (ns.map D.int)]) rfl ⟨rfl,rfl⟩;let⟨rfl,rfl⟩:=px;calc ⟨_,_,_,Fc ex De,?_⟩;refine Iw (I:=λr Y M=>M=[.fro (ns.map D.int)]/\(∃ c:List Int,r=c.map D.int) /\ ∃ s y,Y=[some (.ref 0),some (.int s),y]/\0<=s/\s<2305843009213693951) ?_ ?_ _ _ _ ⟨rfl,⟨cut,rfl⟩,_,none,rfl,by simp;omega,by simp;omega⟩
 .rintro x r Y M ⟨rfl,⟨c,hc⟩,s,y,rfl,h0,h1⟩;let⟨z,c',rfl,rfl,rfl⟩:=QB hc;calc ⟨C5,_,rfl,?_⟩;rw[zc];calc Av.mpr (Av.mpr (Av.mpr (Av.mpr (zm.mpr ⟨_,rfl,BA.mpr (JD.mpr ⟨by simp[GQ],?_⟩)⟩))));calc Av.mpr (zm.mpr ⟨_,rfl,Av.mpr (BA.mpr (BA.mpr (Kh.mpr ⟨(),F8.mpr ⟨(),Eo.mpr (BA.mpr (Eo.mpr (BA.mpr (F8.mpr ⟨(),?_⟩))))⟩⟩)))⟩);rw[zJ];exact ⟨rfl,⟨c',rfl⟩,_,_,rfl,Int.emod_nonneg _ (),FJ _ ()⟩
 .rintro Y M ⟨rfl,_,s,y,rfl,h0,h1⟩;refine ⟨C5,?_⟩;rw[zM,Ey,F6,DI,Bu,F7];let⟨x,M1,ex,px⟩:=sl (Y:=[some (.ref 0),some (.int s),y]) (P:=λx M=>x=.fl (cut.map D.int)/\M=[.fro (ns.map D.int)]) rfl ⟨rfl,rfl⟩;let⟨rfl,rfl⟩:=px;refine ⟨_,_,_,Fc ex De,by rw[AG];exact zh (),?_⟩;refine Ok.mono (Gu (I:=λr acc M=>M=[.fro (ns.map D.int)]/\(∃ c:List Int,r=c.map D.int)/\r.length+acc.length<=63 /\ ∃ b:List Int,acc=b.map D.int /\ ∀ x∈b,0<=x) (Q:=λacc M=>M=[.fro (ns.map D.int)]/\acc.length<=63 /\ ∃ b:List Int,acc=b.map D.int /\ ∀ x∈b,0<=x) ?_ ?_ _ [] _ ⟨rfl,⟨cut,rfl⟩,by simp;omega,[],rfl,λ_ h=>by ext h⟩) ?_
  .rintro x r acc M ⟨rfl,⟨c,hc⟩,hl,b,rfl,hb⟩;let⟨z,c',rfl,rfl,rfl⟩:=QB hc;refine ⟨C5,_,rfl,?_⟩;refine Jz.mpr (Av.mpr (He.mpr (IP.mpr (zm.mpr ⟨_,rfl,Hg.mpr (RQ.mpr (Av.mpr (BA.mpr (BA.mpr (Kh.mpr ⟨(),Xf.mpr (Fl.mpr ?_)⟩)))))⟩))));by_cases hz:(10:Int) ^ (18:Int).toNat<=(if z<0 then -z else z)
   .rw[AD (~~~hz)];refine He.mpr (IP.mpr (zm.mpr ⟨_,rfl,Hg.mpr (RQ.mpr (zJ.mpr ⟨rfl,⟨c',rfl⟩,?_,b++[if z<0 then -z else z],by simp,?_⟩))⟩))
    .simp at hl ⊢;omega
    .intro y hy;rcases AR.mp hy with q|q
     .exact hb y q
     .have:y=if z<0 then -z else z:=by simpa using q
      rw[this];split <;> omega
   .rw[AE (~~~hz)];exact ⟨rfl,⟨c',rfl⟩,by simp at hl ⊢;omega,b,rfl,hb⟩
  .rintro acc M ⟨rfl,_,hl,hb⟩;exact ⟨C5,rfl,by simpa using hl,hb⟩
  .rintro ys M ⟨rfl,hl,b,hb,hp⟩;rw[List.nil_append]at hb hl;subst hb;rw[RA,DI,Bu,zm];calc ⟨_,rfl,?_⟩;rw[zJ,Ek];calc ⟨zh (by simp),?_⟩;rw[RA];calc ⟨rfl,⟨⟨b,s,rfl,rfl,hp,by simpa using hl,h0,h1⟩,(),?_⟩,rfl,rfl⟩;intro j u e;match j,e with
   |0,e=>ext e;calc Dr _ _
   |1,e=>ext e;calc Dr _ _
   |2,e=>ext e;rfl
   |j+3,e=>simp at e
mutual
theorem ID (h:a<=b):∀ {d:D},D.und a d=true->D.und b d=true
 |.non,_=>by erw[D.und];rfl
 |.bl _,_=>by erw[D.und];rfl
 |.int _,_=>by erw[D.und];rfl
 |.str _,_=>by erw[D.und];rfl
 |.tup ds,e=>by unfold D.und at e ⊢;calc GV h e
 |.fn _ ds,e=>by unfold D.und at e ⊢;calc GV h e
 |.ref k,e=>by unfold D.und at e ⊢;simp at e ⊢;omega
theorem GV (h:a<=b):∀ {ds:List D},D.unds a ds=true->D.unds b ds=true
 |[],_=>by erw[D.unds];rfl
 |d::ds,e=>by
  unfold D.unds at e ⊢;rw[BE]at e ⊢;calc ⟨ID h e.1,GV h e.2⟩
end
def a8 (h:a<=b) (e:MO.und a u=true):MO.und b u=true:=by
 cases u with
 |lst xs=>calc GV h e
 |fro xs=>calc GV h e
 |set xs=>calc GV h e
 |dict kvs|dicT kvs|froT kvs|froK kvs=>
  unfold MO.und at e ⊢;rw[Ap]at e ⊢;intro p hp;have:=e p hp;rw[BE]at this ⊢;calc ⟨ID h this.1,ID h this.2⟩
theorem RF:∀ {xs ys:List D},D.unds n (xs++ys)=(D.unds n xs&&D.unds n ys)
 |[],ys=>by simp[D.unds]
 |x::xs,ys=>by
  show (D.und n x&&D.unds n (xs++ys))=((D.und n x&&D.unds n xs)&&D.unds n ys);rw[RF,Bool.and_assoc]
theorem zw:∀ {xs:List D},(∀ x∈xs,D.und n x=true)->D.unds n xs=true
 |[],_=>rfl
 |x::xs,h=>by
  show (D.und n x&&D.unds n xs)=true;rw[h x Ax,zw λy hy=>h y (BF _ hy)];rfl
def GN (c:Ye):D.und n (.tup (c.map D.int))=true:=by erw[D.und];calc Dr n c
def Gen.app (h:Gen A n k) (hu:∀ u∈us,MO.und (A.length+us.length) u=true):Gen (A++us) n k:=by
 let⟨c,s,e1,e2,r⟩:=h.ex;let⟨hn,hk⟩:=h.lt;refine ⟨⟨c,s,by rw[Bf hn];calc e1,by rw[Bf hk];calc e2,r⟩,h.ne,λj u e=>?_⟩;rw[AV];by_cases hj:j<A.length
 .rw[Bf hj]at e;exact a8 () (h.wf j u e)
 .rw[Ee ()]at e;calc hu u (CM e)
def DP (h:Gen M n k) (ha:fa Y M=some (.dat (.ref n),M)) (hb:fb Y M=some (.dat (.int m),M)) (h0:0<m) (h1:m<1073741824)
  (q:∀ i M',0<=i->i<m->Nx M M' n k->P (.dat (.int i)) M'):Ok (ze zg (zD (toD fa) (zD (toD fb) zF)) Y M) P:=by
 rw[IC,DI,Bu];calc ⟨_,_,ha,?_⟩;rw[zJ,DI,Bu];calc ⟨_,_,hb,?_⟩;rw[zJ,Ek];calc Ok.mono (Zd h h0 h1) ?_;intro d M' hI;refine qz λG=>?_;let⟨⟨i,eI1,i0,i1⟩,nx⟩:=hI;calc G ?_;clear G;subst eI1;calc q i M' i0 i1 nx
def D5 (i:Nat):Nat->List D
 |0=>[]
 |n+1=> .int i::D5 (i+1) n
def Tn (n:Nat):∀ i,((List.range' i n).map λ(k:Nat)=>D.int k)=D5 i n:=by
 induction n with
 |zero=>intro i;rfl
 |succ n ih=>intro i;rw[List.range'_succ,Ag,ih];rfl
def fA (n:Nat):((List.range n).map λ(k:Nat)=>D.int k)=D5 0 n:=by rw[List.range_eq_range',Tn]
theorem Jk:∀ (n i:Nat),(D5 i n).length=n
 |0,_=>rfl
 |n+1,i=>by show (D5 (i+1) n).length+1=_;rw[Jk n]
def Hv (n:Nat) (I:Nat->Sd->Mem->Prop)
  (hs:∀ i Y M,i<n->I i Y M -> ∃ σ1,g (.int i) Y=some σ1/\OkS (b σ1 M) λo σ2 M2=>match o with|.nx=>I (i+1) σ2 M2|.cnt=>I (i+1) σ2 M2|.brk=>P .nx σ2 M2|.ret d=>P (.ret d) σ2 M2)
  (he:∀ Y M,I n Y M->P .nx Y M) (Y:Sd) (M:Mem) (h0:I 0 Y M):OkS (DJ g b all none (D5 0 n) Y M) P:=by
 refine Iw (I:=λr Y M=>∃ i,i<=n/\r=D5 i (n-i)/\I i Y M) ?_ ?_ _ _ _ ⟨0,BK _,by simp,h0⟩
 .intro x r Y M hI;refine qz λG=>?_;let⟨i,hi,e,hI⟩:=hI;refine G ?_;clear G;let hlt:i<n:=by
   rcases Nat.lt_or_ge i n with z|z
   .exact z
   .rw[show n-i=0 by omega]at e;ext e
  rw[show n-i=(n-(i+1))+1 by omega]at e;let⟨rfl,rfl⟩:=List.cons.inj e;let⟨σ1,e1,q⟩:=hs i Y M hlt hI;calc ⟨C5,σ1,e1,OkS.mono q ?_⟩;intro o σ2 M2 z;cases o with
  |nx=>calc ⟨i+1,hlt,rfl,z⟩
  |cnt=>calc ⟨i+1,hlt,rfl,z⟩
  |brk=>calc z
  |ret d=>exact z
 .intro Y M hI;refine qz λG=>?_;let⟨i,hi,e,hI⟩:=hI;refine G ?_;clear G;have:i=n:=by
   rcases Nat.lt_or_ge i n with z|z
   .rw[show n-i=(n-(i+1))+1 by omega]at e;ext e
   .omega
  subst this;calc ⟨C5,he Y M hI⟩
def Ky (n:Nat) (I:Nat->List D->Mem->Prop)
  (hs:∀ i acc M,i<n->I i acc M -> ∃ σ1,g (.int i) Y=some σ1/\Ok (te σ1 M) (Dq λd M2=>I (i+1) (acc++[d]) M2)) (h0:I 0 [] M) :
  Ok (BV g Ab te Y all none (D5 0 n) M) λys M1=>I n ys M1:=by
 refine Ok.mono (Gu (I:=λr acc M=>∃ i,i<=n/\r=D5 i (n-i)/\I i acc M) (Q:=λacc M=>I n acc M) ?_ ?_ _ [] _ ⟨0,BK _,by simp,h0⟩) λys M1 q=>by simpa using q
 .intro x r acc M hI;refine qz λG=>?_;let⟨i,hi,e,hI⟩:=hI;refine G ?_;clear G;let hlt:i<n:=by
   rcases Nat.lt_or_ge i n with z|z
   .exact z
   .rw[show n-i=0 by omega]at e;ext e
  rw[show n-i=(n-(i+1))+1 by omega]at e;let⟨rfl,rfl⟩:=List.cons.inj e;let⟨σ1,e1,q⟩:=hs i acc M hlt hI;calc ⟨C5,σ1,e1,Of.mpr ?_⟩;rw[AD rfl];calc Ok.mono q ?_;intro x M2 z;cases x with
  |dat d=>calc ⟨i+1,hlt,rfl,z⟩
  |fl xs=>exact ⟨i+1,hlt,rfl,z⟩
 .intro acc M hI;refine qz λG=>?_;let⟨i,hi,e,hI⟩:=hI;refine G ?_;clear G;have:i=n:=by
   rcases Nat.lt_or_ge i n with z|z
   .rw[show n-i=(n-(i+1))+1 by omega]at e;ext e
   .omega
  subst this;calc ⟨C5,hI⟩
def Fj (e:f Y M=some (.dat (.int j),M)) (h1:0<=j) (h2:j<2 ^ 62):Bx (zD (toD f) zF) Y M=some (D5 0 j.toNat,none,M):=by
 let e':(zD (toD f) zF) Y M=some ([.int j],M):=by erw[zD,toD,zF];rw[e]
 rw[XU e' h1 h2,fA]
def mD (zA:Ya):D:=.tup (zA.map λr=> .tup (r.map D.int))
structure IsM (zA:Ya) (l:Nat):Prop where
 r0:0<zA.length
 l0:0<l
 row:∀ r∈zA,r.length=l /\ ∀ g∈r,0<=g/\g<zA.length
def MK (zA:Ya):D.und n (mD zA)=true:=by
 erw[mD,D.und];refine zw λx hx=>?_;let⟨r,_,rfl⟩:=AU.mp hx;calc GN r
def zY {α:Type} {x:Option (α × Mem)} {a:α} {M:Mem} (h:Ok x λb M'=>b=a/\M'=M):x=some (a,M):=by
 let⟨b,M',e,rfl,rfl⟩:=h;calc e
def zH {α:Type} {x:Option (α × Mem)} {a:α} {M:Mem} {P:α->Mem->Prop} (h:x=some (a,M)) (p:P a M):Ok x P:=⟨a,M,h,p⟩
def Ef {c:FT} {a g:FS} {Y:Sd} {M:Mem} {P:Out->Sd->Mem->Prop} (hc:c Y M=some (false,M)) (h:OkS (g Y M) P):OkS (zN (sIf c a BP) g Y M) P:=by
 rw[zI,ET];calc zH hc ?_;rw[AE (),Fe];calc h
def TB {c:FT} {a:FS} {Y:Sd} {M:Mem} {P:Out->Sd->Mem->Prop} (hc:c Y M=some (false,M)) (h:P .nx Y M):OkS (sIf c a BP Y M) P:=by
 rw[ET];calc zH hc ?_;rw[AE (),Fe];calc h
def Bk {f:FE} {Y:Sd} {M M':Mem} {k:Bool} (h:f Y M=some (.dat (.bl k),M')):CF (tst f) Y M=some (!k,M'):=by
 erw[CF,tst];rw[h]
def Ej {f:FE} {Y:Sd} {M:Mem} {d:D} (h:f Y M=some (.dat d,M)):zi (zD (toD f) zF) Y M=some (.dat (.tup [d]),M):=by
 erw[zi,zD,toD,zF];rw[h];dsimp only;rw[AD (zh (by simp))]
def zU {f:FE} {Y:Sd} {M:Mem} {d:D} (h:f Y M=some (.dat d,M)):zD (toD f) zF Y M=some ([d],M):=by
 erw[zD,toD,zF];rw[h]
def zL {f:FE} {g:FA} {Y:Sd} {M:Mem} {d:D} {ds:List D} (h:f Y M=some (.dat d,M)) (hg:g Y M=some (ds,M)):zD (toD f) g Y M=some (d::ds,M):=by
 erw[zD,toD];rw[h];dsimp only;rw[hg]
def BZ {m:FF} {a:FA} {Y:Sd} {M M':Mem} {ds:List D} {d:D} (h:a Y M=some (ds,M)) (hm:m ds M=some (d,M')):ze m a Y M=some (.dat d,M'):=by
 erw[ze];rw[h];dsimp only;rw[hm]
def zE {k:K2} {f g:FE} {Y:Sd} {M:Mem} {x y:EV} {r:Option (EV × Mem)} (hf:f Y M=some (x,M)) (hg:g Y M=some (y,M)) (hk:k x y M=r):fOp k f g Y M=r:=by
 erw[fOp];rw[hf];dsimp only;rw[hg];calc hk
def D4 {x:EV} {xs:List D} {i:Int} {d:D} {M:Mem} (h:zr M x=some xs) (hd:atI xs i=some d):kIx x (.dat (.int i)) M=some (.dat d,M):=zY (Jq h hd ⟨rfl,rfl⟩)
def FL {f:FE} {x:EV} {xs:List D} {Y:Sd} {M:Mem} (hf:f Y M=some (x,M)) (h:zr M x=some xs):fB AZ (zK f zb) Y M=some (.dat (.int xs.length),M):=by
 erw[fB,zK,zb];rw[hf];calc zY ((Qn h).mpr ⟨rfl,rfl⟩)
def V3 {zA:Ya} {h:Int} (h0:0<=h) (h1:h<zA.length):atI (zA.map λr=>D.tup (r.map D.int)) h=some (.tup ((zA.getD h.toNat []).map D.int)):=by
 calc Og h0 ?_;rw[AW,By,AM ()];rfl
def Mv {r:Ye} {g:Int} (h0:0<=g) (h1:g<r.length):atI (r.map D.int) g=some (.int (r.getD g.toNat 0)):=by
 calc Og h0 ?_;rw[AW,By,AM ()];rfl
def IsM.get {zA:Ya} {l:Nat} (m:IsM zA l) {h:Int} (h0:0<=h) (h1:h<zA.length):(zA.getD h.toNat []).length=l /\ ∀ g∈zA.getD h.toNat [],0<=g/\g<zA.length:=by
 calc m.row _ ?_;rw[By,AM ()];calc Bd _
def T3 {Y:Sd} {M:Mem} {ns:Ye} {j:Nat} {i:Int} (hσ:Y[i.toNat]?=Y[i.toNat]?) (hi:zC j Y M=some (.dat (.ref 0),M)) (h0:M[0]?=some (.fro (ns.map D.int))):∃ c:List Int,fSl (zC j) AY (Af (fC (.int i))) Y M=some (.fl (c.map D.int),M)/\c.length<=ns.length:=by
 let⟨c,ec,lc⟩:=NU ns none (some i);calc ⟨c,zY (PQ.mpr (zH hi (Px.mpr (RW.mpr (BA.mpr (OD.mpr ?_)))))),lc⟩;rw[RD (Mu h0) rfl,ec];calc ⟨rfl,rfl⟩
def IK (hf:f Y M=some (x,M)) (ht:DE M x=some t):D9 T f Y M=some (.dat (.bl (isT t T)),M):=by
 erw[D9];rw[hf];dsimp only;rw[ht]
def BJ (h:f Y M=some (.dat (.bl k),M')):tst f Y M=some (k,M'):=by erw[tst];rw[h]
def isV (hf:f Y M=some (x,M)) (ht:DE M x=some t) (h:isT t T=k):D9 T f Y M=some (.dat (.bl k),M):=by
 rw[IK hf ht,h]
def Cm (hc:c Y M=some (true,M)) (h:OkS (a Y M) (nxP (λσ1 M1=>OkS (g σ1 M1) P) P)):OkS (zN (sIf c a b) g Y M) P:=by
 rw[zI,ET];calc zH hc ?_;rw[AD rfl];calc h
def Bp (hf:f Y M=some (.dat d,M)) (h:P (.ret d) Y M):OkS (Aa f Y M) P:=by
 rw[Ey];calc zH hf h
def Eh {α:Type} (as:List α) (enc out:α->D) (hi:fi Y M=some (as.map enc,gd,M)) (hgd:Bv gd (as.map enc) M) (hz:as.length<=100000)
  (he:∀ a∈as,∃ σ1,g (enc a) (Cd own Y)=some σ1/\te σ1 M=some (.dat (out a),M)):Ar own fi g Ab te Y M=some (.fl (as.map out),M):=by
 calc zY (F7.mpr ⟨_,_,_,hi,by rw[AG];calc zh hz,?_⟩);refine Ok.mono (Gu (I:=λr acc M'=>M'=M /\ ∃ ra rb:List α,as=rb++ra/\r=ra.map enc/\acc=rb.map out) (Q:=λacc M'=>M'=M/\acc=as.map out) ?_ ?_ _ [] _ ⟨rfl,as,[],rfl,rfl,rfl⟩) ?_
 .rintro x r acc M' ⟨rfl,ra,rb,hab,hr,rfl⟩;cases ra with
  |nil=>ext hr
  |cons a ra=>
   rw[Ag]at hr;let⟨rfl,rfl⟩:=List.cons.inj hr;let⟨σ1,e1,e2⟩:=he a (by rw[hab];simp);calc ⟨hgd,σ1,e1,Of.mpr ?_⟩;rw[AD rfl];calc zH e2 ?_;rw[zJ];exact ⟨rfl,ra,rb++[a],by rw[hab];simp,rfl,by simp⟩
 .rintro acc M' ⟨rfl,ra,rb,hab,hr,rfl⟩;cases ra with
  |nil=>rw[DO]at hab;subst hab;calc ⟨hgd,rfl,rfl⟩
  |cons a ra=>ext hr
 .rintro ys M' ⟨rfl,h⟩;rw[List.nil_append]at h;subst h;calc ⟨rfl,rfl⟩
def Fb (hf:f Y M=some (x,M)) (h:zr M x=some xs):fB CC (zK f zb) Y M=some (.dat (.tup xs),M):=by
 erw[fB,zK,zb];rw[hf];calc zY ((QF h).mpr ⟨rfl,rfl⟩)
def Cw (hf:f Y M=some (.dat (.tup xs),M)):AQ f Y M=some (xs,none,M):=Fc hf CT
def Eu (hf:f Y M=some (.dat d,M)) (h:OkS (g (Y.set i (some d)) M) P):OkS (zN (AN i f) g Y M) P:=by
 rw[zI,zc];exact zH hf h
open ST
def ris (xs:Ye):List Int:=zu (za xs)
def WJ (xs:Ye) (x:Int):x∈ris xs ↔ x∈xs:=by
 erw[ris];rw[(EO _).mem_iff,J9]
def Zz (xs:Ye):(ris xs).Pairwise (· < ·):=by
 let h1:=Ha (za xs);let h2:(ris xs).Nodup:=(EO _).nodup_iff.mpr (N5 xs);unfold ris at h2 ⊢;exact (h1.and h2).imp λ{a b} h=>by have:=h.1;have:=h.2;omega
def Nq (xs:Ye):(ris xs).length<=xs.length:=by
 erw[ris];rw[(EO _).length_eq];calc JU xs
def VO (h:f Y M=some (x,M)) (hx:zr M x=some (ks.map D.int)) (hz:(za ks).length<=4000):Dz f Y M=some (za ks,M):=by
 erw[Dz];rw[h];dsimp only;rw[hx];dsimp only;rw[HA];dsimp only;rw[AD (by erw[scanBound];omega)]
def K0 (h:f Y M=some (x,M)) (hx:zr M x=some (ks.map D.int)) (hz:ks.length<=4000):Dz f Y M=some (za ks,M):=VO h hx (Ao (JU ks) hz)
def hJ (h:fz Y M=some (za ks,M)) (hz:(za ks).length<64):Gm fz Y M=some (.fl ((ris ks).map D.int),M):=by
 erw[Gm];rw[h];dsimp only;rw[AD hz];rfl
structure IsS (zA:Ya) (S:Ye):Prop where
 pw:S.Pairwise (· < ·)
 n0:0<S.length
 mem:∀ x∈S,0<=x/\x<(zA.length:Int)
theorem Mx:∀ {S:Ye} {a:Int} {n:Nat},S.Pairwise (· < ·)->(∀ x∈S,a<=x/\x<a+(n:Int))->S.length<=n
 |[],_,_,_,_=>BK _
 |x::S,a,n,h,hm=>by
  let hx:=DA.mp h;let⟨m0,m1⟩:=hm x Ax;let hn:0<n:=()
  have:=Mx (a:=x+1) (n:=(a+n-(x+1)).toNat) hx.2 λy hy=>by
   have:=hx.1 y hy;have:=(hm y (BF _ hy)).2;omega
  simp only[C0];omega
def tI (xs:Ye):D:=.tup (xs.map D.int)
theorem OB:∀ {l:Ye} (_:l.Nodup) {k:Nat},k<l.length->l.idxOf (l.getD k 0)=k
 |y::l,h,0,_=>by simp
 |y::l,h,k+1,hk=>by
  let hn:=List.nodup_cons.mp h;let hk':k<l.length:=by simpa using hk
  let hm:l.getD k 0∈l:=by rw[By,AM hk'];exact Bd _
  let hne:y≠l.getD k 0:=λe=>hn.1 (e▸hm);show (y::l).idxOf (l.getD k 0)=k+1;rw[List.idxOf_cons,show (y==l.getD k 0)=false by simpa using hne];simp only[cond_false];rw[OB hn.2 hk']
def iJ (h:(kvs.any λp=>decide (Az p.1=some (.inl x)))=false):E5 Az kvs (.inl x) (.int x) v=kvs++[(.int x,v)]:=by
 erw[E5];rw[h];rfl
def EL (e:f Y M=some (.dat (mD zA),M)):fB AZ (zK f zb) Y M=some (.dat (.int zA.length),M):=by
 have:=FL e CT;rw[AG]at this;calc this
def GW (e:f Y M=some (.dat (tI xs),M)):fB AZ (zK f zb) Y M=some (.dat (.int xs.length),M):=by
 have:=FL e CT;rw[AG]at this;calc this
def Mr:FS:=(Aa (EA (D9 "int" (zC 0)) (Ht (D9 "bool" (zC 0)))))
def Gw:FF:=BH 1 Mr
def K4:FS:=(Aa (EA (ze Gw (zD (toD (zC 0)) zF)) (HM kLe kLt (fC (.int 0)) (zC 0) (zC 1))))
def IF:FF:=BH 2 K4
def L9:FS:=(Aa (EA (D9 "tuple" (zC 0)) (fB Dw (zK (Ar [2] (AQ (zC 0)) (gN 2) Ab (ze IF (zD (toD (zC 2)) (zD (toD (zC 1)) zF)))) zb))))
def Gn:FF:=BH 3 L9
mutual
def Vd (M:Mem):D->Prop
 |.ref n=>∃ t,DE M (.dat (.ref n))=some t/\(t = "list" \/ t = "dict")
 |.tup ds=>ds.length<=100000/\Vds M ds
 |.fn _ _=>False
 |_=>True
def Vds (M:Mem):List D->Prop
 |[]=>True
 |d::ds=>Vd M d/\Vds M ds
end
def Vds.mem:∀ {ds:List D},Vds M ds -> ∀ d∈ds,Vd M d
 |[],_,d,h=>by ext h
 |x::ds,hv,d,h=>by
  erw[Vds]at hv;rcases AJ.mp h with q|q
  .subst q;exact hv.1
  .exact Vds.mem hv.2 d q
def Vds.of:∀ {ds:List D},(∀ d∈ds,Vd M d)->Vds M ds
 |[],_=>trivial
 |x::ds,h=>⟨h x Ax,Vds.of λd hd=>h d (BF _ hd)⟩
def Jy:D->Bool
 |.int _=>true
 |_=>false
def DL (n:Int):D->Bool
 |.int i=>decide (0<=i)&&decide (i<n)
 |_=>false
def tbD (n:Int):D->Bool
 |.tup ds=>ds.all (DL n)
 |_=>false
def Ib:D->Nat
 |.tup ds=>ds.length
 |_=>0
def JM:D->Bool
 |.tup _=>true
 |_=>false
def ZN (out:D->D) (hf:f Y M=some (.dat (.tup ds),M)) (hz:ds.length<=100000)
  (he:∀ a∈ds,∃ σ1,g a (Cd own Y)=some σ1/\te σ1 M=some (.dat (out a),M)):Ar own (AQ f) g Ab te Y M=some (.fl (ds.map out),M) :=
 Eh (gd:=none) ds id out (by rw[List.map_id];calc Cw hf) trivial hz he
def Vd.ty (h:Vd M d):∃ t,DE M (.dat d)=some t/\isT t "tuple" = JM d/\(isT t "int" && !isT t "bool")=Jy d:=by
 cases d with
 |non=>calc ⟨_,rfl,(show isT "NoneType" "tuple" = false by decide),(show (isT "NoneType" "int" && !isT "NoneType" "bool")=false by decide)⟩
 |bl k=>calc ⟨_,rfl,(show isT "bool" "tuple" = false by decide),(show (isT "bool" "int" && !isT "bool" "bool")=false by decide)⟩
 |int i=>calc ⟨_,rfl,(show isT "int" "tuple" = false by decide),(show (isT "int" "int" && !isT "int" "bool")=true by decide)⟩
 |str x=>calc ⟨_,rfl,(show isT "str" "tuple" = false by decide),(show (isT "str" "int" && !isT "str" "bool")=false by decide)⟩
 |tup ds=>calc ⟨_,rfl,(show isT "tuple" "tuple" = true by decide),(show (isT "tuple" "int" && !isT "tuple" "bool")=false by decide)⟩
 |ref n=>
  erw[Vd]at h;let⟨t,e,h⟩:=h;rcases h with rfl|rfl
  .exact ⟨_,e,(show isT "list" "tuple" = false by decide),(show (isT "list" "int" && !isT "list" "bool")=false by decide)⟩
  .exact ⟨_,e,(show isT "dict" "tuple" = false by decide),(show (isT "dict" "int" && !isT "dict" "bool")=false by decide)⟩
 |fn _ _=>calc h.elim
def Ga (hf:f Y M=some (.dat (.bl a),M)) (hg:a=true->g Y M=some (.dat (.bl b),M)):EA f g Y M=some (.dat (.bl (a&&b)),M):=by
 erw[EA];rw[hf];cases a with
 |true=>calc hg rfl
 |false=>rfl
def cI (hf:f Y M=some (.dat (.bl a),M)):Ht f Y M=some (.dat (.bl (!a)),M):=by erw[Ht];rw[hf]
def JW (h:f (ds.map some++List.replicate (n-ds.length) none) M=some (.dat d,M)):BH n (Aa f) ds M=some (d,M):=by
 calc zY ?_;rw[B3];calc Bp h ⟨rfl,rfl⟩
def Lp (h:Vd M d):Gw [d] M=some (.bl (Jy d),M):=by
 let⟨t,e,_,q⟩:=h.ty;erw[Gw,Mr];calc JW ?_;rw[<-q];calc Ga (IK rfl e) λ_=>cI (IK rfl e)
def Xz (h:Vd M d):IF [d,.int n] M=some (.bl (DL n d),M):=by
 erw[IF,K4];calc JW ?_;let hw:=BZ (Y:=[some d,some (.int n)]) (a:=zD (toD (zC 0)) zF) (zU rfl) (Lp h);let e:DL n d=(Jy d&&DL n d):=by cases d <;> rfl
 rw[e];refine Ga hw λhi=>?_;cases d with
 |int i=>
  calc zY (XJ.mpr (BA.mpr (zm.mpr ⟨_,rfl,aX.mpr (Fl.mpr ?_)⟩)));by_cases h0:0<=i
  .rw[AD (~~~h0)];calc zm.mpr ⟨_,rfl,JR.mpr ⟨?_,rfl⟩⟩;simp[DL,h0]
  .rw[AE (~~~h0)];calc ⟨by simp[DL,h0],rfl⟩
 |_=>ext hi
def Gj {bs:List Bool} (h:f Y M=some (.fl (bs.map D.bl),M)):fB Dw (zK f zb) Y M=some (.dat (.bl (bs.all id)),M):=by
 erw[fB,zK,zb];rw[h];calc zY ((V9 cV (NW bs)).mpr ⟨rfl,rfl⟩)
def JA {α:Type} (xs:List α) (p:α->Bool):(xs.map p).all id=xs.all p:=by rw[List.all_map];rfl
def Ql (h:Vd M d):Gn [d,.int n] M=some (.bl (tbD n d),M):=by
 erw[Gn,L9];calc JW ?_;let⟨t,e,q,_⟩:=h.ty;cases d with
 |tup ds=>
  let hh:Vd M (.tup ds):=h;erw[Vd]at hh;have:tbD n (.tup ds)=(true&&(ds.map (DL n)).all id):=by rw[Bool.true_and,JA];rfl
  rw[this];refine Ga (by rw[IK rfl e,q];rfl) λ_=>Gj ?_;rw[CS];exact ZN (λx=> .bl (DL n x)) rfl hh.1 λx hx=>⟨_,rfl,BZ (zL rfl (zU rfl)) (Xz (hh.2.mem x hx))⟩
 |_=>
  have:∀ b,(false&&b)=false:=λb=>rfl;refine (Ga (a:=false) (b:=true) (by rw[IK rfl e,q];rfl) λz=>by ext z).trans ?_;rfl
def jA {xs:List D} {lo hi:Ys} {M:Mem}:kSl (.dat (.tup xs)) lo hi M=some (.dat (.tup (L3.Bw xs lo hi)),M):=rfl
def slE {f:FE} {fl fh:FO} {Y:Sd} {M:Mem} {xs:List D} {lo hi:Ys} (hf:f Y M=some (.dat (.tup xs),M)) (hl:fl Y M=some (lo,M)) (hh:fh Y M=some (hi,M)):fSl f fl fh Y M=some (.dat (.tup (L3.Bw xs lo hi)),M):=by
 erw[fSl];rw[hf];dsimp only;rw[hl];dsimp only;rw[hh];calc jA
def oS (h:f Y M=some (.dat (.int i),M)):Af f Y M=some (some i,M):=by erw[Af];rw[h]
def Pk (h0:0<=p) (h1:p<xs.length):L3.Bw xs none (some p)=xs.take p.toNat:=by
 let e:p=((p.toNat:Nat):Int):=()
 let s:HT.sIx xs.length xs.length (some p)=p.toNat:=by rw[e,HT.JL];simp;omega
 let z:HT.sIx xs.length 0 none=0:=rfl;erw[L3.Bw];rw[s,z];simp
def OG (h0:0<p) (hx:0<xs.length):L3.Bw xs (some p) none=xs.drop p.toNat:=by
 let e:p=((p.toNat:Nat):Int):=()
 let s:HT.sIx xs.length 0 (some p)=min p.toNat xs.length:=by
  let q:=HT.JL xs.length 0 p.toNat;rw[<-e]at q;exact q
 let z:HT.sIx xs.length xs.length none=xs.length:=rfl;erw[L3.Bw];rw[s,z];rcases Nat.le_total p.toNat xs.length with q|q
 .rw[Nat.min_eq_left q,E8 (by simp)]
 .rw[Nat.min_eq_right q,List.drop_of_length_le (AF _),List.drop_of_length_le q];simp
abbrev gL (k:Nat) (s:Int):MO:=.lst [.ref k,.int s]
def fT (hk:k<N):MO.und N (gL k s)=true:=by
 show D.unds _ _=true;erw[D.unds,D.unds,D.unds,D.und];simp[hk]
structure Nw (M M':Mem) (n k:Nat):Prop where
 gen:Gen M' n k
 len:M.length<=M'.length
 fr:∀ j,j<M.length->j≠n->j≠k->M'[j]?=M[j]?
def Nw.refl (h:Gen M n k):Nw M M n k:=⟨h,AF _,λ_ _ _ _=>rfl⟩
def Nw.trans {M M1 M2:Mem} {n k:Nat} (a:Nw M M1 n k) (b:Nw M1 M2 n k):Nw M M2 n k :=
 ⟨b.gen,Ao a.len b.len,λj h h1 h2=>(b.fr j (BC h a.len) h1 h2).trans (a.fr j h h1 h2)⟩
def Nx.nw (x:Nx M M' n k):Nw M M' n k:=⟨x.gen,by rw[x.len];exact AF _,λj _ h1 h2=>x.fr j h1 h2⟩
def Gen.lst (h:Gen A n k) (xs:List D) (hx:D.unds A.length xs=true):Nw A (A++[.lst xs]) n k:=⟨h.app λu hu=>by
 have:u=.lst xs:=by simpa using hu
 subst this;exact GV (by simp) hx,by simp,λj hj _ _=>Bf hj⟩
def Nw.setB (h:Nw M A n k) (g:Gen M n k) (hj:M.length<=j) (hu:MO.und A.length u=true):Nw M (A.set j u) n k:=by
 let⟨hn,hk⟩:=g.lt;let⟨c,s,e1,e2,r⟩:=h.gen.ex;refine ⟨⟨⟨c,s,by rw[Bl ()];calc e1,by rw[Bl ()];calc e2,r⟩,g.ne,λi v e=>?_⟩,by rw[C1];exact h.len,λi hi h1 h2=>by rw[Bl ()];calc h.fr i hi h1 h2⟩;rw[C1];rw[DN]at e;cbv at e
 .split at e
  .cases e;exact hu
  .cases e
 .exact h.gen.wf i v e
def Nw.wf0 (h:Nw M M' n k) (g:Gen M n k):∀ (j:Nat) u,j<M.length->M'[j]?=some u->MO.und M.length u=true:=λj u hj e=>by
 let⟨hn,hk⟩:=g.lt;let⟨c,s,e1,e2,r⟩:=h.gen.ex;by_cases q1:j=n
 .subst q1;rw[e1]at e;ext e;exact fT hk
 .by_cases q2:j=k
  .subst q2;rw[e2]at e;ext e;exact Dr _ _
  .rw[h.fr j hj q1 q2]at e;calc g.wf j u e
def Nw.trim (h:Nw M M' n k) (g:Gen M n k):Nw M (M'.take M.length) n k:=by
 let⟨hn,hk⟩:=g.lt;let tk:∀ j,j<M.length->(M'.take M.length)[j]?=M'[j]?:=λj hj=>List.getElem?_take_of_lt hj;let tl:(M'.take M.length).length=M.length:=by have:=h.len;rw[Bg];omega
 let⟨c,s,e1,e2,r⟩:=h.gen.ex;refine ⟨⟨⟨c,s,(tk n hn).trans e1,(tk k hk).trans e2,r⟩,g.ne,λj u e=>?_⟩,(),λj hj h1 h2=>(tk j hj).trans (h.fr j hj h1 h2)⟩;let hj:j<M.length:=by have:=(AK.mp e).1;omega
 rw[tk j hj]at e;rw[tl];calc h.wf0 g j u hj e
def Nw.get (h:Nw M M' n k) (e:M[j]?=some u) (h1:j≠n) (h2:j≠k):M'[j]?=some u :=
 (h.fr j (AK.mp e).1 h1 h2).trans e
end Law
namespace Lac
open L2 L3 ST Law
def zk (h:P (.ref M.length) (M++[.lst xs])):Dq P (.fl xs) M:=h
def zZ (A:Mem) (u:MO):(A++[u])[A.length]?=some u:=by simp
def Fy (h:0<b):BW (.dat (.int a)) (.dat (.int b)) M=some (.dat (.int (a % b)),M):=zY (F8.mpr ⟨h,rfl,rfl⟩)
theorem N6 {α:Type} (enc out:α->D) (keep:α->Bool):∀ (as:List α),(∀ a∈as,∃ σ1,g (enc a) Y=some σ1/\tc σ1 M=some (keep a,M)/\(keep a=true->te σ1 M=some (.dat (out a),M)))->BV g tc te Y all none (as.map enc) M=some ((as.filter keep).map out,M)
 |[],_=>by
  rw[List.map_nil];erw[BV];rw[AD (show Bv none all M from trivial)];rfl
 |a::r,h=>by
  let⟨σ1,e1,e2,e3⟩:=h a Ax;let ih:=N6 (all:=all) enc out keep r λb hb=>h b (BF _ hb);rw[Ag];erw[BV];rw[AD (show Bv none all M from trivial),e1];dsimp only;rw[e2];cases hk:keep a with
  |false=>
   dsimp only;rw[ih,List.filter_cons_of_neg (by simp[hk])]
  |true=>
   dsimp only;rw[show toD te σ1 M=some (out a,M) by erw[toD];rw[e3 hk]];dsimp only;rw[ih,List.filter_cons_of_pos hk];rfl
def Qq {α β:Type} (as:List α) (enc:α->D) (bs:α->List β) (enc2:β->D) (keep:α->β->Bool) (out:α->β->D) (B:Nat)
  (hi:fi Y M=some (as.map enc,none,M)) (hB:∀ a∈as,(bs a).length<=B) (hz:as.length*B<=90000)
  (he:∀ a∈as,∃ σ1,fg (enc a) (Cd own Y)=some σ1/\fi2 σ1 M=some ((bs a).map enc2,none,M) /\ ∀ b∈bs a,∃ σ2,fg2 (enc2 b) (Cd own2 σ1)=some σ2/\tc2 σ2 M=some (keep a b,M)/\(keep a b=true->te σ2 M=some (.dat (out a b),M))) :
  EN own own2 fi fg Ab fi2 fg2 tc2 te Y M=some (.fl (as.flatMap λa=>((bs a).filter (keep a)).map (out a)),M):=by
 let key:∀ (r:List α) (acc:List D),(∀ a∈r,a∈as)->acc.length+r.length*B<=90000->El fg Ab fi2 own2 fg2 tc2 te (Cd own Y) (as.map enc) none (r.map enc) acc M=some (acc++r.flatMap λa=>((bs a).filter (keep a)).map (out a),M):=by
  intro r;induction r with
  |nil=>
   intro acc _ _;rw[List.map_nil];erw[El];rw[AD (show Bv none (as.map enc) M from trivial)];simp
  |cons a r ih=>
   intro acc hs hl;let ha:=hs a Ax;let⟨σ1,e1,e2,e3⟩:=he a ha;let hb:=hB a ha;let hlen:(((bs a).filter (keep a)).map (out a)).length<=(bs a).length:=by rw[AG];exact List.length_filter_le _ _
   rw[C0,Nat.add_mul]at hl;rw[Ag];erw[El];rw[AD (show Bv none (as.map enc) M from trivial),e1];dsimp only;rw[show Ab σ1 M=some (true,M)from rfl];dsimp only;rw[e2];dsimp only;rw[AD (zh (by rw[AG];omega)),N6 enc2 (out a) (keep a) (bs a) e3];dsimp only;rw[ih _ (λb hb=>hs b (BF _ hb)) (by rw[AV];omega)];rw[List.flatMap_cons,CI]
 erw[EN];rw[hi];dsimp only;rw[key as [] (λ_ h=>h) (~~~hz)];simp
def Ge (ha:a Y M=some (true,M)):DT a b Y M=some (true,M):=by erw[DT];rw[ha]
def DB (ha:a Y M=some (false,M)) (hb:b Y M=some (k,M)):DT a b Y M=some (k,M):=by erw[DT];rw[ha];calc hb
def ntT (ha:a Y M=some (.dat (.bl k),M)):CF (tst a) Y M=some (!k,M):=by
 calc zY (iB.mpr (zH (BJ ha) ⟨rfl,rfl⟩))
def aC' {f:FE} {g:FA} {Y:Sd} {M M1 M2:Mem} {d:D} {ds:List D} (h:toD f Y M=some (d,M1)) (hg:g Y M1=some (ds,M2)):zD (toD f) g Y M=some (d::ds,M2):=by
 erw[zD];rw[h];dsimp only;rw[hg]
def Hr (h:f Y M=some (.dat d,M)):toD f Y M=some (d,M):=by erw[toD];rw[h]
def Gp {M M1:Mem} (h:f Y M=some (.fl xs,M1)):toD f Y M=some (.ref M1.length,M1++[.lst xs]):=by erw[toD];rw[h]
def Et {g:FA} {Y:Sd} {M M1:Mem} {ds:List D} (h:g Y M=some (ds,M1)) (hz:ds.length<=100000):Aq g Y M=some (.fl ds,M1):=by
 erw[Aq];rw[h];dsimp only;rw[AD (zh hz)]
def Ba {g:FA} {Y:Sd} {M M1:Mem} {ds:List D} (h:g Y M=some (ds,M1)) (hz:ds.length<=100000):zi g Y M=some (.dat (.tup ds),M1):=by
 erw[zi];rw[h];dsimp only;rw[AD (zh hz)]
def Wf (hf:f Y M=some (.dat (.bl true),M)) (h:P .nx Y M):OkS (sIf (CF (tst f)) a BP Y M) P:=TB (ntT hf) h
def cU (h0:1<=R) (h1:R<=5000):Ez (.dat (.tup [e])) (.dat (.int R)) M=some (.dat (.tup (List.replicate R.toNat e)),M):=by
 erw[Ez];dsimp only[Cc];rw[AD ⟨by simp,h0,zh (by simp;omega)⟩];have:(List.replicate R.toNat [e]).flatten=List.replicate R.toNat e:=by
  generalize R.toNat=q;induction q with
  |zero=>rfl
  |succ q ih=>rw[Ew,Fm,ih,Ew];rfl
 rw[this]
def gJ {f:FE} {Y:Sd} {M M1:Mem} {xs:List D} (h:f Y M=some (.fl xs,M1)):AQ f Y M=some (xs,none,M1):=by
 erw[AQ];rw[h];rfl
def Nb (h1:M[n]?=some (.lst xs)) (h2:M[m]?=some (.lst ys)) (hz:xs.length+ys.length<=90000):GX (.dat (.ref n)) [.ref m] M=some (.non,M.set n (.lst (xs++ys))):=by
 erw[GX];dsimp only;rw[h1,h2];dsimp only;rw[AD (zh ())]
def Qw (e1:f Y M=some (.dat (.int i),M)) (e2:g Y M=some (.dat (.int j),M)) (h1:0<=i) (h2:i<=90000) (h3:0<=j) (h4:j<=90000):Bx (zD (toD f) (zD (toD g) zF)) Y M=some ((List.range (j-i).toNat).map (λ(k:Nat)=>D.int (i+k)),none,M):=by
 erw[Bx];rw[zL e1 (zU e2)];dsimp only;rw[AD ⟨(),(),(),()⟩]
def Vu (hf:f Y M=some (.dat (.int i),M)) (hg:g Y M=some (.dat (.int j),M)):fB II (zK f (zK g zb)) Y M=some (.dat (.int (if j>i then j else i)),M):=by
 erw[fB,zK,zb];rw[hf];dsimp only;rw[hg];rfl
def Y5 {m:FF} {a:FA} {Y:Sd} {M M1 M':Mem} {ds:List D} {d:D} (h:a Y M=some (ds,M1)) (hm:m ds M1=some (d,M')):ze m a Y M=some (.dat d,M'):=by
 erw[ze];rw[h];dsimp only;rw[hm]
theorem RB {α:Type} (hgd:Bv gd all M) (enc out:α->D) (keep:α->Bool):∀ (as:List α),(∀ a∈as,∃ σ1,g (enc a) Y=some σ1/\tc σ1 M=some (keep a,M)/\(keep a=true->te σ1 M=some (.dat (out a),M)))->BV g tc te Y all gd (as.map enc) M=some ((as.filter keep).map out,M)
 |[],_=>by
  rw[List.map_nil];erw[BV];rw[AD hgd];rfl
 |a::r,h=>by
  let⟨σ1,e1,e2,e3⟩:=h a Ax;let ih:=RB hgd enc out keep r λb hb=>h b (BF _ hb);rw[Ag];erw[BV];rw[AD hgd,e1];dsimp only;rw[e2];cases hk:keep a with
  |false=>
   dsimp only;rw[ih,List.filter_cons_of_neg (by simp[hk])]
  |true=>
   dsimp only;rw[show toD te σ1 M=some (out a,M) by erw[toD];rw[e3 hk]];dsimp only;rw[ih,List.filter_cons_of_pos hk];rfl
def Hc {α:Type} {own:Yj} {fi:FI} {g:FG} {tc:FT} {te:FE} {Y:Sd} {M M1:Mem} {gd:Option (Mem->Prop)} (as:List α) (enc out:α->D) (keep:α->Bool) (hi:fi Y M=some (as.map enc,gd,M1)) (hgd:Bv gd (as.map enc) M1) (hz:as.length<=100000)
  (he:∀ a∈as,∃ σ1,g (enc a) (Cd own Y)=some σ1/\tc σ1 M1=some (keep a,M1)/\(keep a=true->te σ1 M1=some (.dat (out a),M1))):Ar own fi g tc te Y M=some (.fl ((as.filter keep).map out),M1) :=
 zY (F7.mpr ⟨_,_,_,hi,by rw[AG];calc zh hz,zH (RB hgd enc out keep as he) ⟨rfl,rfl⟩⟩)
def eqE:kEq (.dat (.int a)) (.dat (.int b)) M=some (.dat (.bl (decide (a=b))),M):=zY (LD.mpr ⟨rfl,rfl⟩)
def J5:Gi (.dat (.int a)) (.dat (.int b)) M=some (.dat (.int (a-b)),M):=rfl
def gtE:kGt (.dat (.int a)) (.dat (.int b)) M=some (.dat (.bl (decide (b<a))),M):=rfl
def WG (h1:fv Y M=some (.dat v,M)) (h2:fo Y M=some (.dat (.ref n),M)) (h3:fi Y M=some (.dat k,M)) (h4:GK M n k v=some M4) (q:P .nx Y M4):OkS (IH fv fo fi Y M) P:=by
 calc ⟨.nx,Y,M4,?_,q⟩;erw[IH,toD];rw[h1];dsimp only;rw[h2];dsimp only;rw[h3];dsimp only;rw[h4]
def Hy:FS:=(zN (sIf (DT (CF (tst (ze Gn (zD (toD (zC 1)) (zD (toD (fB AZ (zK (zC 0) zb))) zF))))) (tst (fOp kEq (fB AZ (zK (zC 1) zb)) (fC (.int 0))))) (Aa (fC (.bl false))) BP)
  (Aa (fB Dw (zK (Ar [2,3] (IY (zD (toD (zC 1)) (zD (toD (fSl (zC 1) (Af (fC (.int 1))) AY)) zF))) (HJ 2 3) Ab (fOp kLt (zC 2) (zC 3))) zb))))
def GB:FF:=BH 4 Hy
def NS {xs:List D} {lo hi:Ys} {a b:Nat} (ha:HT.sIx xs.length 0 lo=a) (hb:HT.sIx xs.length xs.length hi=b):L3.Bw xs lo hi=(xs.drop a).take (b-a):=by
 erw[L3.Bw];rw[ha,hb]
def Ve (n:Nat) (d:Nat):HT.sIx n d none=d:=rfl
def MA (h:∀ x∈c,0<=x/\x<R):tbD R (tI c)=true:=by
 show List.all _ _=true;rw[Ap];intro d hd;let⟨i,hi,rfl⟩:=AU.mp hd;have:=h i hi;simp[DL,this.1,this.2]
end Lac
namespace Lac
def gl (zA:Ya) (x:Int):List Int:=zA.getD x.toNat []
def wst (L:Ya) (m:Nat) (l:Ye):List Int:=if (m:Int)∈l then l++(L.getD m []).filter (λg=>decide (g∉l)) else l
structure Wsh (zA:Ya) (m:Nat) (L:Ya):Prop where
 len:L.length=zA.length
 nd:∀ l∈L,l.Nodup
 rg:∀ l∈L,∀ x∈l,0<=x/\x<(zA.length:Int)
 self:∀ r,r<zA.length->(r:Int)∈L.getD r []
 edge:∀ r,r<zA.length -> ∀ g∈zA.getD r [],g∈L.getD r []
 tr:∀ u v,u<zA.length->v<m->(v:Int)∈L.getD u [] -> ∀ w∈L.getD v [],w∈L.getD u []
 snd:∀ S:Int->Prop,(∀ x,0<=x->x<(zA.length:Int)->S x -> ∀ g∈gl zA x,S g) -> ∀ u,u<zA.length->S (u:Int) -> ∀ w∈L.getD u [],S w
def DX {α:Type} {L:List (List α)} (h:r<L.length):L.getD r []∈L:=by
 rw[By,AM h];calc Bd _
def Oe {L:Ya} (h:r<L.length):(L.map f).getD r []=f (L.getD r []):=by
 rw[By,By,AW,AM h];rfl
def Qz:x∈wst L m l ↔ x∈l\/((m:Int)∈l/\x∈L.getD m []):=by
 erw[wst];by_cases h:(m:Int)∈l
 .rw[AD h,AR,List.mem_filter];simp only[B4];constructor
  .rintro (z|z)
   .exact .inl z
   .exact .inr ⟨h,z.1⟩
  .rintro (z|z)
   .exact .inl z
   .by_cases q:x∈l
    .exact .inl q
    .exact .inr ⟨z.2,q⟩
 .rw[AE h];calc ⟨.inl,λz=>z.elim id λy=>absurd y.1 h⟩
def XX:wst L m (L.getD m [])=L.getD m []:=by
 erw[wst];split
 .rw[List.filter_eq_nil_iff.mpr (λg hg=>by rw[B4];calc λz=>z hg),DO]
 .rfl
def Wsh.step {zA L:Ya} (h:Wsh zA m L) (hm:m<zA.length):Wsh zA (m+1) (L.map (wst L m)):=by
 let hl:=h.len;let gm:∀ {u:Nat},u<zA.length->(L.map (wst L m)).getD u []=wst L m (L.getD u []):=λhu=>Oe ();let ins:∀ {u:Nat} {w:Int},u<zA.length->(w∈(L.map (wst L m)).getD u [] ↔ w∈L.getD u []\/((m:Int)∈L.getD u []/\w∈L.getD m [])):=λhu=>by rw[gm hu];exact Qz
 refine ⟨by rw[AG];exact hl,λl hx=>?_,λl hx x hz=>?_,λr hr=>(ins hr).mpr (.inl (h.self r hr)),λr hr g hg=>(ins hr).mpr (.inl (h.edge r hr g hg)),λu v hu hv hvu w hw=>?_,λS hS u hu su w hw=>?_⟩
 .obtain ⟨l,hl2,rfl⟩:=AU.mp hx;erw[wst];split
  .refine Ds.mpr ⟨h.nd l hl2,(h.nd _ (DX ())).filter _,λa ha b hb e=>?_⟩;subst e;have:=(List.mem_filter.mp hb).2;simp only[B4]at this;exact this ha
  .exact h.nd l hl2
 .obtain ⟨l,hl2,rfl⟩:=AU.mp hx;rcases Qz.mp hz with q|q
  .exact h.rg l hl2 x q
  .exact h.rg _ (DX ()) x q.2
 .have hvn:v<zA.length:=()
  rw[ins hu]at hvu ⊢;rw[ins hvn]at hw;by_cases vm:v=m
  .subst vm;let e1:(v:Int)∈L.getD u []:=hvu.elim id (·.1);exact .inr ⟨e1,hw.elim id (·.2)⟩
  .have hv':v<m:=()
   rcases hvu with a|⟨a,b⟩
   .rcases hw with c|⟨c,d⟩
    .exact .inl (h.tr u v hu hv' a w c)
    .exact .inr ⟨h.tr u v hu hv' a _ c,d⟩
   .rcases hw with c|⟨c,d⟩
    .exact .inr ⟨a,h.tr m v hm hv' b w c⟩
    .exact .inr ⟨a,d⟩
 .rcases (ins hu).mp hw with q|⟨q1,q2⟩
  .exact h.snd S hS u hu su w q
  .exact h.snd S hS m hm (h.snd S hS u hu su _ q1) w q2
structure Part (zA:Ya) (p:Ye):Prop where
 pw:p.Pairwise (· < ·)
 n0:0<p.length
 mem:∀ x∈p,0<=x/\x<(zA.length:Int)
 cl:∀ x∈p,∀ g∈gl zA x,g∈p
 con:∀ S:Int->Prop,(∀ x∈p,S x -> ∀ g∈gl zA x,S g) -> ∀ x∈p,S x -> ∀ y∈p,S y
section
variable {zA L:Ya}
def Wsh.gl_mem (h:Wsh zA zA.length L) (h0:0<=x) (h1:x<(zA.length:Int)) (hg:g∈gl zA x):g∈L.getD x.toNat []:=h.edge x.toNat () g hg
def Wsh.rgx (h:Wsh zA zA.length L) {x y:Int} (h0:0<=x) (h1:x<(zA.length:Int)) (hy:y∈L.getD x.toNat []):0<=y/\y<(zA.length:Int):=h.rg _ (DX (by have:=h.len;omega)) y hy
def Wsh.trx (h:Wsh zA zA.length L) (h0:0<=x) (h1:x<(zA.length:Int)) (hy:y∈L.getD x.toNat []) (hz:z∈L.getD y.toNat []):z∈L.getD x.toNat []:=by
 let⟨y0,y1⟩:=h.rgx h0 h1 hy;calc h.tr x.toNat y.toNat () () (by rw[show ((y.toNat:Nat):Int)=y by omega];calc hy) z hz
def Wsh.part (h:Wsh zA zA.length L) (hr:r<zA.length) {p:Ye} (pw:p.Pairwise (· < ·)) (hp:∀ x,x∈p ↔ x∈L.getD r []) (hb:∀ x∈p,(r:Int)∈L.getD x.toNat []):Part zA p:=by
 let hrp:(r:Int)∈p:=(hp _).mpr (h.self r hr);let er:((r:Int)).toNat=r:=()
 let mem:∀ x∈p,0<=x/\x<(zA.length:Int):=λx hx=>h.rg _ (DX (by have:=h.len;omega)) x ((hp x).mp hx);let inn:∀ x∈p,∀ y,y∈L.getD x.toNat [] ↔ y∈p:=λx hx y=>by
  let⟨x0,x1⟩:=mem x hx;constructor
  .intro hy;calc (hp y).mpr ?_;have:=h.trx (x:=(r:Int)) () () (by rw[er];calc (hp x).mp hx) hy;rw[er]at this;exact this
  .intro hy;exact h.trx x0 x1 (hb x hx) (by rw[er];calc (hp y).mp hy)
 refine ⟨pw,List.length_pos_of_mem hrp,mem,λx hx g hg=>?_,λS hS x hx sx y hy=>?_⟩
 .obtain ⟨x0,x1⟩:=mem x hx;exact (inn x hx g).mp (h.gl_mem x0 x1 hg)
 .obtain ⟨x0,x1⟩:=mem x hx;let ex:((x.toNat:Nat):Int)=x:=()
  have:=h.snd (λz=>S z/\z∈p) (λz z0 z1 ⟨sz,zp⟩ g hg=>⟨hS z zp sz g hg,(inn z zp g).mp (h.gl_mem z0 z1 hg)⟩) x.toNat () (by rw[ex];calc ⟨sx,hx⟩) y ((inn x hx y).mpr hy);calc this.1
def Wt (L:Ya) (h:0<L.length):∃ r,r<L.length /\ ∀ s,s<L.length->(L.getD r []).length<=(L.getD s []).length:=by
 let key:∀ k r,r<L.length->(L.getD r []).length<=k -> ∃ r,r<L.length /\ ∀ s,s<L.length->(L.getD r []).length<=(L.getD s []).length:=by
  intro k;induction k with
  |zero=>intro r hr hk;exact ⟨r,hr,λs _=>()⟩
  |succ k ih=>
   intro r hr hk;by_cases q:∃ s,s<L.length/\(L.getD s []).length<(L.getD r []).length
   .obtain ⟨s,hs,q⟩:=q;exact ih s hs ()
   .exact ⟨r,hr,λs hs=>by
     apply Nat.le_of_not_lt;intro z;calc q ⟨s,hs,z⟩⟩
 calc key _ 0 h (AF _)
def Wsh.some (h:Wsh zA zA.length L) (h0:0<zA.length):∃ r,r<zA.length /\ ∀ x∈L.getD r [],(r:Int)∈L.getD x.toNat []:=by
 let hl:=h.len;let⟨r,hr,hm⟩:=Wt L ();rw[hl]at hr;let er:((r:Int)).toNat=r:=()
 refine ⟨r,hr,λx hx=>?_⟩;let⟨x0,x1⟩:=h.rgx (x:=(r:Int)) () () (by rw[er];exact hx);let sub:∀ y∈L.getD x.toNat [],y∈L.getD r []:=λy hy=>by
  have:=h.trx (x:=(r:Int)) () () (by rw[er];calc hx) hy;rw[er]at this;exact this
 let ndx:=h.nd _ (DX (r:=x.toNat) ());let le:=hm x.toNat ();refine qz λhn=>?_;let hsub:∀ y∈L.getD x.toNat [],y∈(L.getD r []).erase (r:Int):=λy hy=>(List.mem_erase_of_ne (show y≠(r:Int)from λe=>hn (e▸hy))).mpr (sub y hy);let l1:=ndx.length_le_of_subset hsub;let l2:=List.length_pos_of_mem (h.self r hr);rw[List.length_erase_of_mem (h.self r hr)]at l1;omega
def Ux {p q:Ye} (hp:p.Pairwise (· < ·)) (hq:q.Pairwise (· < ·)) (h:∀ x,x∈p ↔ x∈q):p=q:=by
 let np:p.Nodup:=hp.imp λz=>Int.ne_of_lt z;let nq:q.Nodup:=hq.imp λz=>Int.ne_of_lt z;calc ((List.perm_ext_iff_of_nodup np nq).mpr h).eq_of_pairwise (λa b _ _ h1 h2=>absurd (Int.lt_trans h1 h2) (Int.lt_irrefl _)) hp hq
def Part.apart (hp:Part zA p) (hq:Part zA q) (h1:x∈p) (h2:x∈q):p=q:=by
 refine Ux hp.pw hq.pw λy=>⟨λhy=>?_,λhy=>?_⟩
 .exact hp.con (· ∈ q) (λz _ sz g hg=>hq.cl z sz g hg) x h1 h2 y hy
 .exact hq.con (· ∈ p) (λz _ sz g hg=>hp.cl z sz g hg) x h2 h1 y hy
structure Phs (zA:Ya) (p:Ye) (b:Int) (φ:Int->Int):Prop where
 b1:1<=b
 rg:∀ x∈p,0<=φ x/\φ x<b
 st:∀ x∈p,∀ g∈gl zA x,φ g=(φ x+1) % b
def Phs.all (hP:Part zA p) (h:Phs zA p b φ) (hg:∀ x∈p,gl zA x≠[]) (z0:0<=z) (z1:z<b):∃ x∈p,φ x=z:=by
 let b1:=h.b1;let nx:∀ z,(∃ x∈p,φ x=z) -> ∃ x∈p,φ x=(z+1) % b:=by
  rintro z ⟨x,hx,rfl⟩;let⟨g,hgm⟩:=List.exists_mem_of_ne_nil _ (hg x hx);exact ⟨g,hP.cl x hx g hgm,h.st x hx g hgm⟩
 let⟨x,hx⟩:=List.exists_mem_of_ne_nil p (by have:=hP.n0;intro e;rw[e]at this;simp at this);let⟨r0,r1⟩:=h.rg x hx;let many:∀ k:Nat,∃ y∈p,φ y=(φ x+(k:Int)) % b:=by
  intro k;induction k with
  |zero=>calc ⟨x,hx,by rw[Int.emod_eq_of_lt () ()];simp⟩
  |succ k ih=>
   let⟨y,hy,e⟩:=nx _ ih;calc ⟨y,hy,e.trans ?_⟩;rw[Int.emod_add_emod];congr 1;omega
 let⟨y,hy,e⟩:=many (z+b-φ x).toNat;calc ⟨y,hy,e.trans ?_⟩;rw[show φ x+(((z+b-φ x).toNat:Nat):Int)=z+b by omega,Int.add_emod_right,Int.emod_eq_of_lt z0 z1]
def Part.into (hP:Part zA p) (h2:1<p.length) (hr:r∈p):∃ x∈p,x≠r/\r∈gl zA x:=by
 let nd:p.Nodup:=hP.pw.imp λz=>Int.ne_of_lt z;have:∃ x∈p,x≠r:=by
  match p,h2,nd,hr with
  |a::b::c,_,nd,hr=>
   by_cases q:a=r
   .refine ⟨b,by simp,λe=>?_⟩;rw[q,e]at nd;simp at nd
   .exact ⟨a,by simp,q⟩
 let⟨x,hx,xr⟩:=this;refine qz λhn=>?_;have:=hP.con (· ≠ r) (λz hz sz g hg e=>hn ⟨z,hz,sz,e▸hg⟩) x hx xr r hr;calc this rfl
end
open L2 L3 ST Law
def KJ:FS:=(zN (AN 5 (fOp BW (fOp zQ (fOp Gi (zC 4) (zC 1)) (fC (.int 1))) (zC 3)))
  (Aa (fOp zQ (fOp zQ (zC 1) (zC 5)) (fOp GY (zC 3) (ze zg (zD (toD (zC 0)) (zD (toD (fOp zQ (fOp GP (fOp Gi (fOp Gi (zC 2) (fC (.int 1))) (zC 5)) (zC 3)) (fC (.int 1)))) zF)))))))
def Hd:FF:=BH 6 KJ
def Mm:FS:=(zN (AN 3 (fOp zQ (fC (.int 1)) (ze zg (zD (toD (zC 0)) (zD (toD (zC 1)) zF)))))
  (zN (AN 4 (fOp zQ (fC (.int 1)) (ze zg (zD (toD (zC 0)) (zD (toD (zC 2)) zF)))))
  (zN (AN 5 (fB Dk (zK (Aq (zD (toD (fC (.int 0))) (zD (toD (ze zg (zD (toD (zC 0)) (zD (toD (fOp zQ (zC 3) (fC (.int 1)))) zF)))) (zD (toD (ze zg (zD (toD (zC 0)) (zD (toD (fOp zQ (zC 3) (fC (.int 1)))) zF)))) (zD (toD (zC 3)) zF))))) zb)))
  (zN (AN 6 (ze zg (zD (toD (zC 0)) (zD (toD (fC (.int 2))) zF))))
  (zN (AN 7 (Aq zF))
  (zN (B9 (Bx (zD (toD (fC (.int 3))) zF)) (gN 8) (zN (AN 9 (fOp Gi (fOp kIx (zC 5) (fOp zQ (zC 8) (fC (.int 1)))) (fOp kIx (zC 5) (zC 8))))
  (zN (AN 10 (fOp zQ (fC (.int 1)) (ze zg (zD (toD (zC 0)) (zD (toD (fB II (zK (fC (.int 1)) (zK (zC 9) zb)))) zF)))))
  (B9 (Bx (zD (toD (fOp kIx (zC 5) (zC 8))) (zD (toD (fOp kIx (zC 5) (fOp zQ (zC 8) (fC (.int 1))))) zF))) (gN 11) (zN (AN 12 (Ar [13] (Bx (zD (toD (zC 4)) zF)) (gN 13) Ab (ze Hd (zD (toD (zC 0)) (zD (toD (fOp kIx (zC 5) (zC 8))) (zD (toD (zC 9)) (zD (toD (zC 10)) (zD (toD (zC 11)) zF))))))))
  (zN (sIf (EE (tst (fOp kEq (zC 8) (fC (.int 2)))) (tst (fOp kEq (zC 6) (fC (.int 1))))) (AN 12 (Ar [13] (Bx (zD (toD (zC 4)) zF)) (gN 13) Ab (ze zg (zD (toD (zC 0)) (zD (toD (zC 3)) zF))))) BP)
  (BL (fM Bh (zC 7) (zD (toD (fB CC (zK (fB Dk (zK (zC 12) zb)) zb))) zF)))))))))
  (Aa (fB CC (zK (zC 7) zb)))))))))
def IE:FF:=Ff (BH 14 Mm)
theorem Pb:∀ {ds:List D},ds.all (DL n)=true -> ∃ xs:List Int,ds=xs.map D.int /\ ∀ x∈xs,0<=x/\x<n
 |[],_=>⟨[],rfl,λ_ h=>by ext h⟩
 |d::ds,h=>by
  rw[List.all_cons,BE]at h;let⟨xs,rfl,hx⟩:=Pb h.2;let h1:=h.1;cases d with
  |int i=>
   simp only[DL,BE,B4]at h1;exact ⟨i::xs,rfl,λx hm=>by
    rcases AJ.mp hm with z|z
    .subst z;exact h1
    .exact hx x z⟩
  |_=>ext h1
def Py:tbD n d=true ↔ ∃ xs:List Int,d=tI xs /\ ∀ x∈xs,0<=x/\x<n:=by
 constructor
 .intro h;cases d with
  |tup ds=>
   let⟨xs,rfl,hx⟩:=Pb (show ds.all (DL n)=true from h);calc ⟨xs,rfl,hx⟩
  |_=>ext h
 .rintro ⟨xs,rfl,h⟩;calc MA h
theorem Q8:∀ {S:Ye},((S.zip (S.drop 1)).map λq=>decide (q.1<q.2)).all id=true ↔ S.Pairwise (· < ·)
 |[]=>by simp
 |[a]=>by simp
 |a::b::r=>by
  let ih:=Q8 (S:=b::r);let e:((a::b::r).zip ((a::b::r).drop 1)).map (λq=>decide (q.1<q.2))=decide (a<b)::((b::r).zip ((b::r).drop 1)).map (λq=>decide (q.1<q.2)):=rfl;rw[e,List.all_cons,BE,ih];constructor
  .rintro ⟨h1,h2⟩;let h1:a<b:=B2 h1;refine DA.mpr ⟨λc hc=>?_,h2⟩;rcases AJ.mp hc with z|z
   .rw[z];exact h1
   .exact Int.lt_trans h1 ((DA.mp h2).1 c z)
  .intro h;let⟨h1,h2⟩:=DA.mp h;calc ⟨BB (h1 b Ax),h2⟩
def cT (hd:Vd M d):∃ b,GB [mD zA,d] M=some (.bl b,M)/\(b=true ↔ ∃ S,d=tI S/\IsS zA S):=by
 let e:=Ql (n:=zA.length) hd;cases h:tbD zA.length d with
 |false=>
  refine ⟨false,?_,(λz=>by ext z),?_⟩
  .refine zY ?_;erw[GB];rw[B3];erw[Hy];rw[h]at e;exact Cm (Ge (Bk (BZ (zL (d:=d) rfl (zU (EL rfl))) e))) (Bp (d:=.bl false) rfl ⟨rfl,rfl⟩)
  .rintro ⟨S,rfl,s⟩;rw[MA s.mem]at h;ext h
 |true=>
  rw[h]at e;let⟨S,rfl,hS⟩:=Py.mp h;let hl:S.length<=100000:=by
   let hh:Vd M (.tup (S.map D.int)):=hd;erw[Vd]at hh;simpa using hh.1
  by_cases s0:S.length=0
  .refine ⟨false,?_,(λz=>by ext z),?_⟩
   .refine zY ?_;erw[GB];rw[B3];erw[Hy];calc Cm (DB (Bk (BZ (zL (d:=tI S) rfl (zU (EL rfl))) e)) (BJ (zE (GW rfl) rfl (eqE.trans ?_)))) (Bp rfl ⟨rfl,rfl⟩);rw[BB ()]
   .rintro ⟨S',e',s⟩;have:S=S':=Jv (D.tup.inj e');subst this;have:=s.n0;omega
  .refine ⟨((S.zip (S.drop 1)).map λq=>decide (q.1<q.2)).all id,?_,?_⟩
   .refine zY ?_;erw[GB];rw[B3];erw[Hy];show OkS (zN _ _ [some (mD zA),some (tI S),none,none] M) _;refine Ef (DB (Bk (BZ (zL rfl (zU (EL rfl))) e)) (BJ (zE (GW rfl) rfl (eqE.trans ?_)))) ?_
    .rw[Al ()]
    let c1:L3.Bw (S.map D.int) (some 1) none=(S.drop 1).map D.int:=by
     rw[NS (by show HT.sIx _ _ (some ((1:Nat):Int))=1;rw[HT.JL,AG];omega) (by rw[Ve,AG]),List.map_drop];exact E8 (by simp)
    let hi:IY (zD (toD (zC 1)) (zD (toD (fSl (zC 1) (Af (fC (.int 1))) AY)) zF)) [some (mD zA),some (tI S),none,none] M=some ((S.zip (S.drop 1)).map (λq=>D.tup [.int q.1,.int q.2]),none,M):=by
     let s1:=slE (f:=zC 1) (Y:=[some (mD zA),some (tI S),none,none]) rfl (oS (f:=fC (.int 1)) rfl) (rfl:AY _ M=some (none,M));rw[c1]at s1;have:=zL (f:=zC 1) rfl (zU s1);erw[IY];rw[this];show some ((((S.map D.int).zip ((S.drop 1).map D.int)).map λq=>D.tup [q.1,q.2]),none,M)=_;congr 2;rw[List.zip_map,CS];rfl
    calc Bp (Gj ?_) ⟨rfl,rfl⟩;rw[CS];exact Eh (S.zip (S.drop 1)) (λq=>D.tup [.int q.1,.int q.2]) (λq=> .bl (decide (q.1<q.2))) hi trivial (by rw[List.length_zip];omega) λq _=>⟨_,rfl,zE rfl rfl rfl⟩
   .rw[Q8];constructor
    .exact λh=>⟨S,rfl,⟨h,(),hS⟩⟩
    .rintro ⟨S',e',s⟩;have:S=S':=Jv (D.tup.inj e');subst this;calc s.pw
def Ii (I:Nat->Sd->Mem->Prop) (hg:∀ t Y M,I t Y M->Bv gd all M)
  (hs:∀ t x Y M,xs[t]?=some x->I t Y M -> ∃ σ1,g x Y=some σ1/\OkS (b σ1 M) λo σ2 M2=>match o with|.nx=>I (t+1) σ2 M2|.cnt=>I (t+1) σ2 M2|.brk=>P .nx σ2 M2|.ret d=>P (.ret d) σ2 M2)
  (he:∀ Y M,I xs.length Y M->P .nx Y M) (Y:Sd) (M:Mem) (h0:I 0 Y M):OkS (DJ g b all gd xs Y M) P:=by
 refine Iw (I:=λr Y M=>∃ t,r=xs.drop t/\t<=xs.length/\I t Y M) ?_ ?_ _ _ _ ⟨0,rfl,BK _,h0⟩
 .rintro x r Y M ⟨t,e,ht,hI⟩;let hx:xs[t]?=some x:=by
   have:=BO (·[0]?) e;simpa using this.symm
  let hr:r=xs.drop (t+1):=by
   have:=BO (List.drop 1) e;simpa using this
  let hlt:=(AK.mp hx).1;let⟨σ1,e1,q⟩:=hs t x Y M hx hI;calc ⟨hg t Y M hI,σ1,e1,OkS.mono q ?_⟩;intro o σ2 M2 z;cases o with
  |nx=>calc ⟨t+1,hr,hlt,z⟩
  |cnt=>calc ⟨t+1,hr,hlt,z⟩
  |brk=>calc z
  |ret d=>exact z
 .rintro Y M ⟨t,e,ht,hI⟩;have:t=xs.length:=by
   have:=BO List.length e;rw[Dh]at this;simp at this;omega
  subst this;calc ⟨hg _ Y M hI,he Y M hI⟩
def Kj (hf:f Y M=some (x,M)) (hx:zr M x=some (ks.map D.int)) (hz:ks.length<64):fB Dk (zK f zb) Y M=some (.fl ((zu ks).map D.int),M):=by
 erw[fB,zK,zb];rw[hf];show Dk [x] M=_;erw[Dk];dsimp only;rw[hx];dsimp only;rw[HA];dsimp only;rw[AD hz]
def CU:zQ (.dat (.int i)) (.dat (.int j)) M=some (.dat (.int (i+j)),M):=zY (Eo.mpr ⟨rfl,rfl⟩)
def fG (h:0<j/\j<1073741824):GP (.dat (.int i)) (.dat (.int j)) M=some (.dat (.int (i / j)),M):=zY (Kl.mpr ⟨h,rfl,rfl⟩)
def Tj (h:Gen M n k) (b1:1<=beat) (bm:beat<=many) (hm:many<=1000):Ok (Hd [.ref n,.int low,.int many,.int beat,.int room] M) λd M'=>(∃ v,d=.int v/\low<=v/\v<low+many)/\Nx M M' n k:=by
 erw[Hd];rw[B3];erw[KJ];calc Eu (zE (zE (zE rfl rfl J5) rfl CU) rfl (Fy ())) ?_;let f0:0<=(room-low+1) % beat:=Int.emod_nonneg _ ();let f1:=FJ (room-low+1) (show 0<beat by omega);generalize (room-low+1) % beat=first at f0 f1
 rw[Ey];let d0:0<=(many-1-first) / beat:=Int.ediv_nonneg () ();let d1:(many-1-first) / beat<=many-1-first:=Int.ediv_le_self _ ()
 refine Av.mpr (zH (zE rfl rfl CU) (Av.mpr (zm.mpr ⟨_,rfl,DP h rfl (zE (zE (zE (zE rfl rfl J5) rfl J5) rfl (fG ())) rfl CU) () () λv M' v0 v1 nx=>JD.mpr ⟨?_,Eo.mpr ?_⟩⟩)))
 .unfold GQ;simp;omega
 .have e:beat*v<=many-1-first:=by
   let h1:v<=(many-1-first) / beat:=()
   let h2:=Int.mul_le_mul_of_nonneg_left h1 (show 0<=beat by omega);let h3:=Int.mul_ediv_self_le (x:=many-1-first) (k:=beat) ();omega
  let e0:0<=beat*v:=Int.mul_nonneg () v0;rw[zJ];calc ⟨⟨_,rfl,(),()⟩,nx⟩
def SH (a0:0<=a) (a1:a<=R) (b0:0<=b) (b1:b<=R):∃ c1 c2,zu [0,a,b,R]=[0,c1,c2,R]/\0<=c1/\c1<=c2/\c2<=R:=by
 let key:∀ c1 c2:Int,[0,a,b,R].Perm [0,c1,c2,R]->0<=c1->c1<=c2->c2<=R->zu [0,a,b,R]=[0,c1,c2,R]:=λc1 c2 hp h0 h1 h2=>by
  refine ((EO _).trans hp).eq_of_pairwise (λx y _ _ hx hy=>Int.le_antisymm hx hy) (Ha _) ?_;simp;omega
 rcases Int.le_total a b with h|h
 .exact ⟨a,b,key a b (.refl _) a0 h b1,a0,h,b1⟩
 .exact ⟨b,a,key b a (.cons _ (.swap _ _ _)) b0 h a1,b0,h,a1⟩
def iV (zA:Ya):D.unds n (zA.map tI)=true:=zw λx hx=>by
 let⟨r,_,rfl⟩:=AU.mp hx;calc GN r
def Pq (ha:a Y M=some (k1,M)) (hb:b Y M=some (k2,M)):EE a b Y M=some (k1&&k2,M):=by
 erw[EE];rw[ha];ext k1
 .rfl
 .exact hb
def cA (h:Gen M n k):Ok (IE [.ref n,.int 26,.int 6] M) λd M'=>∃ zA l,d=mD zA/\IsM zA l/\zA.length<=26/\l<=6/\Nw M M' n k/\M'.length=M.length:=by
 let⟨hn,hk⟩:=h.lt;erw[IE];refine Ol ?_;rw[B3];erw[Mm];show OkS (zN _ _ [some (.ref n),some (.int 26),some (.int 6),none,none,none,none,none,none,none,none,none,none,none] M) _;rw[zI,zc];refine Av.mpr (BA.mpr (DP h rfl rfl () () λR0 M1 r0 r1 nx1=>Eo.mpr ?_));rw[zJ,zM,zI,zc];refine Av.mpr (BA.mpr (DP nx1.gen rfl rfl () () λW0 M2 w0 w1 nx2=>Eo.mpr ?_));rw[zJ,zM,zI,zc];generalize eR:1+R0=R;generalize eW:1+W0=W;show Ok (fB _ _ [some (.ref n),some (.int 26),some (.int 6),some (.int R),some (.int W),none,none,none,none,none,none,none,none,none] M2) _;let hR:∀ A:Mem,fOp zQ (zC 3) (fC (.int 1)) [some (.ref n),some (.int 26),some (.int 6),some (.int R),some (.int W),none,none,none,none,none,none,none,none,none] A=some (.dat (.int (R+1)),A):=λA=>zE (x:=.dat (.int R)) rfl rfl CU;refine He.mpr (IP.mpr (F6.mpr (DI.mpr (Bu.mpr (BA.mpr (zJ.mpr (DI.mpr (Bu.mpr (DP nx2.gen rfl (hR _) () () λa M3 a0 a1 nx3=>zJ.mpr (DI.mpr (Bu.mpr (DP nx3.gen rfl (hR _) () () λb M4 b0 b1 nx4=>zJ.mpr (DI.mpr (Bu.mpr (zm.mpr ⟨_,rfl,zJ.mpr (Ek.mpr ⟨zh (by simp),Hg.mpr ?_⟩)⟩)))))))))))))));let⟨c1,c2,ec,c10,c12,c2R⟩:=SH (R:=R) a0 () b0 ();let es:Dk [.fl [.int 0,.int a,.int b,.int R]] M4=some (.fl ([0,c1,c2,R].map D.int),M4):=by
  have:=Kj (f:=λ_ _=>some (.fl ([0,a,b,R].map D.int),M4)) (Y:=[]) (M:=M4) (x:=.fl ([0,a,b,R].map D.int)) (ks:=[0,a,b,R]) rfl De (by simp);rw[ec]at this;exact this
 calc zH es (zk ?_);let nw4:=(((nx1.trans nx2).trans nx3).trans nx4).nw;let lp:M.length<=M4.length:=nw4.len;let nw5:=nw4.trans (nw4.gen.lst ([0,c1,c2,R].map D.int) (Dr _ _));let e5:(M4++[MO.lst ([0,c1,c2,R].map D.int)])[M4.length]?=some (.lst ([0,c1,c2,R].map D.int)):=zZ _ _;generalize M4++[MO.lst ([0,c1,c2,R].map D.int)]=M5 at nw5 e5;generalize M4.length=p at lp e5;rw[zM,zI,zc];refine DP nw5.gen rfl rfl () () λF M6 F0 F1 nx6=>?_;let nw6:=nw5.trans nx6.nw;let e6:=nx6.nw.get e5 () ();rw[zJ,zM,zI,zc];calc F6.mpr (Ek.mpr ⟨zh (by simp),zk ?_⟩);let nw7:=nw6.trans (nw6.gen.lst [] rfl);let lp2:p<M6.length:=(AK.mp e6).1;let lq:M.length<=M6.length:=nw6.len;let e7:=(nw6.gen.lst [] rfl).get e6 () ();let e7':(M6++[MO.lst ([]:List D)])[M6.length]?=some (.lst (([]:List (List Int)).map tI)):=zZ _ _;generalize M6++[MO.lst ([]:List D)]=M7 at nw7 e7 e7';generalize M6.length=q at lp2 lq e7';rw[zM];show OkS (zN _ _ [some (.ref n),some (.int 26),some (.int 6),some (.int R),some (.int W),some (.ref p),some (.int F),some (.ref q),none,none,none,none,none,none] M7) _;rw[zI,Du];calc ⟨_,_,_,Fj (j:=3) rfl () (),?_⟩;refine Hv (n:=3) (I:=λt Y A=>(∃ y8 y9 y10 y11 y12 y13,Y=[some (.ref n),some (.int 26),some (.int 6),some (.int R),some (.int W),some (.ref p),some (.int F),some (.ref q),y8,y9,y10,y11,y12,y13])/\Nw M A n k/\A[p]?=some (.lst ([0,c1,c2,R].map D.int)) /\ ∃ zA:List (List Int),A[q]?=some (.lst (zA.map tI))/\(zA.length:Int)=[0,c1,c2,R].getD t 0 /\ ∀ r∈zA,r.length=W.toNat /\ ∀ g∈r,0<=g/\g<R) ?_ ?_ _ _ ⟨⟨_,_,_,_,_,_,rfl⟩,nw7,e7,[],e7',rfl,λ_ h=>by ext h⟩
 .rintro t Y A ht ⟨⟨y8,y9,y10,y11,y12,y13,rfl⟩,nw,ep,zA,eq,hrl,hrow⟩;refine ⟨_,rfl,?_⟩;let cu:∃ u v:Int,[0,c1,c2,R].getD t 0=u/\[0,c1,c2,R].getD (t+1) 0=v/\0<=u/\u<=v/\v<=R:=by
   calc ⟨_,_,rfl,rfl,?_⟩;rcases (show t=0\/t=1\/t=2 by omega)with rfl|rfl|rfl
   .exact ⟨Int.le_refl 0,c10,Int.le_trans c12 c2R⟩
   .exact ⟨c10,c12,c2R⟩
   .exact ⟨Int.le_trans c10 c12,c2R,Int.le_refl _⟩
  let⟨u,v,eu,ev,u0,uv,vR⟩:=cu;let iu:∀ (Y:Sd) (A:Mem),A[p]?=some (.lst ([0,c1,c2,R].map D.int))->Y[5]?=some (some (.ref p))->Y[8]?=some (some (.int (t:Nat)))->fOp kIx (zC 5) (zC 8) Y A=some (.dat (.int u),A):=λY A ep s5 s8=>by
   calc zE (by erw[zC];rw[s5]) (by erw[zC];rw[s8]) (D4 (zj ep) ?_);rw[Mv () (by simp;omega),Bc,eu]
  let iv:∀ (Y:Sd) (A:Mem),A[p]?=some (.lst ([0,c1,c2,R].map D.int))->Y[5]?=some (some (.ref p))->Y[8]?=some (some (.int (t:Nat)))->fOp kIx (zC 5) (fOp zQ (zC 8) (fC (.int 1))) Y A=some (.dat (.int v),A):=λY A ep s5 s8=>by
   calc zE (by erw[zC];rw[s5]) (zE (by erw[zC];rw[s8]) rfl CU) (D4 (zj ep) ?_);rw[Mv () (by simp;omega),show ((t:Nat)+1:Int).toNat=t+1 by omega,ev]
  show OkS (zN _ _ [some (.ref n),some (.int 26),some (.int 6),some (.int R),some (.int W),some (.ref p),some (.int F),some (.ref q),some (.int (t:Nat)),y9,y10,y11,y12,y13] A) _;calc Eu (zE (iv _ _ ep rfl rfl) (iu _ _ ep rfl rfl) J5) ?_;rw[zI,zc];let hmx:(if v-u>1 then v-u else 1)<=26/\1<=(if v-u>1 then v-u else 1)/\(u<v->(if v-u>1 then v-u else 1)=v-u):=by split <;> omega
  refine Av.mpr (BA.mpr (DP nw.gen rfl (Vu (j:=v-u) rfl rfl) () () λB0 A1 B00 B01 nx8=>Eo.mpr ?_));rw[zJ,zM];generalize eB:1+B0=B;let nw8:=nw.trans nx8.nw;let ep1:=nx8.nw.get ep () ();let eq1:=nx8.nw.get eq () ();show OkS (B9 _ _ _ [some (.ref n),some (.int 26),some (.int 6),some (.int R),some (.int W),some (.ref p),some (.int F),some (.ref q),some (.int (t:Nat)),some (.int (v-u)),some (.int B),y11,y12,y13] A1) _;rw[Du];calc ⟨_,_,_,Qw (iu _ _ ep1 rfl rfl) (iv _ _ ep1 rfl rfl) () () () (),?_⟩;rw[eu]at hrl;refine Ii (gd:=none) (I:=λs Y A=>(∃ y11 y12 y13,Y=[some (.ref n),some (.int 26),some (.int 6),some (.int R),some (.int W),some (.ref p),some (.int F),some (.ref q),some (.int (t:Nat)),some (.int (v-u)),some (.int B),y11,y12,y13])/\Nw M A n k/\A[p]?=some (.lst ([0,c1,c2,R].map D.int)) /\ ∃ zA:List (List Int),A[q]?=some (.lst (zA.map tI))/\(zA.length:Int)=u+(s:Int) /\ ∀ r∈zA,r.length=W.toNat /\ ∀ g∈r,0<=g/\g<R) (λ_ _ _ _=>trivial) ?_ ?_ _ _ ⟨⟨_,_,_,rfl⟩,nw8,ep1,zA,eq1,(),hrow⟩
  .rintro s x Y A ex ⟨⟨y11,y12,y13,rfl⟩,nw,ep,zA,eq,hrl,hrow⟩;let hs:s<(v-u).toNat:=by
    have:=(AK.mp ex).1;rw[AG,Ep]at this;exact this
   rw[AW,GG hs]at ex;ext ex;calc ⟨_,rfl,?_⟩;let hBm:B<=v-u:=by have:=hmx.2.2 ();omega
   let fin:∀ (A':Mem) (z:Nat) (c:Ye) (y13:Option D),Nw A A' n k->A'[z]?=some (.lst (c.map D.int))->c.length=W.toNat->(∀ g∈c,0<=g/\g<R)->OkS (BL (fM Bh (zC 7) (zD (toD (fB CC (zK (fB Dk (zK (zC 12) zb)) zb))) zF)) [some (.ref n),some (.int 26),some (.int 6),some (.int R),some (.int W),some (.ref p),some (.int F),some (.ref q),some (.int (t:Nat)),some (.int (v-u)),some (.int B),some (.int (u+(s:Int))),some (.ref z),y13] A') λo σ2 M2=>match o with
     |.nx=>(∃ y11 y12 y13,σ2=[some (.ref n),some (.int 26),some (.int 6),some (.int R),some (.int W),some (.ref p),some (.int F),some (.ref q),some (.int (t:Nat)),some (.int (v-u)),some (.int B),y11,y12,y13])/\Nw M M2 n k/\M2[p]?=some (.lst ([0,c1,c2,R].map D.int)) /\ ∃ zA:List (List Int),M2[q]?=some (.lst (zA.map tI))/\(zA.length:Int)=u+((s+1:Nat):Int) /\ ∀ r∈zA,r.length=W.toNat /\ ∀ g∈r,0<=g/\g<R
     |_=>False:=by
    intro A' z c y13 nw' ez hc hcr;let ep':=nw'.get ep () ();let eq':=nw'.get eq () ();rw[Em];calc Ea.mpr (zm.mpr ⟨_,rfl,⟨_,Dm eq'⟩,?_⟩);calc zH (zU (d:=tI (zu c)) (Fb (Kj (x:=.dat (.ref z)) rfl (zj ez) ()) De)) ?_;refine (HS eq' (BC (by rw[AG];omega) (zh (n:=100) ()))).mpr ⟨⟨_,_,_,rfl⟩,(nw.trans nw').setB h lq ?_,?_,zA++[zu c],?_,by rw[AV];simp;omega,λr hr=>?_⟩
    .show D.unds _ _=true;rw[RF,iV];show (true&&D.unds _ [tI (zu c)])=true;erw[D.unds,D.unds];rw[show D.und A'.length (tI (zu c))=true from GN _];rfl
    .rw[Bl ()];exact ep'
    .rw[Br (AK.mp eq').1,Cv];rfl
    .rcases AR.mp hr with z|z
     .exact hrow r z
     .rw[Ae.mp z];exact ⟨by rw[(EO c).length_eq];exact hc,λg hg=>hcr g ((EO c).mem_iff.mp hg)⟩
   show OkS (zN _ _ [some (.ref n),some (.int 26),some (.int 6),some (.int R),some (.int W),some (.ref p),some (.int F),some (.ref q),some (.int (t:Nat)),some (.int (v-u)),some (.int B),some (.int (u+(s:Int))),y12,y13] A) _;rw[zI,zc];calc F7.mpr ⟨_,_,_,Fj (j:=W) rfl () (),by rw[Jk];calc zh (),?_⟩;refine Ok.mono (Ky (n:=W.toNat) (I:=λj acc A'=>Nx A A' n k /\ ∃ c:List Int,acc=c.map D.int/\c.length=j /\ ∀ g∈c,0<=g/\g<R) ?_ ⟨.refl nw.gen,[],rfl,rfl,λ_ h=>by ext h⟩) ?_
   .rintro j acc A' hj ⟨nx,c,rfl,hc,hcr⟩;refine ⟨_,rfl,?_⟩;refine IC.mpr (zH (zL (d:=.ref n) rfl (zL (iu _ _ (nx.nw.get ep () ()) rfl rfl) (zL (d:=.int (v-u)) rfl (zL (d:=.int B) rfl (zU (d:=.int (u+(s:Int))) rfl))))) (Ok.mono (Tj nx.gen () hBm ()) ?_));rintro d A2 ⟨⟨w,rfl,w0,w1⟩,nx2⟩;rw[zJ];refine ⟨nx.trans nx2,c++[w],by simp,by simp[hc],λg hg=>?_⟩;rcases AR.mp hg with z|z
    .exact hcr g z
    .rw[Ae.mp z];omega
   .rintro ys A' ⟨nx,c,rfl,hc,hcr⟩;calc zk ?_;rw[zM];let nw1:=nx.nw.trans (nx.gen.lst (c.map D.int) (Dr _ _));let e1:(A'++[MO.lst (c.map D.int)])[A'.length]?=some (.lst (c.map D.int)):=zZ _ _;generalize A'++[MO.lst (c.map D.int)]=A2 at nw1 e1;generalize A'.length=z at e1;show OkS (zN _ _ [some (.ref n),some (.int 26),some (.int 6),some (.int R),some (.int W),some (.ref p),some (.int F),some (.ref q),some (.int (t:Nat)),some (.int (v-u)),some (.int B),some (.int (u+(s:Int))),some (.ref z),y13] A2) _;let hcond:=Pq (a:=tst (fOp kEq (zC 8) (fC (.int 2)))) (b:=tst (fOp kEq (zC 6) (fC (.int 1)))) (Y:=[some (.ref n),some (.int 26),some (.int 6),some (.int R),some (.int W),some (.ref p),some (.int F),some (.ref q),some (.int (t:Nat)),some (.int (v-u)),some (.int B),some (.int (u+(s:Int))),some (.ref z),y13]) (M:=A2) (BJ (zE (x:=.dat (.int (t:Nat))) (y:=.dat (.int 2)) rfl rfl eqE)) (BJ (zE (x:=.dat (.int F)) (y:=.dat (.int 1)) rfl rfl eqE));cases hk2:(decide (((t:Nat):Int)=2)&&decide (F=1)) with
    |false=>
     rw[hk2]at hcond;calc Ef hcond (OkS.mono (fin A2 z c y13 nw1 e1 hc hcr) ?_);intro o σ2 M2 x;cases o with
     |nx=>calc x
     |_=>ext x
    |true=>
     rw[hk2]at hcond;calc Cm hcond ?_;rw[zc];calc F7.mpr ⟨_,_,_,Fj (j:=W) rfl () (),by rw[Jk];calc zh (),?_⟩;refine Ok.mono (Ky (n:=W.toNat) (I:=λj acc A'=>Nx A2 A' n k /\ ∃ c:List Int,acc=c.map D.int/\c.length=j /\ ∀ g∈c,0<=g/\g<R) ?_ ⟨.refl nw1.gen,[],rfl,rfl,λ_ h=>by ext h⟩) ?_
     .rintro j acc A' hj ⟨nx,c,rfl,hc,hcr⟩;refine ⟨_,rfl,DP (m:=R) nx.gen rfl rfl () () λw A3 w0 w1 nx2=>?_⟩;rw[zJ];refine ⟨nx.trans nx2,c++[w],by simp,by simp[hc],λg hg=>?_⟩;rcases AR.mp hg with z|z
      .exact hcr g z
      .rw[Ae.mp z];omega
     .rintro ys A' ⟨nx,c,rfl,hc,hcr⟩;calc zk ?_;rw[zM];let nw2:=nw1.trans (nx.nw.trans (nx.gen.lst (c.map D.int) (Dr _ _)));let e2:(A'++[MO.lst (c.map D.int)])[A'.length]?=some (.lst (c.map D.int)):=zZ _ _;calc OkS.mono (fin _ _ c _ nw2 e2 hc hcr) ?_;intro o σ2 M2 x;cases o with
      |nx=>calc x
      |_=>ext x
  .rintro Y A ⟨⟨y11,y12,y13,rfl⟩,nw,ep,zA,eq,hrl,hrow⟩;rw[AG,Ep]at hrl;exact ⟨⟨_,_,_,_,_,_,rfl⟩,nw,ep,zA,eq,by rw[ev];omega,hrow⟩
 .rintro Y A ⟨⟨y8,y9,y10,y11,y12,y13,rfl⟩,nw,ep,zA,eq,hrl,hrow⟩;let hrl:(zA.length:Int)=R:=hrl;rw[zM];calc Bp (d:=mD zA) (Fb (x:=.dat (.ref q)) rfl (zj eq)) ?_;refine ⟨⟨MK zA,nw.len,λj u hj e=>nw.wf0 h j u hj e⟩,zA,W.toNat,rfl,⟨(),(),λr hr=>?_⟩,(),(),nw.trim h,by have:=nw.len;rw[Bg];omega⟩;let⟨q1,q2⟩:=hrow r hr;calc ⟨q1,λg hg=>by rw[hrl];calc q2 g hg⟩
def MM:FS:=(zN (AN 1 (Ar [2] (Bx (zD (toD (fB AZ (zK (zC 0) zb))) zF)) (gN 2) Ab (fOp EH (Aq (zD (toD (zC 2)) zF)) (Ar [3] (AQ (Gm (Dz (fOp kIx (zC 0) (zC 2))))) (gN 3) (tst (fOp kNe (zC 3) (zC 2))) (zC 3)))))
  (zN (B9 (Bx (zD (toD (fB AZ (zK (zC 0) zb))) zF)) (gN 4) (B9 (Bx (zD (toD (fB AZ (zK (zC 0) zb))) zF)) (gN 2) (sIf (tst (fOp (kIn false) (zC 4) (fOp kIx (zC 1) (zC 2)))) (zN (AN 5 (Ar [3] (AQ (fOp kIx (zC 1) (zC 4))) (gN 3) (tst (fOp (kIn true) (zC 3) (fOp kIx (zC 1) (zC 2)))) (zC 3)))
  (Fq (fOp EH (fOp kIx (zC 1) (zC 2)) (zC 5)) (zC 1) (zC 2))) BP)))
  (Aa (zC 1))))
def IW:FF:=BH 6 MM
def LJ:FS:=(zN (AN 1 (ze IW (zD (toD (zC 0)) zF)))
  (zN (AN 2 (Aq zF))
  (zN (B9 (Bx (zD (toD (fB AZ (zK (zC 0) zb))) zF)) (gN 3) (zN (AN 4 (fB CC (zK (fB Dk (zK (fOp kIx (zC 1) (zC 3)) zb)) zb)))
  (sIf (EE (tst (fOp (G6 true) (zC 4) (zC 2))) (tst (fB Dw (zK (Ar [5] (AQ (zC 4)) (gN 5) Ab (fOp (kIn false) (zC 3) (fOp kIx (zC 1) (zC 5)))) zb)))) (BL (fM Bh (zC 2) (zD (toD (zC 4)) zF))) BP)))
  (Aa (fB Gk (zK (zC 2) zb))))))
def IJ:FF:=BH 6 LJ
def Ex (M A:Mem):Prop:=∃ us,A=M++us
def Ex.refl (M:Mem):Ex M M:=⟨[],by simp⟩
def Ex.app (h:Ex M A) (vs:Mem):Ex M (A++vs):=by let⟨us,rfl⟩:=h;calc ⟨us++vs,by simp⟩
def Ex.len (h:Ex M A):M.length<=A.length:=by let⟨us,rfl⟩:=h;simp
def Ex.set (h:Ex M A) (hp:M.length<=p) (u:MO):Ex M (A.set p u):=by
 let⟨us,rfl⟩:=h;calc ⟨us.set (p-M.length) u,by rw[List.set_append_right _ _ hp]⟩
def Ex.get {M A:Mem} (h:Ex M A) {j:Nat} {u:MO} (e:M[j]?=some u):A[j]?=some u:=by
 let⟨us,rfl⟩:=h;rw[Bf (AK.mp e).1];calc e
def Ex.take (h:Ex M A):A.take M.length=M:=by let⟨us,rfl⟩:=h;simp
def D1 {A:Mem} {j:Nat} {u:MO} (e:A[j]?=some u) (vs:Mem):(A++vs)[j]?=some u:=by rw[Bf (AK.mp e).1];calc e
def OR {m:FF} {ds:List D} {M:Mem} {Q:D->Prop} (wf:∀ (j:Nat) u,M[j]?=some u->MO.und M.length u=true) (h:Ok (m ds M) λd A=>D.und 0 d=true/\Ex M A/\Q d):Ok (Ff m ds M) λd A=>A=M/\Q d:=by
 calc Ol (Ok.mono h ?_);rintro d A ⟨hd,hx,q⟩;refine ⟨⟨ID (BK _) hd,hx.len,λj u hj e=>wf j u ?_⟩,hx.take,q⟩;let⟨us,rfl⟩:=hx;rw[Bf hj]at e;calc e
def Ms {c:Ye} (h:zr M y=some (c.map D.int)):kIn neg (.dat (.int x)) y M=some (.dat (.bl (if neg then !decide (x∈c) else decide (x∈c))),M):=by
 erw[kIn];dsimp only;rw[h];dsimp only;rw[HA];have:(c.any λy=>decide (y=x))=decide (x∈c):=by
  rw[C9,List.any_eq_true,decide_eq_true_iff];exact ⟨λ⟨y,hy,e⟩=>by rw[<-B2 e];exact hy,λhx=>⟨x,hx,by simp⟩⟩
 dsimp only;rw[this]
def mlR (h:M[n]?=some (.lst xs)):EW M (.dat (.ref n))=some xs:=by
 erw[EW];dsimp only;rw[h]
def Hl (hx:EW M x=some xs) (hy:EW M y=some ys) (hz:xs.length+ys.length<=90000):EH x y M=some (.fl (xs++ys),M):=by
 erw[EH];rw[hx,hy];dsimp only;rw[AD (zh ())]
def Lds (A:Mem) (p:Nat) (L:Ya):Prop:=∃ js:List Nat,A[p]?=some (.lst (js.map D.ref))/\js.length=L.length /\ ∀ r,r<L.length -> ∃ j,js[r]?=some j/\j≠p/\A[j]?=some (.lst ((L.getD r []).map D.int))
def Lds.app {A:Mem} {p:Nat} {L:Ya} (h:Lds A p L) (vs:Mem):Lds (A++vs) p L:=by
 let⟨js,e,hl,hj⟩:=h;calc ⟨js,D1 e vs,hl,λr hr=>let ⟨j,a,b,c⟩:=hj r hr;⟨j,a,b,D1 c vs⟩⟩
theorem Lds.at (h:Lds A p L) (x0:0<=x) (x1:x<(L.length:Int)):∃ j,kIx (.dat (.ref p)) (.dat (.int x)) A=some (.dat (.ref j),A)/\A[j]?=some (.lst ((L.getD x.toNat []).map D.int)):=by
 let⟨js,e,hl,hj⟩:=h;let⟨j,a,b,c⟩:=hj x.toNat ();calc ⟨j,D4 (zj e) ?_,c⟩;have:=HR (xs:=js.map D.ref) (by rw[AW,a];rfl);rw[show ((x.toNat:Nat):Int)=x by omega]at this;calc this
def Qh {L:Ya} (ht:t<L.length):(L.set t l).getD r []=if r=t then l else L.getD r []:=by
 rw[By,DN];by_cases h:t=r
 .subst h;rw[AD rfl,AD ht,AD rfl];rfl
 .rw[AE h,AE λe=>h e.symm,By]
def Lds.put {A:Mem} {L:Ya} (h:Lds A p L) {l:Ye} (ht:t<L.length) (hz:z≠p) (ez:A[z]?=some (.lst (l.map D.int))):∃ u,GH (.dat (.ref p)) (.int (t:Nat)) (.ref z) A=some (A.set p u)/\Lds (A.set p u) p (L.set t l):=by
 let⟨js,e,hl,hj⟩:=h;let hp:=(AK.mp e).1;refine ⟨.lst ((js.set t z).map D.ref),?_,js.set t z,Br hp,by rw[C1,C1];exact hl,λr hr=>?_⟩
 .unfold GH;dsimp only;rw[e];dsimp only;rw[show ixN (js.map D.ref).length (t:Nat)=some t by erw[ixN];rw[AD (),AD (by rw[AG];omega),Bc]];rw[List.map_set]
 .rw[C1]at hr;rw[Qh ht,DN];by_cases q:t=r
  .subst q;rw[AD rfl,AD (),AD rfl];exact ⟨z,rfl,hz,by rw[Bl (λe=>hz e.symm)];calc ez⟩
  .rw[AE q,AE λe=>q e.symm];let⟨j,a,b,c⟩:=hj r hr;calc ⟨j,a,b,by rw[Bl (λe=>b e.symm)];calc c⟩
def i3 {X YY:Ya} (h:X.length=YY.length) (e:∀ r,r<X.length->X.getD r []=YY.getD r []):X=YY:=by
 refine List.ext_getElem h λr h1 h2=>?_;have:=e r h1;rwa [By,By,AM h1,AM h2]at this
def ld0 (zA:Ya) (r:Nat):List Int:=(r:Int)::(ris (zA.getD r [])).filter λg=>decide (g≠(r:Int))
def JK:x∈ld0 zA r ↔ x=(r:Int)\/x∈zA.getD r []:=by
 erw[ld0];rw[AJ,List.mem_filter,WJ,B4];by_cases h:x=(r:Int)
 .simp[h]
 .simp[h]
section
variable {zA:Ya} {l:Nat}
def Wsh.start (m:IsM zA l):Wsh zA 0 ((List.range zA.length).map (ld0 zA)):=by
 let gt:∀ r,r<zA.length->((List.range zA.length).map (ld0 zA)).getD r []=ld0 zA r:=λr hr=>by
  rw[By,AW,GG hr];rfl
 let rg:∀ r,r<zA.length -> ∀ x∈ld0 zA r,0<=x/\x<(zA.length:Int):=λr hr x hx=>by
  rcases JK.mp hx with z|z
  .omega
  .exact (m.row _ (DX hr)).2 x z
 refine ⟨by simp,λl hl=>?_,λl hl=>?_,λr hr=>?_,λr hr g hg=>?_,λu v _ hv=>absurd hv (Nat.not_lt_zero _),λS hS u hu su w hw=>?_⟩
 .obtain ⟨r,hr,rfl⟩:=AU.mp hl;erw[ld0];refine List.nodup_cons.mpr ⟨λh=>?_,((Zz _).imp λz=>Int.ne_of_lt z).filter _⟩;have:=(List.mem_filter.mp h).2;simp at this
 .obtain ⟨r,hr,rfl⟩:=AU.mp hl;exact rg r (DR.mp hr)
 .rw[gt r hr];exact JK.mpr (.inl rfl)
 .rw[gt r hr];exact JK.mpr (.inr hg)
 .rw[gt u hu]at hw;rcases JK.mp hw with z|z
  .rw[z];exact su
  .exact hS u () () su w (by erw[gl];rw[Bc];calc z)
def LO (m:IsM zA l) (x0:0<=x) (x1:x<(zA.length:Int)) (hf:f Y A=some (.dat (mD zA),A)) (hg:g Y A=some (.dat (.int x),A)):fOp kIx f g Y A=some (.dat (tI (gl zA x)),A):=zE hf hg (D4 CT (V3 x0 x1))
def IZ (m:IsM zA l) (x0:0<=x) (x1:x<(zA.length:Int)):(gl zA x).length=l /\ ∀ g∈gl zA x,0<=g/\g<(zA.length:Int):=m.get x0 x1
def Y4 (m:IsM zA l) (h26:zA.length<=26) (hl:l<=6) (M:Mem):Ok (IW [mD zA] M) λd A=>∃ p L,d=.ref p/\Ex M A/\Lds A p L/\Wsh zA zA.length L:=by
 erw[IW];rw[B3];erw[MM];show OkS (zN _ _ [some (mD zA),none,none,none,none,none] M) _;rw[zI,zc];calc F7.mpr ⟨_,_,_,Fj (EL rfl) () (),by rw[Jk];calc zh (),?_⟩;rw[Bc];refine Ok.mono (Ky (n:=zA.length) (I:=λi acc A=>Ex M A /\ ∃ js:List Nat,acc=js.map D.ref/\js.length=i /\ ∀ r,r<i -> ∃ j,js[r]?=some j/\j<A.length/\A[j]?=some (.lst ((ld0 zA r).map D.int))) ?_ ⟨.refl M,[],rfl,rfl,λr hr=>absurd hr (Nat.not_lt_zero _)⟩) ?_
 .rintro i acc A hi ⟨hx,js,rfl,hjl,hj⟩;refine ⟨_,rfl,?_⟩;let gln:=IZ m (x:=(i:Nat)) () ();let hrow:fOp kIx (zC 0) (zC 2) [some (mD zA),none,some (.int (i:Nat)),none,none,none] A=some (.dat (tI (gl zA (i:Nat))),A):=LO m () () rfl rfl;let hset:=K0 (ks:=gl zA (i:Nat)) hrow CT ();let hsz:(za (gl zA (i:Nat))).length<64:=En (JU _) ();let hfil:=Hc (own:=[3]) (fi:=AQ (Gm (Dz (fOp kIx (zC 0) (zC 2))))) (g:=gN 3) (tc:=tst (fOp kNe (zC 3) (zC 2))) (te:=zC 3) (Y:=[some (mD zA),none,some (.int (i:Nat)),none,none,none]) (M:=A) (ris (gl zA (i:Nat))) D.int D.int (λg=>decide (g≠((i:Nat):Int))) (gJ (hJ hset hsz)) trivial (by have:=Nq (gl zA (i:Nat));omega) λa ha=>⟨_,rfl,BJ (zE rfl rfl (zY (KH.mpr ⟨rfl,rfl⟩))),λ_=>rfl⟩;let hfl:(((ris (gl zA (i:Nat))).filter λg=>decide (g≠((i:Nat):Int))).map D.int).length<=100:=by
   rw[AG];have:=List.length_filter_le (λg=>decide (g≠((i:Nat):Int))) (ris (gl zA (i:Nat)));have:=Nq (gl zA (i:Nat));omega
  calc zH (zE (Et (zU rfl) (by simp)) hfil (Hl rfl rfl (by rw[List.length_singleton];omega))) (zk ?_);refine ⟨hx.app _,js++[A.length],by simp,by simp[hjl],λr hr=>?_⟩;by_cases q:r=i
  .subst q;calc ⟨A.length,by rw[Ee (),hjl,Nat.sub_self];rfl,by simp,?_⟩;rw[zZ];erw[ld0,gl];rw[Bc];rfl
  .obtain ⟨j,a,b,c⟩:=hj r ();exact ⟨j,by rw[Bf ()];calc a,by simp;omega,D1 c _⟩
 .rintro ys A ⟨hx,js,rfl,hjl,hj⟩;refine zk ?_;rw[zM];let hLd:Lds (A++[MO.lst (js.map D.ref)]) A.length ((List.range zA.length).map (ld0 zA)):=by
   refine ⟨js,zZ _ _,by simp[hjl],λr hr=>?_⟩;let hr:r<zA.length:=by simpa using hr
   let⟨j,a,b,c⟩:=hj r hr;calc ⟨j,a,(),?_⟩;rw[D1 c _,By,AW,GG hr];rfl
  let hx2:=hx.app [MO.lst (js.map D.ref)];let hp:=hx.len;generalize A++[MO.lst (js.map D.ref)]=A2 at hLd hx2;generalize A.length=p at hLd hp;show OkS (zN _ _ [some (mD zA),some (.ref p),none,none,none,none] A2) _;rw[zI,Du];calc ⟨_,_,_,Fj (EL rfl) () (),?_⟩;rw[Bc];refine Hv (n:=zA.length) (I:=λt Y A=>(∃ y2 y3 y4 y5,Y=[some (mD zA),some (.ref p),y2,y3,y4,y5])/\Ex M A /\ ∃ L,Lds A p L/\Wsh zA t L) ?_ ?_ _ _ ⟨⟨_,_,_,_,rfl⟩,hx2,_,hLd,.start m⟩
  .rintro t Y A ht ⟨⟨y2,y3,y4,y5,rfl⟩,hx,L,hLd,hW⟩;let hWl:=hW.len;let ll:∀ r,r<zA.length->(L.getD r []).length<=26:=λr hr=>by
    let h1:=(hW.nd _ (DX (L:=L) (r:=r) ())).length_le_of_subset (l₂:=(List.range zA.length).map λ(k:Nat)=>(k:Int)) λx hx=>by
     let⟨x0,x1⟩:=hW.rg _ (DX (L:=L) (r:=r) ()) x hx;exact AU.mpr ⟨x.toNat,DR.mpr (),()⟩
    rw[AG,Ep]at h1;omega
   calc ⟨_,rfl,?_⟩;show OkS (B9 _ _ _ [some (mD zA),some (.ref p),y2,y3,some (.int (t:Nat)),y5] A) _;rw[Du];calc ⟨_,_,_,Fj (EL rfl) () (),?_⟩;rw[Bc];refine Hv (n:=zA.length) (I:=λs Y A=>(∃ y2 y3 y5,Y=[some (mD zA),some (.ref p),y2,y3,some (.int (t:Nat)),y5])/\Ex M A /\ ∃ Lc:List (List Int),Lds A p Lc/\Lc.length=zA.length /\ ∀ r,r<zA.length->Lc.getD r []=if r<s then wst L t (L.getD r []) else L.getD r []) ?_ ?_ _ _ ⟨⟨_,_,_,rfl⟩,hx,L,hLd,hW.len,λr _=>(AE (Nat.not_lt_zero _)).symm⟩
   .rintro s Y A hs ⟨⟨y2,y3,y5,rfl⟩,hx,Lc,hLc,hcl,hc⟩;refine ⟨_,rfl,?_⟩;let cs:Lc.getD s []=L.getD s []:=by rw[hc s hs,AE (BN _)]
    let ct:Lc.getD t []=L.getD t []:=by
     rw[hc t ht];split
     .exact XX
     .rfl
    let⟨j,k1,e1⟩:=hLc.at (x:=(s:Nat)) () ();let⟨j2,k2,e2⟩:=hLc.at (x:=(t:Nat)) () ();rw[Bc,cs]at e1;rw[Bc,ct]at e2;let ls:=ll s hs;let lt:=ll t ht;show OkS (sIf _ _ _ [some (mD zA),some (.ref p),some (.int (s:Nat)),y3,some (.int (t:Nat)),y5] A) _;let hix:∀ (Y:Sd),Y[1]?=some (some (.ref p))->Y[2]?=some (some (.int (s:Nat)))->fOp kIx (zC 1) (zC 2) Y A=some (.dat (.ref j),A):=λY s1 s2=>zE (x:=.dat (.ref p)) (y:=.dat (.int (s:Nat))) (by erw[zC];rw[s1]) (by erw[zC];rw[s2]) k1;rw[ET];calc zH (BJ (zE (x:=.dat (.int (t:Nat))) rfl (hix _ rfl rfl) (Ms (neg:=false) (zj e1)))) ?_;by_cases hm:(t:Int)∈L.getD s []
    .rw[AD (by simp;simpa using hm)];let hcomp:=Hc (own:=[3]) (fi:=AQ (fOp kIx (zC 1) (zC 4))) (g:=gN 3) (tc:=tst (fOp (kIn true) (zC 3) (fOp kIx (zC 1) (zC 2)))) (te:=zC 3) (Y:=[some (mD zA),some (.ref p),some (.int (s:Nat)),y3,some (.int (t:Nat)),y5]) (M:=A) (L.getD t []) D.int D.int (λg=>decide (g∉L.getD s [])) (Fc (zE (x:=.dat (.ref p)) (y:=.dat (.int (t:Nat))) rfl rfl k2) (zj e2)) (.inl e2) () λa ha=>⟨_,rfl,(BJ (zE (x:=.dat (.int a)) rfl (hix _ rfl rfl) (Ms (neg:=true) (zj e1)))).trans (by simp),λ_=>rfl⟩;rw[zI,zc];refine zH hcomp (zk ?_);rw[zM];let hml:((L.getD t []).filter λg=>decide (g∉L.getD s [])).length<=26:=Ao (List.length_filter_le _ _) lt;let hwe:wst L t (L.getD s [])=L.getD s []++(L.getD t []).filter λg=>decide (g∉L.getD s []):=by erw[wst];rw[AD hm]
     generalize (L.getD t []).filter (λg=>decide (g∉L.getD s []))=more at hml hwe;let e1':=D1 e1 [MO.lst (more.map D.int)];let e3:(A++[MO.lst (more.map D.int)])[A.length]?=some (.lst (more.map D.int)):=zZ _ _;let hLc':=hLc.app [MO.lst (more.map D.int)];let hx':=hx.app [MO.lst (more.map D.int)];let⟨j',k1',e1''⟩:=hLc'.at (x:=(s:Nat)) () ();rw[Bc,cs]at e1'';generalize A++[MO.lst (more.map D.int)]=A1 at e1' e3 hLc' hx' k1' e1'';generalize A.length=z at e3;show OkS (Fq _ _ _ [some (mD zA),some (.ref p),some (.int (s:Nat)),y3,some (.int (t:Nat)),some (.ref z)] A1) _;rw[MV];refine zH (zE (x:=.dat (.ref j')) (y:=.dat (.ref z)) (zE (x:=.dat (.ref p)) (y:=.dat (.int (s:Nat))) rfl rfl k1') rfl (Hl (mlR e1'') (mlR e3) (by rw[AG,AG];omega))) (zk ?_);rw[<-Cv,<-hwe];refine zm.mpr ⟨_,rfl,zm.mpr ⟨_,rfl,zJ.mpr ?_⟩⟩;let hpz:A1.length≠p:=by
      let⟨js,e,_⟩:=hLc';have:=(AK.mp e).1;omega
     let⟨u,k3,hLn⟩:=(hLc'.app [MO.lst ((wst L t (L.getD s [])).map D.int)]).put (t:=s) (l:=wst L t (L.getD s [])) () hpz (zZ _ _);refine ⟨_,k3,⟨_,_,_,rfl⟩,(hx'.app _).set hp u,_,hLn,by rw[C1];exact hcl,λr hr=>?_⟩;rw[Qh ()];by_cases q:r=s
     .subst q;rw[AD rfl,AD (DU _)]
     .rw[AE q,hc r hr];by_cases q2:r<s
      .rw[AD q2,AD ()]
      .rw[AE q2,AE ()]
    .rw[AE (by simp;simpa using hm),Fe];refine ⟨⟨_,_,_,rfl⟩,hx,Lc,hLc,hcl,λr hr=>?_⟩;rw[hc r hr];by_cases q:r=s
     .subst q;rw[AE (BN _),AD (DU _)];erw[wst];rw[AE hm]
     .by_cases q2:r<s
      .rw[AD q2,AD ()]
      .rw[AE q2,AE ()]
   .rintro Y A ⟨⟨y2,y3,y5,rfl⟩,hx,Lc,hLc,hcl,hc⟩;have:Lc=L.map (wst L t):=i3 (by rw[AG];omega) λr hr=>by
     rw[hcl]at hr;rw[hc r hr,AD hr,Oe ()]
    subst this;exact ⟨⟨_,_,_,_,rfl⟩,hx,_,hLc,hW.step ht⟩
  .rintro Y A ⟨⟨y2,y3,y4,y5,rfl⟩,hx,L,hLd,hW⟩;rw[zM];calc Bp (d:=.ref p) rfl ⟨p,L,rfl,hx,hLd,hW⟩
end
def IA (p:Ye):BS 1 (tI p)=true:=by
 show (p.map D.int).all (BS 0)=true;rw[Ap];intro x hx;let⟨i,_,rfl⟩:=AU.mp hx;rfl
def MT (h:tI p=tI q):p=q:=(List.map_inj_right (λ_ _ h=>D.int.inj h)).mp (D.tup.inj h)
def XB {ps:Ya} (h:zr M y=some (ps.map tI)):G6 neg (.dat (tI p)) y M=some (.dat (.bl (nb neg (decide (p∈ps)))),M):=by
 let ht:(ps.map tI).all (BS 1)=true:=by
  rw[Ap];intro x hx;let⟨q,_,rfl⟩:=AU.mp hx;exact IA q
 let he:((ps.map tI).any λe=>BR 1 e (tI p))=decide (p∈ps):=by
  rw[C9,List.any_eq_true,decide_eq_true_iff];constructor
  .rintro ⟨x,hx,e⟩;let⟨q,hq,rfl⟩:=AU.mp hx;have:=aO 1 _ _ (IA q) (IA p) e;rw[<-MT this];exact hq
  .intro hp;exact ⟨tI p,AU.mpr ⟨p,hp,rfl⟩,Kn 1 _ (IA p)⟩
 erw[G6];dsimp only;rw[h];dsimp only;rw[IA,ht,he];rfl
theorem P7:∀ ts:List (List Int),G3 (ts.map tI)=some ts
 |[]=>rfl
 |t::ts=>by
  rw[Ag];erw[G3];rw[P7 ts,show Qm (tI t)=some t from HA t]
def d7 (hf:f Y M=some (x,M)) (hx:zr M x=some (ts.map tI)) (hn:Gh ts=true) (hz:ts.length<=90000):fB Gk (zK f zb) Y M=some (.fl ((EM ts).map tI),M):=by
 erw[fB,zK,zb];rw[hf];erw[Gk];dsimp only;rw[hx];dsimp only;rw[P7];dsimp only;rw[AD ⟨hn,hz⟩];rfl
section
variable {zA:Ya} {l:Nat}
def Ud (m:IsM zA l) (h26:zA.length<=26) (hl:l<=6) (M:Mem):Ok (IJ [mD zA] M) λd A=>∃ p PP,d=.ref p/\Ex M A/\M.length<=p/\A[p]?=some (.lst (PP.map tI))/\(∀ q∈PP,Part zA q)/\PP.Nodup/\PP≠[]/\PP.length<=26:=by
 erw[IJ];rw[B3];erw[LJ];rw[zI,zc];refine IC.mpr (zH (zU rfl) (Ok.mono (Y4 m h26 hl M) ?_));rintro d A ⟨p,L,rfl,hx,hLd,hW⟩;rw[zJ,zM];let hWl:=hW.len;let ll:∀ r,r<zA.length->(L.getD r []).length<=26:=λr hr=>by
  let h1:=(hW.nd _ (DX (L:=L) (r:=r) ())).length_le_of_subset (l₂:=(List.range zA.length).map λ(k:Nat)=>(k:Int)) λx hx=>by
   let⟨x0,x1⟩:=hW.rg _ (DX (L:=L) (r:=r) ()) x hx;exact AU.mpr ⟨x.toNat,DR.mpr (),()⟩
  rw[AG,Ep]at h1;omega
 rw[zI,zc];calc F6.mpr (Ek.mpr ⟨zh (by simp),zk ?_⟩);rw[zM];let hp:p<A.length:=by let⟨js,e,_⟩:=hLd;exact (AK.mp e).1
 let hLd2:=hLd.app [MO.lst ([]:List D)];let hx2:=hx.app [MO.lst ([]:List D)];let hq:=hx.len;let e2:(A++[MO.lst ([]:List D)])[A.length]?=some (.lst (([]:List (List Int)).map tI)):=zZ _ _;let hj2:∀ r,r<L.length -> ∃ j,j≠A.length/\(A++[MO.lst ([]:List D)])[j]?=some (.lst ((L.getD r []).map D.int))/\kIx (.dat (.ref p)) (.dat (.int (r:Nat))) (A++[MO.lst ([]:List D)])=some (.dat (.ref j),A++[MO.lst ([]:List D)]):=λr hr=>by
  let⟨j,k1,e1⟩:=hLd2.at (x:=(r:Nat)) () ();rw[Bc]at e1;refine ⟨j,λe=>?_,e1,k1⟩;subst e;rw[e2]at e1;have:([]:List D)=(L.getD r []).map D.int:=MO.lst.inj (Bb e1);let h1:=hW.self r ();let h2:L.getD r []=[]:=List.map_eq_nil_iff.mp this.symm;rw[h2]at h1;ext h1
 let⟨js,ejs,hjl,hj⟩:=hLd2;generalize A++[MO.lst ([]:List D)]=A2 at hx2 e2 ejs hj hj2;generalize A.length=q at hq hp e2 hj2;rw[zI,Du];refine ⟨_,_,_,Fj (EL rfl) () (),?_⟩;rw[Bc];let hjq:∀ r j,js[r]?=some j->j≠q:=λr j e1 e=>by
  let hr:r<L.length:=by rw[<-hjl];exact (AK.mp e1).1
  let⟨j',a,b,c⟩:=hj2 r hr;have:=D4 (M:=A2) (zj ejs) (HR (j:=r) (v:=.ref j) (by rw[AW,e1];rfl));rw[this]at c;ext c;exact a e
 refine Hv (n:=zA.length) (I:=λt Y A=>(∃ y3 y4 y5,Y=[some (mD zA),some (.ref p),some (.ref q),y3,y4,y5])/\Ex M A/\Lds A p L /\ ∃ F:List (List Int),A[q]?=some (.lst (F.map tI))/\(∀ f∈F,Part zA f)/\F.Nodup/\F.length<=t /\ ∀ r,r<t->(∀ x∈L.getD r [],(r:Int)∈L.getD x.toNat [])->zu (L.getD r [])∈F) ?_ ?_ _ _ ⟨⟨_,_,_,rfl⟩,hx2,⟨js,ejs,hjl,hj⟩,[],e2,λ_ h=>(by ext h),List.nodup_nil,AF _,λr hr=>absurd hr (Nat.not_lt_zero _)⟩
 .rintro t Y A ht ⟨⟨y3,y4,y5,rfl⟩,hx,hLd,F,eF,hF,hnd,hFl,hall⟩;refine ⟨_,rfl,?_⟩;let lt:=ll t ht;let⟨j,k1,e1⟩:=hLd.at (x:=(t:Nat)) () ();rw[Bc]at e1;let hperm:=EO (L.getD t []);let ndt:=hW.nd _ (DX (L:=L) (r:=t) ());let hpw:(zu (L.getD t [])).Pairwise (· < ·):=((Ha (L.getD t [])).and (hperm.nodup_iff.mpr ndt)).imp λ{a b} h=>by have:=h.1;have:=h.2;omega
  let hsl:(zu (L.getD t [])).length<=26:=by rw[hperm.length_eq];exact lt
  refine Eu (d:=tI (zu (L.getD t []))) (Fb (Kj (zE (x:=.dat (.ref p)) (y:=.dat (.int (t:Nat))) rfl rfl k1) (zj e1) ()) De) ?_;let hall2:=Gj (bs:=(zu (L.getD t [])).map λx=>decide ((t:Int)∈L.getD x.toNat [])) ((Eh (own:=[5]) (fi:=AQ (zC 4)) (g:=gN 5) (te:=fOp (kIn false) (zC 3) (fOp kIx (zC 1) (zC 5))) (Y:=[some (mD zA),some (.ref p),some (.ref q),some (.int (t:Nat)),some (tI (zu (L.getD t []))),y5]) (M:=A) (zu (L.getD t [])) D.int (λx=> .bl (decide ((t:Int)∈L.getD x.toNat []))) (gd:=none) (Cw rfl) trivial () λx hxm=>⟨_,rfl,by
   let⟨x0,x1⟩:=hW.rg _ (DX (L:=L) ()) x (hperm.mem_iff.mp hxm);let⟨j',k1',e1'⟩:=hLd.at x0 ();calc zE rfl (zE rfl rfl k1') (Ms (zj e1'))⟩).trans (by rw[CS];rfl))
  rw[JA]at hall2;rw[ET];refine zH (Pq (BJ (zE (x:=.dat (tI (zu (L.getD t [])))) (y:=.dat (.ref q)) rfl rfl (XB (neg:=true) (zj eF)))) (BJ hall2)) ?_;let hback:((zu (L.getD t [])).all λx=>decide ((t:Int)∈L.getD x.toNat []))=true ↔ ∀ x∈L.getD t [],(t:Int)∈L.getD x.toNat []:=by
   rw[Ap];exact ⟨λh x hx=>B2 (h x (hperm.mem_iff.mpr hx)),λh x hx=>BB (h x (hperm.mem_iff.mp hx))⟩
  let hnb:nb true (decide (zu (L.getD t [])∈F)) = !decide (zu (L.getD t [])∈F):=rfl;rw[hnb];by_cases hc:(!decide (zu (L.getD t [])∈F)&&(zu (L.getD t [])).all λx=>decide ((t:Int)∈L.getD x.toNat []))=true
  .rw[AD hc,Em];rw[BE,Bool.not_eq_true',decide_eq_false_iff_not]at hc;refine Ea.mpr (zm.mpr ⟨_,rfl,⟨_,Dm eF⟩,zH (zU (d:=tI (zu (L.getD t []))) rfl) ?_⟩);let hLd':Lds (A.set q (.lst (F.map tI++[tI (zu (L.getD t []))]))) p L:=by
    let⟨js',e',hl',hj'⟩:=hLd;refine ⟨js',by rw[Bl ()];exact e',hl',λr hr=>?_⟩;let⟨j,a,b,c⟩:=hj' r hr;calc ⟨j,a,b,?_⟩;by_cases hjq':q=j
    .subst hjq';rw[eF]at c;let h0:=MO.lst.inj (Bb c);let h1:=hW.self r ();cases F with
     |nil=>
      let h2:L.getD r []=[]:=List.map_eq_nil_iff.mp h0.symm;rw[h2]at h1;ext h1
     |cons f F=>
      cases hL:L.getD r [] with
      |nil=>rw[hL]at h1;ext h1
      |cons a b=>rw[hL]at h0;ext h0
    .rw[Bl hjq'];exact c
   refine (HS eF (BC (by rw[AG];omega) (zh (n:=100) ()))).mpr ⟨⟨_,_,_,rfl⟩,hx.set hq _,hLd',F++[zu (L.getD t [])],?_,λf hf=>?_,?_,by simp;omega,λr hr hb=>?_⟩
   .rw[Br (AK.mp eF).1,Cv];rfl
   .rcases AR.mp hf with z|z
    .exact hF f z
    .rw[Ae.mp z];exact hW.part ht hpw (λx=>hperm.mem_iff) λx hx=>(hback.mp hc.2) x (hperm.mem_iff.mp hx)
   .refine Ds.mpr ⟨hnd,by simp,λa ha b hb e=>?_⟩;rw[Ae.mp hb]at e;subst e;exact hc.1 ha
   .by_cases q:r=t
    .subst q;simp
    .exact CJ _ (hall r () hb)
  .rw[AE hc,Fe];refine ⟨⟨_,_,_,rfl⟩,hx,hLd,F,eF,hF,hnd,(),λr hr hb=>?_⟩;by_cases q:r=t
   .subst q;rw[hback.mpr hb,Bool.and_true]at hc;simpa using hc
   .exact hall r () hb
 .rintro Y A ⟨⟨y3,y4,y5,rfl⟩,hx,hLd,F,eF,hF,hnd,hFl,hall⟩;rw[zM,Ey];let hne:Gh F=true:=by
   erw[Gh];rw[Ap];intro f hf;have:=(hF f hf).n0;cases f with
   |nil=>simp at this
   |cons a b=>rfl
  calc zH (d7 (x:=.dat (.ref q)) rfl (zj eF) hne ()) (zk ?_);let hpm:=LW F;refine ⟨A.length,EM F,rfl,hx.app _,hx.len,zZ _ _,λf hf=>hF f (hpm.mem_iff.mp hf),hpm.nodup_iff.mpr hnd,λe=>?_,by rw[hpm.length_eq];omega⟩;let⟨r,hr,hb⟩:=hW.some m.r0;have:=hpm.mem_iff.mpr (hall r hr hb);rw[e]at this;ext this
end
def Ja:FS:=(zN (AN 3 (Hn (fOp kIx (zC 1) (fC (.int 0))) (fC (.int 0))))
  (zN (AN 4 (Aq (zD (toD (fOp kIx (zC 1) (fC (.int 0)))) zF)))
  (zN (AN 5 (fC (.int 0)))
  (zN (Cf (tst (fOp kLt (zC 5) (fB AZ (zK (zC 4) zb)))) (zN (AN 6 (fOp BW (fOp zQ (fOp Cp (zC 3) (fOp kIx (zC 4) (zC 5))) (fC (.int 1))) (zC 2)))
  (zN (B9 (AQ (fOp kIx (zC 0) (fOp kIx (zC 4) (zC 5)))) (gN 7) (zN (sIf (tst (fOp (DM true) (zC 7) (zC 3))) (zN (IH (zC 6) (zC 3) (zC 7))
  (BL (fM Bh (zC 4) (zD (toD (zC 7)) zF)))) BP)
  (sIf (tst (fOp kNe (fOp Cp (zC 3) (zC 7)) (zC 6))) (Aa (fC .non)) BP)))
  (HV 5 (λi j=>i+j) (fC (.int 1))))) 100)
  (Aa (fB CC (zK (Ar [8] (AQ (zC 1)) (gN 8) Ab (fOp Cp (zC 3) (zC 8))) zb)))))))
def GI:FF:=Gz (BH 9 Ja)
def JO:FS:=(zN (AN 1 (Aq zF))
  (zN (B9 (AQ (ze IJ (zD (toD (zC 0)) zF))) (gN 2) (zN (AN 3 (fB AZ (zK (zC 2) zb)))
  (zN (Cf (tst (fOp (kIs false) (ze GI (zD (toD (zC 0)) (zD (toD (zC 2)) (zD (toD (zC 3)) zF)))) (fC .non))) (HV 3 (λi j=>i-j) (fC (.int 1))) 100)
  (BL (fM Bh (zC 1) (zD (toD (zi (zD (toD (zC 2)) (zD (toD (zC 3)) (zD (toD (ze GI (zD (toD (zC 0)) (zD (toD (zC 2)) (zD (toD (zC 3)) zF))))) zF))))) zF))))))
  (Aa (fB CC (zK (zC 1) zb)))))
def Iq:FF:=Gz (BH 4 JO)
def phK (ks:Ye) (φ:Int->Int):List (D × D):=ks.map λx=>(.int x,.int (φ x))
def eU:((phK ks φ).any λp=>decide (Az p.1=some (.inl x)))=decide (x∈ks):=by
 erw[phK];rw[C9,List.any_eq_true,decide_eq_true_iff];constructor
 .rintro ⟨p,hp,e⟩;let⟨y,hy,rfl⟩:=AU.mp hp;let e:=B2 e;have:y=x:=by injection e with e;injection e
  rw[<-this];exact hy
 .intro hx;calc ⟨_,AU.mpr ⟨x,hx,rfl⟩,BB rfl⟩
theorem Lv:∀ {ks:Ye},Ck Az (phK ks φ) (.inl x)=if x∈ks then some (.int (φ x)) else none
 |[]=>rfl
 |k::ks=>by
  let ih:=Lv (φ:=φ) (x:=x) (ks:=ks);unfold Ck phK at ih ⊢;rw[Ag,EZ];by_cases h:k=x
  .subst h;rw[show decide (Az (D.int k)=some (.inl k))=true from BB rfl,AD Ax];rfl
  .rw[show decide (Az (D.int k)=some (.inl x))=false from Al λe=>h (by injection e with e;injection e)];rw[ih];by_cases hx:x∈ks
   .rw[AD hx,AD (BF _ hx)]
   .rw[AE hx,AE λe=>(AJ.mp e).elim (λz=>h z.symm) hx]
def N7 (h:∀ x∈ks,φ x=ψ x):phK ks φ=phK ks ψ:=List.map_congr_left λx hx=>by rw[h x hx]
def Oy (e:A[n]?=some (.dict (phK ks φ))) (hx:x∉ks) (hz:ks.length<=1000):GK A n (.int x) (.int v)=some (A.set n (.dict (phK (ks++[x]) λy=>if y=x then v else φ y))):=by
 erw[GK];rw[e];rw[show Az (D.int x)=some (.inl x)from rfl];dsimp only;rw[AD (BC (show (phK ks φ).length<100000 by erw[phK];rw[AG];omega) (zh (AF _))),iJ (by rw[eU,Al hx])];rw[N7 (ψ:=λy=>if y=x then v else φ y) λy hy=>(AE (show ¬ y=x from λe=>hx (e▸hy))).symm];erw[phK];rw[Cv];simp
def KW (e:A[n]?=some (.dict (phK ks φ))\/A[n]?=some (.froK (phK ks φ))):DM neg (.dat (.int x)) (.dat (.ref n)) A=some (.dat (.bl (if neg then !decide (x∈ks) else decide (x∈ks))),A):=by
 have:FX A (.dat (.ref n)) (.int x)=some (Ck Az (phK ks φ) (.inl x)):=by
  erw[FX];rcases e with e|e <;> (dsimp only;rw[e];rfl)
 erw[DM];dsimp only;rw[this];rw[Lv];by_cases h:x∈ks
 .rw[AD h,BB h];rfl
 .rw[AE h,Al h];rfl
def G7 (e:A[n]?=some (.dict (phK ks φ))\/A[n]?=some (.froK (phK ks φ))) (hx:x∈ks):Cp (.dat (.ref n)) (.dat (.int x)) A=some (.dat (.int (φ x)),A):=by
 have:FX A (.dat (.ref n)) (.int x)=some (Ck Az (phK ks φ) (.inl x)):=by
  erw[FX];rcases e with e|e <;> (dsimp only;rw[e];rfl)
 erw[Cp];dsimp only;rw[this,Lv,AD hx]
section
variable {zA:Ya} {l:Nat}
def Part.len (h:Part zA p):p.length<=zA.length:=by
 have:=Mx (a:=0) (n:=zA.length) h.pw λx hx=>by have:=h.mem x hx;omega
 calc this
def Qb {p:Ye} (h:p[i]?=some x):atI (p.map D.int) (i:Nat)=some (.int x):=HR (by rw[AW,h];rfl)
def XH (m:IsM zA l) (h26:zA.length<=26) {p:Ye} (hP:Part zA p) (b1:1<=b):Ok (BH 9 Ja [mD zA,tI p,.int b] M) λd A=>D.und 0 d=true/\Ex M A/\((d=.non/\b≠1) \/ ∃ φ,d=tI (p.map φ)/\Phs zA p b φ/\φ (p.headD 0)=0):=by
 let hpl:=hP.len;obtain ⟨p0,hp0⟩:∃ x,p[0]?=some x:=⟨_,AM hP.n0⟩;let hd0:p.headD 0=p0:=by
  cases p with
  |nil=>ext hp0
  |cons a r=>exact Bb hp0
 let hp0m:p0∈p:=CM hp0;rw[B3];erw[Ja];show OkS (zN _ _ [some (mD zA),some (tI p),some (.int b),none,none,none,none,none,none] M) _;let i0:∀ (Y:Sd) (A:Mem),Y[1]?=some (some (tI p))->fOp kIx (zC 1) (fC (.int 0)) Y A=some (.dat (.int p0),A):=λY A s1=>zE (x:=.dat (tI p)) (y:=.dat (.int 0)) (by erw[zC];rw[s1]) rfl (D4 CT (Qb hp0));let hd1:Hn (fOp kIx (zC 1) (fC (.int 0))) (fC (.int 0)) [some (mD zA),some (tI p),some (.int b),none,none,none,none,none,none] M=some (.dat (.ref M.length),M++[.dict (phK [p0] λ_=>0)]):=by
  erw[Hn];rw[show toD (fOp kIx (zC 1) (fC (.int 0))) [some (mD zA),some (tI p),some (.int b),none,none,none,none,none,none] (M++[.dict []])=some (.int p0,M++[.dict []])from Hr (i0 _ _ rfl)];dsimp only;rw[show toD (fC (.int 0)) [some (mD zA),some (tI p),some (.int b),none,none,none,none,none,none] (M++[MO.dict []])=some (.int 0,M++[MO.dict []])from rfl];dsimp only;rw[zZ];show some (EV.dat (D.ref M.length),(M++[MO.dict []]).set M.length (.dict [(.int p0,.int 0)]))=_;rw[List.set_append_right _ _ (AF _),Nat.sub_self];rfl
 rw[zI,zc];calc zH hd1 ?_;rw[zJ,zM,zI,zc];calc zH (Et (zU (i0 _ _ rfl)) (by simp)) (zk ?_);rw[zM];let e3:((M++[MO.dict (phK [p0] λ_=>0)])++[MO.lst [D.int p0]])[M.length]?=some (.dict (phK [p0] λ_=>0)):=D1 (zZ _ _) _;let e4:((M++[MO.dict (phK [p0] λ_=>0)])++[MO.lst [D.int p0]])[(M++[MO.dict (phK [p0] λ_=>0)]).length]?=some (.lst ([p0].map D.int)):=zZ _ _;rw[show (M++[MO.dict (phK [p0] λ_=>0)]).length=M.length+1 by simp]at e4 ⊢;let hx0:Ex M ((M++[MO.dict (phK [p0] λ_=>0)])++[MO.lst [D.int p0]]):=((Ex.refl M).app _).app _;generalize (M++[MO.dict (phK [p0] λ_=>0)])++[MO.lst [D.int p0]]=A0 at e3 e4 hx0;calc Eu (d:=.int 0) rfl ?_;show OkS (zN _ _ [some (mD zA),some (tI p),some (.int b),some (.ref M.length),some (.ref (M.length+1)),some (.int 0),none,none,none] A0) _;rw[zI];refine Ho (I:=λw Y A=>∃ (a:Nat) (ks:Ye) (φ:Int->Int) (y6 y7 y8:Option D),Y=[some (mD zA),some (tI p),some (.int b),some (.ref M.length),some (.ref (M.length+1)),some (.int (a:Nat)),y6,y7,y8]/\Ex M A/\A[M.length]?=some (.dict (phK ks φ))/\A[M.length+1]?=some (.lst (ks.map D.int))/\ks.Nodup/\(∀ x∈ks,x∈p)/\p0∈ks/\φ p0=0/\(∀ x∈ks,0<=φ x/\φ x<b)/\a<=ks.length/\(∀ i,i<a -> ∀ x,ks[i]?=some x -> ∀ g∈gl zA x,g∈ks/\φ g=(φ x+1) % b)/\w+a=p.length) ?_ 100 p.length _ _ () ⟨0,[p0],λ_=>0,_,_,_,rfl,hx0,e3,e4,by simp,λx hx=>by rw[Ae.mp hx];exact hp0m,List.mem_singleton_self _,rfl,λ_ _=>⟨Int.le_refl _,show (0:Int)<b by omega⟩,BK _,λi hi=>absurd hi (Nat.not_lt_zero _),rfl⟩;rintro w Y A ⟨a,ks,φ,y6,y7,y8,rfl,hx,ed,el,hnd,hkp,hk0,hφ0,hφ,hal,hdone,hw⟩;let hkl:ks.length<=p.length:=hnd.length_le_of_subset hkp;let elen:=FL (f:=zC 4) (Y:=[some (mD zA),some (tI p),some (.int b),some (.ref M.length),some (.ref (M.length+1)),some (.int (a:Nat)),y6,y7,y8]) (M:=A) rfl (zj el);rw[AG]at elen;calc zH (BJ (zE rfl elen (zY (JR.mpr ⟨rfl,rfl⟩)))) ?_;by_cases hlt:a<ks.length
 .rw[AD (by rw[B4];omega)];obtain ⟨x,hxa⟩:∃ x,ks[a]?=some x:=⟨_,AM hlt⟩;let hxk:x∈ks:=CM hxa;let hxp:=hkp x hxk;let⟨x0,x1⟩:=hP.mem x hxp;let ix4:∀ (Y:Sd),Y[4]?=some (some (.ref (M.length+1)))->Y[5]?=some (some (.int (a:Nat)))->fOp kIx (zC 4) (zC 5) Y A=some (.dat (.int x),A):=λY s4 s5=>zE (by erw[zC];rw[s4]) (by erw[zC];rw[s5]) (D4 (zj el) (Qb hxa));refine Eu (zE (zE (zE rfl (ix4 _ rfl rfl) (G7 (.inl ed) hxk)) rfl CU) (y:=.dat (.int b)) rfl (Fy ())) ?_;let due0:0<=(φ x+1) % b:=Int.emod_nonneg _ ();let due1:=FJ (φ x+1) (show 0<b by omega);show OkS (zN _ _ [some (mD zA),some (tI p),some (.int b),some (.ref M.length),some (.ref (M.length+1)),some (.int (a:Nat)),some (.int ((φ x+1) % b)),y7,y8] A) _;generalize edue:(φ x+1) % b=due at due0 due1;rw[zI,Du];refine ⟨_,_,_,Cw (LO m x0 x1 rfl (ix4 _ rfl rfl)),?_⟩;refine Ii (gd:=none) (I:=λs Y A=>∃ (ks:Ye) (ψ:Int->Int) (y7:Option D),Y=[some (mD zA),some (tI p),some (.int b),some (.ref M.length),some (.ref (M.length+1)),some (.int (a:Nat)),some (.int due),y7,y8]/\Ex M A/\A[M.length]?=some (.dict (phK ks ψ))/\A[M.length+1]?=some (.lst (ks.map D.int))/\ks.Nodup/\(∀ x∈ks,x∈p)/\p0∈ks/\ψ p0=0/\(∀ x∈ks,0<=ψ x/\ψ x<b)/\ks[a]?=some x/\(ψ x+1) % b=due/\(∀ i,i<a -> ∀ x,ks[i]?=some x -> ∀ g∈gl zA x,g∈ks/\ψ g=(ψ x+1) % b) /\ ∀ i,i<s -> ∀ g,(gl zA x)[i]?=some g->g∈ks/\ψ g=due) (λ_ _ _ _=>C5) ?_ ?_ _ _ ⟨ks,φ,_,rfl,hx,ed,el,hnd,hkp,hk0,hφ0,hφ,hxa,edue,hdone,λi hi=>absurd hi (Nat.not_lt_zero _)⟩
  .rintro s d Y A ed0 ⟨ks,ψ,y7,rfl,hx,ed,el,hnd,hkp,hk0,hφ0,hφ,hxa,edue,hdone,hs⟩;let hxk:x∈ks:=CM hxa;let hkl:ks.length<=p.length:=hnd.length_le_of_subset hkp;rw[AW]at ed0;let⟨g,eg,rfl⟩:=Option.map_eq_some_iff.mp ed0;let hgm:g∈gl zA x:=CM eg;let hgp:=hP.cl x hxp g hgm;refine ⟨_,rfl,?_⟩;show OkS (zN _ _ [some (mD zA),some (tI p),some (.int b),some (.ref M.length),some (.ref (M.length+1)),some (.int (a:Nat)),some (.int due),some (.int g),y8] A) _;rw[zI,ET];refine zH (BJ (zE (x:=.dat (.int g)) (y:=.dat (.ref M.length)) rfl rfl (KW (.inl ed)))) ?_;by_cases hg:g∈ks
   .rw[AE (by simp[hg]),Fe,zM,ET];refine zH (BJ (zE (zE rfl rfl (G7 (.inl ed) hg)) rfl (zY (KH.mpr ⟨rfl,rfl⟩)))) ?_;by_cases hv:ψ g=due
    .rw[AE (by simp[hv]),Fe];refine ⟨ks,ψ,_,rfl,hx,ed,el,hnd,hkp,hk0,hφ0,hφ,hxa,edue,hdone,λi hi g' eg'=>?_⟩;by_cases q:i=s
     .subst q;rw[eg]at eg';ext eg';exact ⟨hg,hv⟩
     .exact hs i () g' eg'
    .rw[AD (by simp[hv])];refine Bp rfl ⟨rfl,hx,.inl ⟨rfl,λe=>hv ?_⟩⟩;have:=hφ g hg;omega
   .rw[AD (by simp[hg]),zI];refine WG rfl rfl rfl (Oy ed hg ()) ?_;let el1:(A.set M.length (.dict (phK (ks++[g]) λy=>if y=g then due else ψ y)))[M.length+1]?=some (.lst (ks.map D.int)):=by rw[Bl ()];exact el
    let ed1:(A.set M.length (.dict (phK (ks++[g]) λy=>if y=g then due else ψ y)))[M.length]?=some (.dict (phK (ks++[g]) λy=>if y=g then due else ψ y)):=Br (AK.mp ed).1;let hx1:=hx.set (AF _) (.dict (phK (ks++[g]) λy=>if y=g then due else ψ y));generalize A.set M.length (.dict (phK (ks++[g]) λy=>if y=g then due else ψ y))=A1 at el1 ed1 hx1;rw[zM,Em];calc Ea.mpr (zm.mpr ⟨_,rfl,⟨_,Dm el1⟩,zH (zU (d:=.int g) rfl) ?_⟩);calc (HS el1 (BC (by rw[AG];omega) (zh (n:=100) ()))).mpr ?_;let el2:(A1.set (M.length+1) (.lst (ks.map D.int++[D.int g])))[M.length+1]?=some (.lst ((ks++[g]).map D.int)):=by rw[Br (AK.mp el1).1,Cv];rfl
    let ed2:(A1.set (M.length+1) (.lst (ks.map D.int++[D.int g])))[M.length]?=some (.dict (phK (ks++[g]) λy=>if y=g then due else ψ y)):=by rw[Bl ()];exact ed1
    let hx2:=hx1.set (CQ _) (.lst (ks.map D.int++[D.int g]));generalize A1.set (M.length+1) (.lst (ks.map D.int++[D.int g]))=A2 at el2 ed2 hx2;let old:∀ y∈ks,(if y=g then due else ψ y)=ψ y:=λy hy=>AE (show ¬ y=g from λe=>hg (e▸hy));let hgk:g∈ks++[g]:=by simp
    rw[zM,ET];calc zH (BJ (zE (y:=.dat (.int due)) (zE (x:=.dat (.ref M.length)) (y:=.dat (.int g)) rfl rfl (G7 (.inl ed2) hgk)) rfl (zY (KH.mpr ⟨rfl,rfl⟩)))) ?_;rw[AE (by simp),Fe];refine ⟨ks++[g],λy=>if y=g then due else ψ y,_,rfl,hx2,ed2,el2,Ds.mpr ⟨hnd,by simp,λy hy z hz e=>hg (by rw[Ae.mp hz]at e;rw[<-e];calc hy)⟩,λy hy=>?_,CJ _ hk0,(old p0 hk0).trans hφ0,λy hy=>?_,by rw[Bf (AK.mp hxa).1];exact hxa,?_,λi hi y ey g' hg'=>?_,λi hi g' eg'=>?_⟩
    .rcases AR.mp hy with z|z
     .exact hkp y z
     .rw[Ae.mp z];exact hgp
    .dsimp only;by_cases q:y=g
     .rw[AD q];exact ⟨due0,due1⟩
     .rw[AE q];rcases AR.mp hy with z|z
      .exact hφ y z
      .exact absurd (Ae.mp z) q
    .dsimp only;rw[old x hxk];exact edue
    .have hal:a<ks.length:=(AK.mp hxa).1;rw[Bf ()]at ey;let⟨q1,q2⟩:=hdone i hi y ey g' hg';calc ⟨CJ _ q1,?_⟩;dsimp only;rw[old g' q1,old y (CM ey)];exact q2
    .by_cases q:i=s
     .subst q;rw[eg]at eg';ext eg';exact ⟨hgk,by dsimp only;rw[AD rfl]⟩
     .obtain ⟨q1,q2⟩:=hs i () g' eg';exact ⟨CJ _ q1,by dsimp only;rw[old g' q1];calc q2⟩
  .rintro Y A ⟨ks,ψ,y7,rfl,hx,ed,el,hnd,hkp,hk0,hφ0,hφ,hxa,edue,hdone,hs⟩;rw[zM];let hal:a<ks.length:=(AK.mp hxa).1;refine ⟨_,_,_,rfl,w-1,?_,a+1,ks,ψ,_,_,_,rfl,hx,ed,el,hnd,hkp,hk0,hφ0,hφ,hal,λi hi y ey g hg=>?_,?_⟩
   .omega
   .by_cases q:i=a
    .subst q;rw[hxa]at ey;ext ey;let⟨j,hj,ej⟩:=List.mem_iff_getElem.mp hg;have:=hs j (by rw[AG];calc hj) g (by rw[AM hj,ej]);rw[edue];exact this
    .exact hdone i () y ey g hg
   .have:=hnd.length_le_of_subset hkp;omega
 .rw[AE (by rw[B4];omega)];let hcl:∀ x∈ks,∀ g∈gl zA x,g∈ks/\φ g=(φ x+1) % b:=λx hx g hg=>by
   let⟨i,hi,ei⟩:=List.mem_iff_getElem.mp hx;exact hdone i () x (by rw[AM hi,ei]) g hg
  let hall:∀ y∈p,y∈ks:=hP.con (· ∈ ks) (λx _ hx g hg=>(hcl x hx g hg).1) p0 hp0m hk0;rw[zM];refine Bp (d:=tI (p.map φ)) ?_ ⟨GN _,hx,.inr ⟨φ,rfl,⟨b1,λx hx=>hφ x (hall x hx),λx hx g hg=>(hcl x (hall x hx) g hg).2⟩,by rw[hd0];calc hφ0⟩⟩;refine (Fb (Eh (gd:=none) p D.int (λx=> .int (φ x)) (Cw rfl) trivial () λx hx=>⟨_,rfl,zE (x:=.dat (.ref M.length)) (y:=.dat (.int x)) rfl rfl (G7 (.inl ed) (hall x hx))⟩) De).trans ?_;erw[tI];rw[CS];rfl
def iG (m:IsM zA l) (h26:zA.length<=26) (hP:Part zA p) (b1:1<=b):∃ d,(∀ M,GI [mD zA,tI p,.int b] M=some (d,M))/\((d=.non/\b≠1) \/ ∃ φ,d=tI (p.map φ)/\Phs zA p b φ/\φ (p.headD 0)=0):=by
 let⟨d,A,e,hd,_,q⟩:=XH m h26 hP b1;refine ⟨d,λM=>zY ?_,q⟩;erw[GI];calc Pe (by erw[D.unds,D.unds,D.unds,D.unds];rw[MK,show D.und 0 (tI p)=true from GN _];rfl) ⟨d,A,e,hd,rfl,rfl⟩
abbrev Bt:=List Int × Int × List Int
def btD (t:Bt):D:=.tup [tI t.1,.int t.2.1,tI t.2.2]
structure IsB (zA:Ya) (t:Bt):Prop where
 part:Part zA t.1
 le:t.2.1<=26
 ph:∃ φ,t.2.2=t.1.map φ/\Phs zA t.1 t.2.1 φ/\φ (t.1.headD 0)=0
def LU (t:Bt):D.und n (btD t)=true:=by
 erw[btD,D.und,D.unds,D.unds,D.unds,D.unds];rw[show D.und n (tI t.1)=true from GN _,show D.und n (tI t.2.2)=true from GN _];rfl
def VQ (T:List Bt):D.unds n (T.map btD)=true:=zw λx hx=>by
 let⟨t,_,rfl⟩:=AU.mp hx;calc LU t
def Rr (m:IsM zA l) (h26:zA.length<=26) (hl:l<=6) (M:Mem):Ok (BH 4 JO [mD zA] M) λd A=>∃ T:List Bt,d=.tup (T.map btD)/\T≠[]/\T.length<=26/\(∀ t∈T,IsB zA t)/\(T.map (·.1)).Nodup:=by
 rw[B3];erw[JO];rw[zI,zc];calc F6.mpr (Ek.mpr ⟨zh (by simp),zk ?_⟩);rw[zM];let e1:(M++[MO.lst ([]:List D)])[M.length]?=some (.lst (([]:List Bt).map btD)):=zZ _ _;let hq:M.length<(M++[MO.lst ([]:List D)]).length:=by simp
 generalize M++[MO.lst ([]:List D)]=M1 at e1 hq;generalize M.length=q at e1 hq;rw[zI,Du];let⟨d,A,e,pp,PP,rfl,hx,hpl,ep,hPP,hnd,hne,hPl⟩:=Ud m h26 hl M1;calc ⟨_,_,_,Fc (BZ (zU (d:=mD zA) rfl) e) (zj ep),?_⟩;refine Ii (gd:=HD (.dat (.ref pp)) (PP.map tI)) (I:=λt Y A=>(∃ y2 y3,Y=[some (mD zA),some (.ref q),y2,y3])/\A[pp]?=some (.lst (PP.map tI)) /\ ∃ T:List Bt,A[q]?=some (.lst (T.map btD))/\T.map (·.1)=PP.take t /\ ∀ t∈T,IsB zA t) (λ_ _ _ h=>Or.inl h.2.1) ?_ ?_ _ _ ⟨⟨_,_,rfl⟩,ep,[],hx.get e1,rfl,λ_ h=>(by ext h)⟩
 .rintro t d Y A ed ⟨⟨y2,y3,rfl⟩,ep,T,eT,hT,hB⟩;rw[AW]at ed;let⟨p,ept,rfl⟩:=Option.map_eq_some_iff.mp ed;let hP:=hPP p (CM ept);let hpn:=hP.len;let ht:t<PP.length:=(AK.mp ept).1;let hTl:T.length=t:=by
   have:=BO List.length hT;rw[AG,Bg]at this;omega
  calc ⟨_,rfl,?_⟩;calc Eu (d:=.int (p.length:Nat)) (GW rfl) ?_;show OkS (zN _ _ [some (mD zA),some (.ref q),some (tI p),some (.int (p.length:Nat))] A) _;rw[zI];refine Ho (I:=λw Y A'=>A'=A/\1<=w/\w<=p.length/\Y=[some (mD zA),some (.ref q),some (tI p),some (.int (w:Nat))]) ?_ 100 p.length _ _ () ⟨rfl,hP.n0,AF _,rfl⟩;rintro w Y A' ⟨rfl,w1,wp,rfl⟩;let⟨d,ed,hd⟩:=iG m h26 hP (b:=(w:Nat)) ();let ecall:∀ A',ze GI (zD (toD (zC 0)) (zD (toD (zC 2)) (zD (toD (zC 3)) zF))) [some (mD zA),some (.ref q),some (tI p),some (.int (w:Nat))] A'=some (.dat d,A'):=λA'=>BZ (zL (d:=mD zA) rfl (zL (d:=tI p) rfl (zU (d:=.int (w:Nat)) rfl))) (ed A');rcases hd with ⟨rfl,hb⟩|⟨φ,rfl,hφ,hφ0⟩
  .refine zH (BJ (zE (ecall _) rfl (r:=some (.dat (.bl true),_)) rfl)) ?_;rw[AD rfl];let hw1:w≠1:=λe=>hb (by rw[e];rfl);calc ⟨_,_,_,rfl,w-1,(),rfl,(),(),?_⟩;show [some (mD zA),some (.ref q),some (tI p),some (.int ((w:Nat)-1))]=_;rw[show ((w:Nat):Int)-1=((w-1:Nat):Int) by omega]
  .refine zH (BJ (zE (x:=.dat (tI (p.map φ))) (y:=.dat .non) (ecall _) rfl (k:=kIs false) rfl)) ?_;rw[AE (),zM,Em];refine Ea.mpr (zm.mpr ⟨_,rfl,⟨_,Dm eT⟩,zH (zU (Ba (zL rfl (zL (d:=.int (w:Nat)) rfl (zU (ecall _)))) (by simp))) ?_⟩);let hqp:q≠pp:=λe=>()
   refine (HS eT (BC (by rw[AG];omega) (zh (n:=100) ()))).mpr ⟨⟨_,_,rfl⟩,by rw[Bl hqp];exact ep,T++[(p,((w:Nat):Int),p.map φ)],?_,?_,λt ht=>?_⟩
   .rw[Br (AK.mp eT).1,Cv];rfl
   .rw[Cv,hT,List.take_add_one,ept];rfl
   .rcases AR.mp ht with z|z
    .exact hB t z
    .rw[Ae.mp z];exact ⟨hP,by show ((w:Nat):Int)<=26;omega,φ,rfl,hφ,hφ0⟩
 .rintro Y A ⟨⟨y2,y3,rfl⟩,ep,T,eT,hT,hB⟩;rw[AG,E8 (AF _)]at hT;rw[zM];refine Bp (d:=.tup (T.map btD)) (Fb (x:=.dat (.ref q)) rfl (zj eT)) ⟨T,rfl,λe=>hne ?_,?_,hB,by rw[hT];exact hnd⟩
  .rw[<-hT,e];rfl
  .have:=BO List.length hT;rw[AG]at this;omega
def VG (m:IsM zA l) (h26:zA.length<=26) (hl:l<=6):∃ T:List Bt,(∀ M,Iq [mD zA] M=some (.tup (T.map btD),M))/\T≠[]/\T.length<=26/\(∀ t∈T,IsB zA t)/\(T.map (·.1)).Nodup:=by
 let⟨d,A,e,T,rfl,q⟩:=Rr m h26 hl [];refine ⟨T,λM=>zY ?_,q⟩;erw[Iq];calc Pe (by erw[D.unds,D.unds];rw[MK];rfl) ⟨_,A,e,by erw[D.und];calc VQ T,rfl,rfl⟩
end
def La:FS:=(Aa (fB Dw (zK (EN [4,3] [3] (G8 (zC 1)) (gN 4) Ab (AQ (fOp kIx (zC 0) (zC 4))) (gN 3) Ab (EA (fOp (DM false) (zC 3) (zC 1)) (fOp kEq (fOp Cp (zC 1) (zC 3)) (fOp BW (fOp zQ (fOp Cp (zC 1) (zC 4)) (fC (.int 1))) (zC 2))))) zb)))
def HY:FF:=BH 5 La
def LF:FS:=(zN (sIf (DT (CF (tst (D9 "tuple" (zC 1)))) (tst (fOp kNe (fB AZ (zK (zC 1) zb)) (fC (.int 3))))) (Aa (fC (.bl false))) BP)
  (zN (GZ (Er 2 3 4) (zC 1))
  (zN (sIf (DT (CF (tst (ze GB (zD (toD (zC 0)) (zD (toD (zC 2)) zF))))) (DT (CF (tst (ze Gw (zD (toD (zC 3)) zF)))) (CF (tst (ze Gn (zD (toD (zC 4)) (zD (toD (zC 3)) zF))))))) (Aa (fC (.bl false))) BP)
  (zN (sIf (DT (tst (fOp kNe (fB AZ (zK (zC 4) zb)) (fB AZ (zK (zC 2) zb)))) (tst (fOp kNe (GR (Dz (zC 4))) (zC 3)))) (Aa (fC (.bl false))) BP)
  (Aa (ze HY (zD (toD (zC 0)) (zD (toD (G0 false (zD (toD (zC 2)) (zD (toD (zC 4)) zF)))) (zD (toD (zC 3)) zF)))))))))
def Fz:FF:=Ff (BH 5 LF)
def Lx:FS:=(zN (sIf (DT (CF (tst (D9 "tuple" (zC 1)))) (CF (tst (fB Dw (zK (Ar [2] (AQ (zC 1)) (gN 2) Ab (ze Fz (zD (toD (zC 0)) (zD (toD (zC 2)) zF)))) zb))))) (Aa (fC (.bl false))) BP)
  (zN (AN 3 (EN [5,6,7,4] [4] (AQ (zC 1)) (Er 5 6 7) Ab (AQ (zC 5)) (gN 4) Ab (zC 4)))
  (Aa (fOp kEq (GR (Dz (zC 3))) (fB AZ (zK (zC 3) zb))))))
def Eg:FF:=Ff (BH 8 Lx)
def DD (p:Prop):Bool:=@decide p (Classical.propDecidable p)
def Mt (h:p):DD p=true:=by erw[DD];calc @BB p (Classical.propDecidable p) h
def Dv (h:¬ p):DD p=false:=by erw[DD];calc @Al p (Classical.propDecidable p) h
def Ma:DD p=true ↔ p:=⟨λh=>qz λn=>(by rw[Dv n]at h;ext h),Mt⟩
def Ac (zA:Ya) (d:D):Prop:=∃ p b φ,d=.tup [tI p,.int b,tI (p.map φ)]/\IsS zA p/\(∀ x∈p,0<=φ x/\φ x<b)/\((za (p.map φ)).length:Int)=b /\ ∀ x∈p,∀ g∈gl zA x,g∈p/\φ g=(φ x+1) % b
def Hq {p:Ye} (h:p.Pairwise (· < ·)):p.Nodup:=h.imp λz=>Int.ne_of_lt z
def VX {p f:Ye} (nd:p.Nodup) (hl:f.length=p.length):f=p.map λx=>f.getD (p.idxOf x) 0:=by
 refine List.ext_getElem (by rw[AG,hl]) λi h1 h2=>?_;let hi:i<p.length:=()
 have:=OB nd hi;rw[By,AM hi]at this;rw[List.getElem_map,show p.idxOf p[i]=i from this,By,AM h1];rfl
theorem RN:∀ (rest done:Ye) (A:Mem),A[n]?=some (.dict (phK done φ))->(done++rest).Nodup->(done++rest).length<=1000->Gs n ((rest.map D.int).zip ((rest.map φ).map D.int)) A=some (A.set n (.dict (phK (done++rest) φ)))
 |[],done,A,e,_,_=>by
  rw[DO];show some A=_;rw[J7 e]
 |x::rest,done,A,e,nd,hz=>by
  let hx:x∉done:=λh=>by
   have:=(Ds.mp nd).2.2 x h x Ax;exact this rfl
  let hz':done.length+(rest.length+1)<=1000:=by simpa using hz
  rw[Ag,Ag,Ag,List.zip_cons_cons];erw[Gs];rw[Oy e hx ()];dsimp only;let e2:phK (done++[x]) (λy=>if y=x then φ x else φ y)=phK (done++[x]) φ:=N7 λy _=>by
   by_cases q:y=x
   .subst q;exact AD rfl
   .exact AE q
  rw[e2];let hn:=(AK.mp e).1;rw[RN rest (done++[x]) (A.set n (.dict (phK (done++[x]) φ))) (Br hn) (by rw[CI];calc nd) (by rw[CI];calc hz),List.set_set,CI];rfl
section
variable {zA:Ya} {l:Nat}
def YK (m:IsM zA l) (h26:zA.length<=26) (hl:l<=6) (hp:∀ x∈p,0<=x/\x<(zA.length:Int)) (hpl:p.length<=26) (b1:1<=b) (e:A[n]?=some (.dict (phK p φ))):HY [mD zA,.ref n,.int b] A=some (.bl (decide (∀ x∈p,∀ g∈gl zA x,g∈p/\φ g=(φ x+1) % b)),A.set n (.froK (phK p φ))):=by
 let hn:=(AK.mp e).1;let ef:(A.set n (.froK (phK p φ)))[n]?=some (.froK (phK p φ)):=Br hn;refine zY ?_;erw[HY];rw[B3];erw[La];show OkS (Aa _ [some (mD zA),some (.ref n),some (.int b),none,none] A) _;let hc:EN [4,3] [3] (G8 (zC 1)) (gN 4) Ab (AQ (fOp kIx (zC 0) (zC 4))) (gN 3) Ab (EA (fOp (DM false) (zC 3) (zC 1)) (fOp kEq (fOp Cp (zC 1) (zC 3)) (fOp BW (fOp zQ (fOp Cp (zC 1) (zC 4)) (fC (.int 1))) (zC 2)))) [some (mD zA),some (.ref n),some (.int b),none,none] A=some (.fl (p.flatMap λx=>((gl zA x).filter λ_=>true).map λg=>D.bl (decide (g∈p)&&decide (g∈p->φ g=(φ x+1) % b))),A.set n (.froK (phK p φ))):=by
  let key:=Qq (own:=[4,3]) (own2:=[3]) (fi:=λ_ _=>some (p.map D.int,none,A.set n (.froK (phK p φ)))) (fi2:=AQ (fOp kIx (zC 0) (zC 4))) (fg:=gN 4) (fg2:=gN 3) (tc2:=Ab) (te:=EA (fOp (DM false) (zC 3) (zC 1)) (fOp kEq (fOp Cp (zC 1) (zC 3)) (fOp BW (fOp zQ (fOp Cp (zC 1) (zC 4)) (fC (.int 1))) (zC 2)))) (Y:=[some (mD zA),some (.ref n),some (.int b),none,none]) (M:=A.set n (.froK (phK p φ))) p D.int (λx=>gl zA x) D.int (λ_ _=>true) (λx g=>D.bl (decide (g∈p)&&decide (g∈p->φ g=(φ x+1) % b))) 6 rfl (λx hx=>by rw[(IZ m (hp x hx).1 (hp x hx).2).1];calc hl) () λx hx=>⟨_,rfl,Cw (LO m (hp x hx).1 (hp x hx).2 rfl rfl),λg hg=>⟨_,rfl,rfl,λ_=>?_⟩⟩
  .unfold EN at key ⊢;let hi:G8 (zC 1) [some (mD zA),some (.ref n),some (.int b),none,none] A=some (p.map D.int,none,A.set n (.froK (phK p φ))):=by
    erw[G8];rw[show zC 1 [some (mD zA),some (.ref n),some (.int b),none,none] A=some (.dat (.ref n),A)from rfl];dsimp only;rw[e];dsimp only;erw[phK];rw[CS];rfl
   rw[hi];exact key
  .by_cases hgp:g∈p
   .refine (Ga (zE (x:=.dat (.int g)) rfl rfl (KW (.inr ef))) λ_=>zE (zE rfl rfl (G7 (.inr ef) hgp)) (zE (zE (zE rfl rfl (G7 (.inr ef) hx)) rfl CU) rfl (Fy ())) eqE).trans ?_;rw[show decide (g∈p->φ g=(φ x+1) % b)=decide (φ g=(φ x+1) % b)from by simp[hgp]];rfl
   .refine (Ga (zE rfl rfl (KW (.inr ef))) λh=>?_);exact absurd (B2 h) hgp
 rw[Ey];refine zH (M:=A.set n (.froK (phK p φ))) ?_ (zJ.mpr ⟨rfl,rfl⟩);erw[fB,zK,zb];rw[hc];show Dw [.fl _] _=_;let hb:(p.flatMap λx=>((gl zA x).filter λ_=>true).map λg=>D.bl (decide (g∈p)&&decide (g∈p->φ g=(φ x+1) % b)))=(p.flatMap λx=>(gl zA x).map λg=>(decide (g∈p)&&decide (g∈p->φ g=(φ x+1) % b))).map D.bl:=by
  rw[List.map_flatMap];congr 1;funext x;rw[List.filter_eq_self.mpr (λ_ _=>rfl),CS];rfl
 let ha:=Gj (f:=λ_ M=>some (.fl ((p.flatMap λx=>(gl zA x).map λg=>(decide (g∈p)&&decide (g∈p->φ g=(φ x+1) % b))).map D.bl),M)) (Y:=[]) (M:=A.set n (.froK (phK p φ))) rfl;rw[hb];suffices hX:((p.flatMap λx=>(gl zA x).map λg=>(decide (g∈p)&&decide (g∈p->φ g=(φ x+1) % b))).all id)=decide (∀ x∈p,∀ g∈gl zA x,g∈p/\φ g=(φ x+1) % b) by rw[hX]at ha;exact ha
 rw[C9,Ap,decide_eq_true_iff];simp only[List.mem_flatMap,AU,id];constructor
 .intro h x hx g hg;have:=h _ ⟨x,hx,g,hg,rfl⟩;simp only[BE,B4]at this;exact ⟨this.1,this.2 this.1⟩
 .rintro h k ⟨x,hx,g,hg,rfl⟩;let⟨q1,q2⟩:=h x hx g hg;simp[q1,q2]
end
def YW (hg:g Y M=some ([tI p,tI (p.map φ)],M)) (nd:p.Nodup) (hz:p.length<=1000):toD (G0 false g) Y M=some (.ref M.length,M++[.dict (phK p φ)]):=by
 let e:=RN (φ:=φ) p [] (M++[LA false]) (zZ _ _) nd hz;suffices h:G0 false g Y M=some (.dat (.ref M.length),M++[.dict (phK p φ)]) by erw[toD];rw[h]
 erw[G0];rw[hg];dsimp only;rw[show zr M (.dat (tI p))=some (p.map D.int)from CT,show zr M (.dat (tI (p.map φ)))=some ((p.map φ).map D.int)from CT];dsimp only;rw[e];rw[List.set_append_right _ _ (AF _),Nat.sub_self];rfl
def neI:kNe (.dat (.int i)) (.dat (.int j)) M=some (.dat (.bl (decide (i≠j))),M):=zY (KH.mpr ⟨rfl,rfl⟩)
def Pj (h:f Y M=some (ks,M)):GR f Y M=some (.dat (.int ks.length),M):=by erw[GR];rw[h]
def Qx:∀ (R:Ye),(za R).length=R.length ↔ R.Nodup:=by
 let key:∀ (k:Nat) (R:Ye),R.length=k->((za R).length=R.length ↔ R.Nodup):=by
  intro k;induction k with
  |zero=>intro R h;rw[GC.mp h];simp[za]
  |succ k ih=>
   intro R h;obtain ⟨S,x,rfl⟩:∃ S x,R=S++[x]:=⟨R.dropLast,R.getLast (by intro e;rw[e]at h;ext h),(List.dropLast_concat_getLast _).symm⟩;rw[AV]at h;let ih:=ih S (by simp at h;omega);let l1:=JU S;rw[Ls,AV,Ds];erw[ST.ins];by_cases hx:x∈za S
   .rw[AD hx];let hx':=(J9 S x).mp hx;constructor
    .intro h2;simp at h2;omega
    .intro h2;exact absurd rfl (h2.2.2 x hx' x (by simp))
   .rw[AE hx,AV];let hx':x∉S:=λz=>hx ((J9 S x).mpr z);constructor
    .intro h2;refine ⟨ih.mp (by simp at h2;omega),by simp,λa ha b hb e=>hx' ?_⟩;rw[Ae.mp hb]at e;rw[<-e];exact ha
    .intro h2;rw[ih.mpr h2.1]
 calc λR=>key _ R rfl
section
variable {zA:Ya} {l:Nat}
def JF (h:IsS zA S) (h26:zA.length<=26):S.length<=26:=by
 have:=Mx (a:=0) (n:=zA.length) h.pw λx hx=>by have:=h.mem x hx;omega
 omega
def FY (h:D.tup [tI p,.int b,tI f]=D.tup [tI p',.int b',tI f']):p=p'/\b=b'/\f=f':=by
 injection h with h
 injection h with h1 h
 injection h with h2 h
 injection h with h3 h
 calc ⟨MT h1,D.int.inj h2,MT h3⟩
def hG (m:IsM zA l) (h26:zA.length<=26) (hl:l<=6) (wf:∀ (j:Nat) u,M[j]?=some u->MO.und M.length u=true) (hd:Vd M d):Fz [mD zA,d] M=some (.bl (DD (Ac zA d)),M):=by
 suffices h:Ok (Fz [mD zA,d] M) (λr A=>A=M/\r=.bl (DD (Ac zA d))) by
  let⟨r,A,e,rfl,rfl⟩:=h;exact e
 erw[Fz];calc OR wf ?_;rw[B3];erw[LF];let⟨t,ht,htt,_⟩:=hd.ty;cases hT:JM d with
 |false=>
  have:¬ Ac zA d:=by rintro ⟨p,b,φ,rfl,_⟩;ext hT
  calc Cm (Ge (Bk (isV rfl ht (htt.trans hT)))) (Bp rfl ⟨rfl,.refl M,by rw[Dv this]⟩)
 |true=>
  obtain ⟨ds,rfl⟩:∃ ds,d=.tup ds:=by cases d <;> first|exact ⟨_,rfl⟩|ext hT
  let hv:∀ x∈ds,Vd M x:=by
   have:=hd;erw[Vd]at this;exact this.2.mem
  by_cases h3:ds.length=3
  .obtain ⟨a,b,c,rfl⟩:∃ a b c,ds=[a,b,c]:=by
    match ds,h3 with
    |[a,b,c],_=>exact ⟨a,b,c,rfl⟩
   calc Ef (DB (Bk (isV rfl ht (htt.trans hT))) ((BJ (zE (FL rfl CT) rfl neI)).trans (by simp))) ?_;rw[zI,M0];calc zm.mpr ⟨_,rfl,zJ.mpr ⟨_,rfl,?_⟩⟩;rw[zM];let va:=hv a (by simp);let vb:=hv b (by simp);let vc:=hv c (by simp);let⟨ks,es,hs⟩:=cT va;cases ks with
   |false=>
    have:¬ Ac zA (.tup [a,b,c]):=by
     rintro ⟨p,b',φ,e,hS,_⟩;injection e with e
     injection e with e1 e
     have:=hs.mpr ⟨p,e1,hS⟩;ext this
    calc Cm (Ge (Bk (BZ (zL rfl (zU rfl)) es))) (Bp rfl ⟨rfl,.refl M,by rw[Dv this]⟩)
   |true=>
    let⟨p,rfl,hS⟩:=hs.mp rfl;let hpl:=JF hS h26;cases hw:Jy b with
    |false=>
     have:¬ Ac zA (.tup [tI p,b,c]):=by
      rintro ⟨p',b',φ,e,_⟩;injection e with e
      injection e with e1 e
      injection e with e2 e
      rw[e2]at hw;ext hw
     let ew:=Lp vb;rw[hw]at ew;calc Cm (DB (Bk (BZ (zL rfl (zU rfl)) es)) (Ge (Bk (BZ (zU rfl) ew)))) (Bp rfl ⟨rfl,.refl M,by rw[Dv this]⟩)
    |true=>
     obtain ⟨β,rfl⟩:∃ β,b=.int β:=by cases b <;> first|exact ⟨_,rfl⟩|ext hw
     let ew:=Lp vb;rw[hw]at ew;let et:=Ql (n:=β) vc;cases htb:tbD β c with
     |false=>
      have:¬ Ac zA (.tup [tI p,.int β,c]):=by
       rintro ⟨p',b',φ,e,_,hr,_⟩;injection e with e
       injection e with e1 e
       injection e with e2 e
       injection e with e3 e
       let e2:=D.int.inj e2;rw[e3,e2,MA λx hx=>by let⟨y,hy,rfl⟩:=AU.mp hx;calc hr y hy]at htb;ext htb
      rw[htb]at et;calc Cm (DB (Bk (BZ (zL (d:=mD zA) rfl (zU (d:=tI p) rfl)) es)) (DB (Bk (BZ (zU rfl) ew)) (Bk (BZ (zL rfl (zU rfl)) et)))) (Bp rfl ⟨rfl,.refl M,by rw[Dv this]⟩)
     |true=>
      rw[htb]at et;let⟨f,rfl,hf⟩:=Py.mp htb;calc Ef (DB (Bk (BZ (zL rfl (zU rfl)) es)) (DB (Bk (BZ (zU rfl) ew)) (Bk (BZ (zL rfl (zU rfl)) et)))) ?_;let c1:tst (fOp kNe (fB AZ (zK (zC 4) zb)) (fB AZ (zK (zC 2) zb))) [some (mD zA),some (.tup [tI p,.int β,tI f]),some (tI p),some (.int β),some (tI f)] M=some (decide ((f.length:Int)≠(p.length:Int)),M):=BJ (zE (GW rfl) (GW rfl) neI);by_cases hlen:f.length=p.length
      .rw[Al (by simp[hlen])]at c1;let c2:tst (fOp kNe (GR (Dz (zC 4))) (zC 3)) [some (mD zA),some (.tup [tI p,.int β,tI f]),some (tI p),some (.int β),some (tI f)] M=some (decide (((za f).length:Int)≠β),M):=BJ (zE (Pj (K0 rfl CT ())) (y:=.dat (.int β)) rfl neI);by_cases hset:((za f).length:Int)=β
       .rw[Al (by simp[hset])]at c2;refine Ef (DB c1 c2) ?_;let nd:=Hq hS.pw;obtain ⟨φ,hφ⟩:∃ φ:Int->Int,f=p.map φ:=⟨_,VX nd hlen⟩;subst hφ;let hr:∀ x∈p,0<=φ x/\φ x<β:=λx hx=>hf _ (AU.mpr ⟨x,hx,rfl⟩);let b1:1<=β:=by
         let⟨x,hx⟩:=List.exists_mem_of_length_pos hS.n0;have:=hr x hx;omega
        let er:=YK m h26 hl (φ:=φ) hS.mem hpl b1 (A:=M++[.dict (phK p φ)]) (zZ _ _);rw[Ey];calc zH (Y5 (aC' (Hr rfl) (aC' (YW (zL rfl (zU rfl)) nd ()) (zU rfl))) er) (zJ.mpr ⟨rfl,((Ex.refl M).app _).set (AF _) _,?_⟩);congr 1;rw[C9,decide_eq_true_iff,Ma];constructor
        .intro h;exact ⟨p,β,φ,rfl,hS,hr,hset,h⟩
        .rintro ⟨p',b',φ',e,_,_,_,h⟩;let⟨rfl,rfl,e3⟩:=FY e;let ex:∀ x∈p,φ x=φ' x:=List.map_inj_left.mp e3;intro x hx g hg;let⟨q1,q2⟩:=h x hx g hg;exact ⟨q1,by rw[ex g q1,ex x hx];calc q2⟩
       .have:¬ Ac zA (.tup [tI p,.int β,tI f]):=by
         rintro ⟨p',b',φ',e,_,_,h,_⟩;let⟨rfl,rfl,e3⟩:=FY e;rw[e3]at hset;exact hset h
        rw[BB (by simp[hset])]at c2;exact Cm (DB c1 c2) (Bp rfl ⟨rfl,.refl M,by rw[Dv this]⟩)
      .have:¬ Ac zA (.tup [tI p,.int β,tI f]):=by
        rintro ⟨p',b',φ',e,_⟩;let⟨rfl,rfl,e3⟩:=FY e;rw[e3,AG]at hlen;exact hlen rfl
       rw[BB ()]at c1;exact Cm (Ge c1) (Bp rfl ⟨rfl,.refl M,by rw[Dv this]⟩)
  .have:¬ Ac zA (.tup ds):=by
    rintro ⟨p,b,φ,e,_⟩;injection e with e
    rw[e]at h3;exact h3 rfl
   calc Cm (DB (Bk (isV rfl ht (htt.trans hT))) ((BJ (zE (FL rfl CT) rfl neI)).trans (by rw[BB ()]))) (Bp rfl ⟨rfl,.refl M,by rw[Dv this]⟩)
def Shw (zA:Ya) (d:D):Prop:=∃ T:List Bt,d=.tup (T.map btD)/\(∀ t∈T,Ac zA (btD t))/\(T.flatMap (·.1)).Nodup
def XT (h:∀ d∈ds,Ac zA d):∃ T:List Bt,ds=T.map btD:=by
 induction ds with
 |nil=>calc ⟨[],rfl⟩
 |cons d ds ih=>
  let⟨T,e⟩:=ih λx hx=>h x (BF _ hx);let⟨p,b,φ,rfl,_⟩:=h d Ax;calc ⟨(p,b,p.map φ)::T,by rw[e];rfl⟩
def OU (h:btD s=btD t):s=t:=by
 let⟨a,b,c⟩:=s;let⟨a',b',c'⟩:=t;let⟨rfl,rfl,rfl⟩:=FY h;rfl
def dE (m:IsM zA l) (h26:zA.length<=26) (hl:l<=6) (wf:∀ (j:Nat) u,M[j]?=some u->MO.und M.length u=true) (hd:Vd M d) (hz:Ib d<=100):Eg [mD zA,d] M=some (.bl (DD (Shw zA d)),M):=by
 suffices h:Ok (Eg [mD zA,d] M) (λr A=>A=M/\r=.bl (DD (Shw zA d))) by
  let⟨r,A,e,rfl,rfl⟩:=h;exact e
 erw[Eg];calc OR wf ?_;rw[B3];erw[Lx];let⟨t,ht,htt,_⟩:=hd.ty;cases hT:JM d with
 |false=>
  have:¬ Shw zA d:=by rintro ⟨T,rfl,_⟩;ext hT
  calc Cm (Ge (Bk (isV rfl ht (htt.trans hT)))) (Bp rfl ⟨rfl,.refl M,by rw[Dv this]⟩)
 |true=>
  obtain ⟨ds,rfl⟩:∃ ds,d=.tup ds:=by cases d <;> first|exact ⟨_,rfl⟩|ext hT
  let hz:ds.length<=100:=hz;let hv:∀ x∈ds,Vd M x:=by
   have:=hd;erw[Vd]at this;exact this.2.mem
  let hall:=Gj (bs:=ds.map λx=>DD (Ac zA x)) ((Eh (own:=[2]) (fi:=AQ (zC 1)) (g:=gN 2) (te:=ze Fz (zD (toD (zC 0)) (zD (toD (zC 2)) zF))) (Y:=[some (mD zA),some (.tup ds),none,none,none,none,none,none]) (M:=M) ds id (λx=> .bl (DD (Ac zA x))) (gd:=none) (by rw[List.map_id];calc Cw rfl) trivial () λx hx=>⟨_,rfl,BZ (zL (d:=mD zA) rfl (zU (d:=x) rfl)) (hG m h26 hl wf (hv x hx))⟩).trans (by rw[CS];rfl));rw[JA]at hall;cases hA:ds.all λx=>DD (Ac zA x) with
  |false=>
   rw[hA]at hall;have:¬ Shw zA (.tup ds):=by
    rintro ⟨T,e,hT,_⟩;injection e with e
    rw[e,Ap.mpr λx hx=>by let⟨t,ht,rfl⟩:=AU.mp hx;calc Mt (hT t ht)]at hA;ext hA
   calc Cm (DB (Bk (isV rfl ht (htt.trans hT))) (Bk hall)) (Bp (d:=.bl false) rfl ⟨rfl,.refl M,by rw[Dv this]⟩)
  |true=>
   rw[hA]at hall;let hB:∀ x∈ds,Ac zA x:=λx hx=>Ma.mp (Ap.mp hA x hx);let⟨T,rfl⟩:=XT hB;let hTB:∀ t∈T,Ac zA (btD t):=λt ht=>hB _ (AU.mpr ⟨t,ht,rfl⟩);let hT26:∀ t∈T,t.1.length<=26:=λt ht=>by
    let⟨p,b,φ,e,hS,_⟩:=hTB t ht;let⟨e1,_⟩:=FY e;rw[e1];exact JF hS h26
   rw[AG]at hz;refine Ef (DB (Bk (isV rfl ht (htt.trans hT))) (Bk hall)) ?_;rw[zI,zc];let hc:=Qq (own:=[5,6,7,4]) (own2:=[4]) (fi:=AQ (zC 1)) (fi2:=AQ (zC 5)) (fg:=Er 5 6 7) (fg2:=gN 4) (tc2:=Ab) (te:=zC 4) (Y:=[some (mD zA),some (.tup (T.map btD)),none,none,none,none,none,none]) (M:=M) T btD (λt=>t.1) D.int (λ_ _=>true) (λ_ x=> .int x) 26 (Cw rfl) hT26 () λt ht=>⟨_,rfl,Cw rfl,λx hx=>⟨_,rfl,rfl,λ_=>rfl⟩⟩;let hR:(T.flatMap λt=>((t.1).filter λ_=>true).map λx=>D.int x)=(T.flatMap (·.1)).map D.int:=by
    rw[List.map_flatMap];congr 1;funext t;rw[List.filter_eq_self.mpr (λ_ _=>rfl)]
   rw[hR]at hc;refine zH hc (zk ?_);rw[zM];let hRl:(T.flatMap (·.1)).length<=2600:=by
    have:∀ T:List Bt,(∀ t∈T,t.1.length<=26)->(T.flatMap (·.1)).length<=T.length*26:=by
     intro T;induction T with
     |nil=>intro _;calc AF _
     |cons t T ih=>
      intro h;let h1:=h t Ax;let h2:=ih λs hs=>h s (BF _ hs);rw[List.flatMap_cons,AV,C0];omega
    have:=this T hT26;omega
   generalize hRR:T.flatMap (·.1)=R at hRl;let e3:(M++[MO.lst (R.map D.int)])[M.length]?=some (.lst (R.map D.int)):=zZ _ _;let el:=FL (f:=zC 3) (Y:=[some (mD zA),some (.tup (T.map btD)),none,some (.ref M.length),none,none,none,none]) (M:=M++[MO.lst (R.map D.int)]) (x:=.dat (.ref M.length)) rfl (zj e3);rw[AG]at el;calc Bp (zE (Pj (K0 (x:=.dat (.ref M.length)) rfl (zj e3) ())) el eqE) ⟨rfl,(Ex.refl M).app _,?_⟩;congr 1;rw[C9,decide_eq_true_iff,Ma];constructor
   .intro h;exact ⟨T,rfl,hTB,by rw[hRR];calc (Qx R).mp (Int.ofNat.inj h)⟩
   .rintro ⟨T',e,_,h⟩;have:T=T':=(List.map_inj_right λa b e=>OU e).mp (D.tup.inj e);subst this;rw[hRR]at h;rw[(Qx R).mpr h]
end
def Ox (c0:0<=c) (h:∀ z,z∈YY ↔ 0<=z/\z<c):((za YY).length:Int)=c:=by
 let p:(za YY).Perm ((List.range c.toNat).map λ(k:Nat)=>(k:Int)):=(List.perm_ext_iff_of_nodup (N5 YY) (by erw[List.Nodup];rw[List.pairwise_map];exact (List.nodup_range).imp λh e=>h (Int.ofNat.inj e))).mpr λz=>by
  rw[J9,h,AU];constructor
  .intro hz;exact ⟨z.toNat,DR.mpr (),()⟩
  .rintro ⟨k,hk,rfl⟩;have:=DR.mp hk;omega
 rw[p.length_eq,AG,Ep];omega
section
variable {zA:Ya} {l:Nat}
def Part.set (h:Part zA p):IsS zA p:=⟨h.pw,h.n0,h.mem⟩
def Phs.cnt (m:IsM zA l) (hP:Part zA p) (h:Phs zA p b φ):((za (p.map φ)).length:Int)=b:=by
 let b1:=h.b1;refine Ox () λz=>⟨λhz=>?_,λhz=>?_⟩
 .obtain ⟨x,hx,rfl⟩:=AU.mp hz;exact h.rg x hx
 .obtain ⟨x,hx,e⟩:=h.all hP (λx hx e=>by
   let h1:=(IZ m (hP.mem x hx).1 (hP.mem x hx).2).1;rw[e,DY]at h1;have:=m.l0;omega) hz.1 hz.2
  calc AU.mpr ⟨x,hx,e⟩
def Phs.bt (m:IsM zA l) (hP:Part zA p) (h:Phs zA p b φ):Ac zA (btD (p,b,p.map φ)) :=
 ⟨p,b,φ,rfl,hP.set,h.rg,h.cnt m hP,λx hx g hg=>⟨hP.cl x hx g hg,h.st x hx g hg⟩⟩
def IsB.bt (m:IsM zA l) (h:IsB zA t):Ac zA (btD t):=by
 let⟨p,b,f⟩:=t;let⟨φ,e,hφ,_⟩:=h.ph;let e:f=p.map φ:=e;subst e;calc hφ.bt m h.part
theorem Phs.by (h:Phs zA p b φ) (k:Int):Phs zA p b λx=>(φ x+k) % b:=by
 let b1:=h.b1;refine ⟨b1,λx _=>⟨Int.emod_nonneg _ (),FJ _ ()⟩,λx hx g hg=>?_⟩;rw[h.st x hx g hg,Int.emod_add_emod,Int.emod_add_emod];congr 1;omega
def Phs.less (h:Phs zA p b φ) (c1:1<=c) (hc:b % c=0):Phs zA p c λx=>φ x % c:=by
 refine ⟨c1,λx _=>⟨Int.emod_nonneg _ (),FJ _ ()⟩,λx hx g hg=>?_⟩;rw[h.st x hx g hg,Int.emod_emod_of_dvd _ (Int.dvd_of_emod_eq_zero hc),Int.emod_add_emod]
def Ai (zA:Ya):Bt:=((List.range zA.length).map λ(k:Nat)=>(k:Int),1,List.replicate zA.length 0)
def Pr (m:IsM zA l):Ac zA (btD (Ai zA)):=by
 let mem:∀ x,x∈((List.range zA.length).map λ(k:Nat)=>(k:Int)) ↔ 0<=x/\x<(zA.length:Int):=λx=>by
  rw[AU];exact ⟨λ⟨k,hk,e⟩=>by have:=DR.mp hk;omega,λh=>⟨x.toNat,DR.mpr (),()⟩⟩
 let r0:=m.r0;let e0:List.replicate zA.length (0:Int)=((List.range zA.length).map λ(k:Nat)=>(k:Int)).map λ_=>0:=by
  rw[CS];refine (List.eq_replicate_iff.mpr ⟨by simp,λy hy=>?_⟩).symm;let⟨k,_,e⟩:=AU.mp hy;exact e.symm
 refine ⟨_,1,λ_=>0,by erw[btD,Ai];rw[e0],⟨?_,by simp;exact r0,λx hx=>(mem x).mp hx⟩,λ_ _=>⟨Int.le_refl 0,show (0:Int)<1 by decide⟩,?_,λx hx g hg=>⟨(mem g).mpr ?_,rfl⟩⟩
 .rw[List.pairwise_map];exact List.pairwise_lt_range.imp λh=>()
 .refine Ox () λz=>⟨λhz=>?_,λhz=>?_⟩
  .obtain ⟨x,_,e⟩:=AU.mp hz;omega
  .exact AU.mpr ⟨0,(mem 0).mpr (),()⟩
 .obtain ⟨x0,x1⟩:=(mem x).mp hx;calc (IZ m x0 x1).2 g hg
theorem Ni:∀ {T:List Bt},(∀ t∈T,IsB zA t)->(T.map (·.1)).Nodup->(T.flatMap (·.1)).Nodup
 |[],_,_=>List.nodup_nil
 |t::T,h,nd=>by
  rw[Ag,List.nodup_cons]at nd;rw[List.flatMap_cons,Ds];refine ⟨Hq (h t Ax).part.pw,Ni (λs hs=>h s (BF _ hs)) nd.2,λx hx y hy e=>?_⟩;subst e;let⟨s,hs,hxs⟩:=List.mem_flatMap.mp hy;have:=(h t Ax).part.apart (h s (BF _ hs)).part hx hxs;calc nd.1 (AU.mpr ⟨s,hs,this.symm⟩)
def TX (m:IsM zA l) {T:List Bt} (h:∀ t∈T,IsB zA t) (nd:(T.map (·.1)).Nodup):Shw zA (.tup (T.map btD)):=⟨T,rfl,λt ht=>(h t ht).bt m,Ni h nd⟩
def Zg (h:Ac zA (btD t)):Shw zA (.tup [btD t]):=by
 refine ⟨[t],rfl,λs hs=>by rw[Ae.mp hs];calc h,?_⟩;let⟨p,b,φ,e,hS,_⟩:=h;let⟨e1,_⟩:=FY e;rw[List.flatMap_cons,List.flatMap_nil,DO,e1];calc Hq hS.pw
def Ku (hd:d∈ds) (h:¬ Ac zA d):¬ Shw zA (.tup ds):=by
 rintro ⟨T,e,hT,_⟩;injection e with e
 rw[e]at hd;let⟨t,ht,rfl⟩:=AU.mp hd;calc h (hT t ht)
def Nt {T:List Bt} (ht:t∈T) (h1:x∈t.1) (h2:x∈s.1):¬ Shw zA (.tup (T.map btD++[btD s])):=by
 rintro ⟨T',e,_,nd⟩;injection e with e
 have:T++[s]=T':=(List.map_inj_right λa b e=>OU e).mp (by rw[Cv];calc e);subst this;rw[List.flatMap_append,Ds]at nd;calc nd.2.2 x (List.mem_flatMap.mpr ⟨t,ht,h1⟩) x (~~~h2) rfl
def OK:D.tup (.bl k::ds)≠tI p:=λe=>by
 injection e with e
 cases p with
 |nil=>ext e
 |cons a r=>injection e with e;ext e
section
variable {p:Ye} {b:Int} {φ:Int->Int}
def Im (h:btD (p,b,f)=D.tup [tI p',.int b',tI f']):p=p'/\b=b'/\f=f':=FY h
def b9 (m:IsM zA l) (hP:Part zA p) (h:Phs zA p b φ) (hi:i<p.length):¬ Ac zA (btD (p,b,(p.map φ).take i++[((p.map φ).getD i 0+1) % (b+1)]++(p.map φ).drop (i+1))):=by
 rintro ⟨p',b',ψ,e,_,hr,_,hst⟩;let⟨rfl,rfl,e3⟩:=Im e;let nd:=Hq hP.pw;let b1:=h.b1;let hlen:(p.map φ).length=p.length:=AG _;let get:∀ j,(hj:j<p.length)->ψ p[j]=if j=i then (φ p[i]+1) % (b+1) else φ p[j]:=λj hj=>by
  let e4:=BO (·[j]?) e3;rw[AW,AM hj,CI]at e4;let e5:((p.map φ).getD i 0)=φ p[i]:=by rw[By,AW,AM hi];rfl
  rw[e5]at e4;let tl:((p.map φ).take i).length=i:=by rw[Bg,hlen];omega
  by_cases q:j<i
  .rw[AE ()];rw[Bf (),List.getElem?_take_of_lt q,AW,AM hj]at e4;exact (Bb e4).symm
  .rw[Ee (),tl]at e4;by_cases q2:j=i
   .subst q2;rw[AD rfl];rw[Nat.sub_self]at e4;exact (Bb e4).symm
   .rw[AE q2];rw[show j-i=(j-i-1)+1 by omega,List.singleton_append,List.getElem?_cons_succ,List.getElem?_drop,show i+1+(j-i-1)=j by omega,AW,AM hj]at e4;exact (Bb e4).symm
 let hx:p[i]∈p:=Bd hi;let e1:=get i hi;rw[AD rfl]at e1;let r1:=hr _ hx;let r2:=h.rg _ hx;by_cases q:φ p[i]+1=b
 .rw[q,Int.emod_eq_of_lt () ()]at e1;omega
 .rw[Int.emod_eq_of_lt () ()]at e1;let⟨g,hg⟩:=List.exists_mem_of_ne_nil (gl zA p[i]) λe=>by
   let h1:=(IZ m (hP.mem _ hx).1 (hP.mem _ hx).2).1;rw[e,DY]at h1;have:=m.l0;omega
  let s1:=h.st _ hx g hg;rw[Int.emod_eq_of_lt () ()]at s1;let⟨g1,g2⟩:=hst _ hx g hg;let⟨j,hj,ej⟩:=List.mem_iff_getElem.mp g1;let e2:=get j hj;rw[ej]at e2;by_cases ji:j=i
  .subst ji;rw[ej]at s1;omega
  .rw[AE ji,s1]at e2;rw[e2,e1]at g2;by_cases q2:φ p[i]+1+1=b
   .rw[q2,Int.emod_self]at g2;omega
   .rw[Int.emod_eq_of_lt () ()]at g2;omega
def dF (m:IsM zA l) (hP:Part zA p) (h:Phs zA p b φ) (hc:c≠b):¬ Ac zA (btD (p,c,p.map φ)):=by
 rintro ⟨p',b',ψ,e,_,_,hn,_⟩;let⟨rfl,rfl,e3⟩:=Im e;rw[<-e3,h.cnt m hP]at hn;calc hc hn.symm
def Li (hl:f.length≠p.length):¬ Ac zA (btD (p,b,f)):=by
 rintro ⟨p',b',ψ,e,_⟩;let⟨rfl,rfl,e3⟩:=Im e;rw[e3,AG]at hl;calc hl rfl
def LI (hl:¬ IsS zA p):¬ Ac zA (btD (p,b,f)):=by
 rintro ⟨p',b',ψ,e,hS,_⟩;let⟨rfl,_⟩:=Im e;calc hl hS
def ZI (hP:Part zA p) (h2:1<p.length) (hi:i<p.length):¬ Ac zA (btD (p.take i++p.drop (i+1),b,f)):=by
 rintro ⟨p',b',ψ,e,_,_,_,hst⟩;let⟨rfl,_⟩:=Im e;let nd:=Hq hP.pw;let ep:p=p.take i++(p[i]::p.drop (i+1)):=by rw[List.getElem_cons_drop,EF]
 let nd2:=nd;rw[ep]at nd2;let hni:p[i]∉p.take i++p.drop (i+1):=λhm=>by
  let pm:(p.take i++(p[i]::p.drop (i+1))).Perm (p[i]::(p.take i++p.drop (i+1))):=List.perm_middle;exact (List.nodup_cons.mp (pm.nodup_iff.mp nd2)).1 hm
 let⟨x,hx,xr,hg⟩:=hP.into h2 (Bd hi);let hx':x∈p.take i++p.drop (i+1):=by
  have:x∈p.take i++(p[i]::p.drop (i+1)):=by rw[<-ep];exact hx
  rcases AR.mp this with z|z
  .exact CJ _ z
  .rcases AJ.mp z with z|z
   .exact absurd z xr
   .exact BD _ z
 calc hni (hst x hx' _ hg).1
def UX (hP:Part zA p) (h2:1<p.length):¬ Ac zA (btD (p.reverse,b,f)):=LI λh=>by
 let h1:=List.pairwise_reverse.mp h.pw;let h0:=hP.pw;match p,h2 with
 |a::c::r,_=>
  let q1:=(DA.mp h0).1 c (by simp);let q2:=(DA.mp h1).1 c (by simp);omega
end
end
def LG:FS:=(zN (GZ (Er 2 3 4) (zC 1))
  (zN (AN 5 (ze zg (zD (toD (zC 0)) (zD (toD (zC 3)) zF))))
  (zN (AN 6 (Ar [7] (Bx (zD (toD (fC (.int 1))) (zD (toD (fOp zQ (zC 3) (fC (.int 1)))) zF))) (gN 7) (tst (fOp kEq (fOp BW (zC 3) (zC 7)) (fC (.int 0)))) (zC 7)))
  (zN (AN 8 (fOp kIx (zC 6) (ze zg (zD (toD (zC 0)) (zD (toD (fB AZ (zK (zC 6) zb))) zF)))))
  (Aa (Aq (zD (toD (zi (zD (toD (zC 2)) (zD (toD (zC 3)) (zD (toD (fB CC (zK (Ar [9] (AQ (zC 4)) (gN 9) Ab (fOp BW (fOp zQ (zC 9) (zC 5)) (zC 3))) zb))) zF))))) (zD (toD (zi (zD (toD (zC 2)) (zD (toD (zC 8)) (zD (toD (fB CC (zK (Ar [9] (AQ (zC 4)) (gN 9) Ab (fOp BW (zC 9) (zC 8))) zb))) zF))))) zF))))))))
def Gq:FF:=BH 10 LG
def K5:FS:=(Aa (fB CC (zK (Ar [1] (AQ (zC 0)) (gN 1) Ab (vIf (tst (fOp kLt (zC 1) (fC (.int 2)))) (fOp kEq (zC 1) (fC (.int 1))) (zC 1))) zb)))
def Ik:FF:=BH 2 K5
def Ks:FS:=(zN (GZ (Er 3 4 5) (zC 2))
  (zN (AN 6 (ze zg (zD (toD (zC 0)) (zD (toD (fB AZ (zK (zC 3) zb))) zF))))
  (zN (AN 7 (fOp zQ (fOp zQ (fSl (zC 5) AY (Af (zC 6))) (zi (zD (toD (fOp BW (fOp zQ (fOp kIx (zC 5) (zC 6)) (fC (.int 1))) (fOp zQ (zC 4) (fC (.int 1))))) zF))) (fSl (zC 5) (Af (fOp zQ (zC 6) (fC (.int 1)))) AY)))
  (zN (AN 8 (Aq (zD (toD (zi (zD (toD (zC 3)) (zD (toD (zC 4)) (zD (toD (zC 7)) zF))))) (zD (toD (zi (zD (toD (zC 3)) (zD (toD (fOp zQ (zC 4) (fC (.int 1)))) (zD (toD (zC 5)) zF))))) (zD (toD (zi (zD (toD (zC 3)) (zD (toD (fOp GO (fC (.int 10)) (fC (.int 30)))) (zD (toD (zC 5)) zF))))) (zD (toD (zi (zD (toD (zC 3)) (zD (toD (fC (.int 0))) (zD (toD (zC 5)) zF))))) zF))))))
  (zN (AN 8 (fOp EH (zC 8) (Aq (zD (toD (zi (zD (toD (zC 3)) (zD (toD (fB HN (zK (zC 4) zb))) (zD (toD (zC 5)) zF))))) (zD (toD (zi (zD (toD (fB D8 (zK (zC 3) zb))) (zD (toD (zC 4)) (zD (toD (zC 5)) zF))))) (zD (toD (Aq (zD (toD (zC 3)) (zD (toD (zC 4)) (zD (toD (zC 5)) zF))))) zF))))))
  (zN (AN 8 (fOp EH (zC 8) (Aq (zD (toD (zi (zD (toD (zC 3)) (zD (toD (zC 4)) (zD (toD (fB D8 (zK (zC 5) zb))) zF))))) (zD (toD (zi (zD (toD (zC 3)) (zD (toD (zC 4)) (zD (toD (fOp zQ (zC 5) (zi (zD (toD (fC (.int 0))) zF)))) zF))))) (zD (toD (zi (zD (toD (zC 3)) (zD (toD (zC 4)) zF)))) (zD (toD (zi (zD (toD (zC 3)) (zD (toD (zC 4)) (zD (toD (zC 5)) (zD (toD (fC (.int 0))) zF)))))) zF)))))))
  (zN (AN 8 (fOp EH (zC 8) (Aq (zD (toD (zi (zD (toD (fOp zQ (zC 3) (zi (zD (toD (fB AZ (zK (zC 1) zb))) zF)))) (zD (toD (zC 4)) (zD (toD (fOp zQ (zC 5) (zi (zD (toD (fC (.int 0))) zF)))) zF))))) (zD (toD (zi (zD (toD (fOp zQ (FU (zC 3)) (zi (zD (toD (IU (fC (.int 1)))) zF)))) (zD (toD (zC 4)) (zD (toD (zC 5)) zF))))) (zD (toD (fC .non)) (zD (toD (fC (.int 0))) zF)))))))
  (zN (sIf (tst (fOp kGt (fB AZ (zK (zC 3) zb)) (fC (.int 1)))) (zN (BL (fM Bh (zC 8) (zD (toD (zi (zD (toD (fOp zQ (fSl (zC 3) AY (Af (zC 6))) (fSl (zC 3) (Af (fOp zQ (zC 6) (fC (.int 1)))) AY))) (zD (toD (zC 4)) (zD (toD (fOp zQ (fSl (zC 5) AY (Af (zC 6))) (fSl (zC 5) (Af (fOp zQ (zC 6) (fC (.int 1)))) AY))) zF))))) zF)))
  (BL (fM Bh (zC 8) (zD (toD (zi (zD (toD (FU (zC 3))) (zD (toD (zC 4)) (zD (toD (FU (zC 5))) zF))))) zF)))) BP)
  (zN (sIf (tst (fOp kEq (zC 4) (fC (.int 1)))) (BL (fM Bh (zC 8) (zD (toD (zi (zD (toD (zC 3)) (zD (toD (fC (.bl true))) (zD (toD (zC 5)) zF))))) zF))) BP)
  (zN (sIf (tst (fOp kLt (fOp kIx (zC 3) (fC (.int 0))) (fC (.int 2)))) (BL (fM Bh (zC 8) (zD (toD (zi (zD (toD (fOp zQ (zi (zD (toD (fOp kEq (fOp kIx (zC 3) (fC (.int 0))) (fC (.int 1)))) zF)) (fSl (zC 3) (Af (fC (.int 1))) AY))) (zD (toD (zC 4)) (zD (toD (zC 5)) zF))))) zF))) BP)
  (zN (BL (fM Bh (zC 8) (zD (toD (zi (zD (toD (zC 3)) (zD (toD (zC 4)) (zD (toD (ze Ik (zD (toD (zC 5)) zF))) zF))))) zF)))
  (Aa (zC 8)))))))))))))
def Gv:FF:=BH 9 Ks
def Tk (M M':Mem):Prop:=∀ n t,DE M (.dat (.ref n))=some t->DE M' (.dat (.ref n))=some t
def Tk.of (h:∀ (n:Nat) u,M[n]?=some u->M'[n]?=some u):Tk M M':=λn t e=>by
 unfold DE at e ⊢;dsimp only at e ⊢;cases q:M[n]? with
 |none=>rw[q]at e;ext e
 |some u=>rw[q]at e;rw[h n u q];calc e
def Tk.app (M us:Mem):Tk M (M++us):=Tk.of λn u e=>D1 e us
def Tk.set (e:M[z]?=some (.lst xs)):Tk M (M.set z (.lst ys)):=λn t h=>by
 unfold DE at h ⊢;dsimp only at h ⊢;by_cases q:z=n
 .subst q;rw[e]at h;rw[Br (AK.mp e).1];exact h
 .rw[Bl q];calc h
def RH (g:Gen M n k) (h:Nw M M' n k):Tk M M':=λj t e=>by
 let⟨c,s,e1,e2,_⟩:=g.ex;let⟨c',s',e1',e2',_⟩:=h.gen.ex;unfold DE at e ⊢;dsimp only at e ⊢;by_cases q1:j=n
 .subst q1;rw[e1]at e;rw[e1'];exact e
 .by_cases q2:j=k
  .subst q2;rw[e2]at e;rw[e2'];exact e
  .cases q:M[j]? with
   |none=>rw[q]at e;ext e
   |some u=>rw[h.fr j (AK.mp q).1 q1 q2];calc e
mutual
theorem RS (k:Tk M M'):∀ {d:D},Vd M d->Vd M' d
 |.ref n,h=>by
  unfold Vd at h ⊢;let⟨t,e,q⟩:=h;calc ⟨t,k n t e,q⟩
 |.tup ds,h=>by
  unfold Vd at h ⊢;calc ⟨h.1,Nv k h.2⟩
 |.non,_=>by erw[Vd];trivial
 |.bl _,_=>by erw[Vd];trivial
 |.int _,_=>by erw[Vd];trivial
 |.str _,_=>by erw[Vd];trivial
theorem Nv (k:Tk M M'):∀ {ds:List D},Vds M ds->Vds M' ds
 |[],_=>by erw[Vds];trivial
 |d::ds,h=>by
  unfold Vds at h ⊢;calc ⟨RS k h.1,Nv k h.2⟩
end
def Okd (A:Mem) (d:D):Prop:=Vd A d/\D.und A.length d=true
def Okd.keep (k:Tk A A') (hl:A.length<=A'.length) (h:Okd A d):Okd A' d:=⟨RS k h.1,ID hl h.2⟩
def Bi (i:Int):Okd A (.int i):=⟨by erw[Vd];trivial,by erw[D.und];rfl⟩
def Jm (i:Bool):Okd A (.bl i):=⟨by erw[Vd];trivial,by erw[D.und];rfl⟩
def QY (i:Str):Okd A (.str i):=⟨by erw[Vd];trivial,by erw[D.und];rfl⟩
def Lh:Okd A .non:=⟨by erw[Vd];trivial,by erw[D.und];rfl⟩
def Jp (h:A[j]?=some (.lst xs)):Okd A (.ref j):=⟨by
 erw[Vd];calc ⟨"list", ?_,.inl rfl⟩;erw[DE];dsimp only;rw[h],by erw[D.und];calc BB (AK.mp h).1⟩
def C6 (hz:ds.length<=1000) (h:∀ d∈ds,Okd A d):Okd A (.tup ds):=⟨by
 erw[Vd];exact ⟨(),Vds.of λd hd=>(h d hd).1⟩,by erw[D.und];exact zw λd hd=>(h d hd).2⟩
def DG (hz:p.length<=1000):Okd A (tI p):=C6 (by rw[AG];exact hz) λd hd=>by
 let⟨x,_,rfl⟩:=AU.mp hd;calc Bi x
def al0 {p:D->Prop}:∀ d∈([]:List D),p d:=λd h=>by ext h
def al1 {p:D->Prop} {ds:List D} {d:D} (h:p d) (hs:∀ d∈ds,p d):∀ x∈d::ds,p x:=λx hx=>by
 rcases AJ.mp hx with z|z
 .subst z;exact h
 .exact hs x z
def Vt {A:Mem} {a b:D} (h1:Okd A a) (h2:Okd A b):Okd A (.tup [a,b]):=C6 (by simp) (al1 h1 (al1 h2 al0))
def Cg {A:Mem} {a b c:D} (h1:Okd A a) (h2:Okd A b) (h3:Okd A c):Okd A (.tup [a,b,c]):=C6 (by simp) (al1 h1 (al1 h2 (al1 h3 al0)))
def KD (h1:t.1.length<=1000) (h2:t.2.2.length<=1000):Okd A (btD t):=Cg (DG h1) (Bi _) (DG h2)
def My {k:K2} {f g:FE} {Y:Sd} {M M1 M2:Mem} {x y:EV} {r:Option (EV × Mem)} (hf:f Y M=some (x,M1)) (hg:g Y M1=some (y,M2)) (hk:k x y M2=r):fOp k f g Y M=r:=by
 erw[fOp];rw[hf];dsimp only;rw[hg];calc hk
def KY (hf:f Y M=some (x,M)) (h:zr M x=some xs):fB D8 (zK f zb) Y M=some (.fl xs,M):=by
 erw[fB,zK,zb];rw[hf];show (match zr M x with|some ys=>some (EV.fl ys,M)|none=>none)=_;rw[h]
def SN (hf:f Y M=some (.dat (.int k),M)) (hk:k.natAbs<2 ^ 64):fB HN (zK f zb) Y M=some (.dat (.str (Str.ofString (toString k))),M):=by
 erw[fB,zK,zb];rw[hf];show (if k.natAbs<2 ^ 64 then _ else none)=_;rw[AD hk]
def G1 (h:xs.length+ys.length<=90000):zQ (.dat (.tup xs)) (.dat (.tup ys)) M=some (.dat (.tup (xs++ys)),M):=zY (bD.mpr ⟨zh (),rfl,rfl⟩)
def FH (h:xs.length+ys.length<=90000):zQ (.dat (tI xs)) (.dat (tI ys)) M=some (.dat (tI (xs++ys)),M):=by
 have:=G1 (xs:=xs.map D.int) (ys:=ys.map D.int) (M:=M) (by rw[AG,AG];calc h);rw[<-Cv]at this;calc this
def NA (hf:f Y M=some (.dat (tI xs),M)) (hg:g Y M=some (.dat (.int (i:Nat)),M)) (hi:i<xs.length):fSl f AY (Af g) Y M=some (.dat (tI (xs.take i)),M):=by
 have:=slE hf (rfl:AY Y M=some (none,M)) (oS hg);rw[Pk () (by rw[AG];omega),Bc,<-List.map_take]at this;calc this
def MP (hf:f Y M=some (.dat (tI xs),M)) (hg:g Y M=some (.dat (.int ((i:Nat)+1)),M)) (hi:0<xs.length):fSl f (Af g) AY Y M=some (.dat (tI (xs.drop (i+1))),M):=by
 have:=slE hf (oS hg) (rfl:AY Y M=some (none,M));rw[OG () (by rw[AG];calc hi),show ((i:Nat)+1:Int).toNat=i+1 by omega,<-List.map_drop]at this;calc this
def Mb (hf:f Y M=some (.dat (tI xs),M)) (hi:0<xs.length):FU f Y M=some (.dat (tI xs.reverse),M):=by
 erw[FU];rw[hf];show (if 0<(xs.map D.int).length then some (EV.dat (.tup (xs.map D.int).reverse),M) else none)=_;rw[AD (by rw[AG];calc hi),<-List.map_reverse];rfl
section
variable {zA:Ya} {l:Nat}
def KC (h26:zA.length<=26) (h:Ac zA (btD t)):t.1.length<=26/\t.2.2.length<=26:=by
 let⟨p,b,φ,e,hS,_⟩:=h;let⟨e1,_,e3⟩:=FY e;rw[e1,e3,AG];calc ⟨JF hS h26,JF hS h26⟩
def T4 (m:IsM zA l) (h26:zA.length<=26) {t:Bt} (hB:IsB zA t) {M:Mem} {n k:Nat} (g:Gen M n k):Ok (Gq [.ref n,btD t] M) λd A=>∃ z t1 t2,d=.ref z/\Nw M A n k/\M.length<=z/\A[z]?=some (.lst [btD t1,btD t2])/\Ac zA (btD t1)/\Ac zA (btD t2):=by
 let⟨p,b,f⟩:=t;let⟨hP,hb,φ,ef,hφ,hφ0⟩:=hB;let ef:f=p.map φ:=ef;subst ef;let hb:b<=26:=hb;let hφ:Phs zA p b φ:=hφ;let hP:Part zA p:=hP;let b1:=hφ.b1;let hpl:=hP.len;let hnk:=g.lt;erw[Gq];rw[B3];erw[LG];show OkS (zN _ _ [some (.ref n),some (.tup [tI p,.int b,tI (p.map φ)]),none,none,none,none,none,none,none,none] M) _;rw[zI,M0];refine zm.mpr ⟨_,rfl,zJ.mpr ⟨_,rfl,?_⟩⟩;rw[zM];show OkS (zN _ _ [some (.ref n),some (.tup [tI p,.int b,tI (p.map φ)]),some (tI p),some (.int b),some (tI (p.map φ)),none,none,none,none,none] M) _;rw[zI,zc];refine DP g rfl rfl () () λby0 M1 _ _ nx1=>?_;rw[zJ,zM,zI,zc];let hcomp:=Hc (own:=[7]) (fi:=Bx (zD (toD (fC (.int 1))) (zD (toD (fOp zQ (zC 3) (fC (.int 1)))) zF))) (g:=gN 7) (tc:=tst (fOp kEq (fOp BW (zC 3) (zC 7)) (fC (.int 0)))) (te:=zC 7) (Y:=[some (.ref n),some (.tup [tI p,.int b,tI (p.map φ)]),some (tI p),some (.int b),some (tI (p.map φ)),some (.int by0),none,none,none,none]) (M:=M1) (List.range (b+1-1).toNat) (λ(j:Nat)=>D.int (1+j)) (λ(j:Nat)=>D.int (1+j)) (λ(j:Nat)=>decide (b % (1+(j:Int))=0)) (gd:=none) (Qw rfl (zE rfl rfl CU) () () () ()) trivial (by rw[Ep];omega) λj hj=>⟨_,rfl,BJ (zE (zE rfl rfl (Fy ())) rfl eqE),λ_=>rfl⟩;refine zH hcomp (zk ?_);rw[zM];let hls:((List.range (b+1-1).toNat).filter λ(j:Nat)=>decide (b % (1+(j:Int))=0))≠[]:=λe=>by
  have:(0:Nat)∈((List.range (b+1-1).toNat).filter λ(j:Nat)=>decide (b % (1+(j:Int))=0)):=List.mem_filter.mpr ⟨DR.mpr (),by simp[Int.emod_one]⟩;rw[e]at this;ext this
 let hlm:∀ j∈((List.range (b+1-1).toNat).filter λ(j:Nat)=>decide (b % (1+(j:Int))=0)),b % (1+(j:Int))=0:=λj hj=>B2 (List.mem_filter.mp hj).2;let hll:((List.range (b+1-1).toNat).filter λ(j:Nat)=>decide (b % (1+(j:Int))=0)).length<=26:=Ao (List.length_filter_le _ _) (by rw[Ep];omega);generalize ((List.range (b+1-1).toNat).filter λ(j:Nat)=>decide (b % (1+(j:Int))=0))=ls at hls hlm hll;let nw1:=nx1.nw.trans (nx1.gen.lst (ls.map λ(j:Nat)=>D.int (1+j)) (zw λd hd=>by let⟨j,_,rfl⟩:=AU.mp hd;erw[D.und];rfl));let e6:(M1++[MO.lst (ls.map λ(j:Nat)=>D.int (1+j))])[M1.length]?=some (.lst (ls.map λ(j:Nat)=>D.int (1+j))):=zZ _ _;let hz6:M.length<=M1.length:=nx1.nw.len;generalize M1++[MO.lst (ls.map λ(j:Nat)=>D.int (1+j))]=M2 at nw1 e6;generalize M1.length=z6 at e6 hz6;show OkS (zN _ _ [some (.ref n),some (.tup [tI p,.int b,tI (p.map φ)]),some (tI p),some (.int b),some (tI (p.map φ)),some (.int by0),some (.ref z6),none,none,none] M2) _;rw[zI,zc];let hl0:0<ls.length:=List.length_pos_iff.mpr hls;refine Av.mpr (zm.mpr ⟨_,rfl,DP nw1.gen rfl (FL (x:=.dat (.ref z6)) rfl (zj e6)) (by rw[AG];omega) (by rw[AG];omega) λi M3 i0 i1 nx3=>?_⟩);rw[AG]at i1;obtain ⟨j,hj⟩:∃ j,ls[i.toNat]?=some j:=⟨_,AM ()⟩;let e6':=nx3.nw.get e6 () ();let hat:atI (ls.map λ(j:Nat)=>D.int (1+j)) i=some (.int (1+(j:Int))):=by
  have:=HR (xs:=ls.map λ(j:Nat)=>D.int (1+j)) (j:=i.toNat) (v:=.int (1+(j:Int))) (by rw[AW,hj];rfl);rw[show ((i.toNat:Nat):Int)=i by omega]at this;exact this
 refine zH (D4 (zj e6') hat) ?_;rw[zJ,zM];let hdv:=hlm j (CM hj);show OkS (Aa _ [some (.ref n),some (.tup [tI p,.int b,tI (p.map φ)]),some (tI p),some (.int b),some (tI (p.map φ)),some (.int by0),some (.ref z6),none,some (.int (1+(j:Int))),none] M3) _;rw[Ey];let t1:=hφ.by by0;let t2:=hφ.less (c:=1+(j:Int)) () hdv;let c1:=Eh (own:=[9]) (fi:=AQ (zC 4)) (g:=gN 9) (te:=fOp BW (fOp zQ (zC 9) (zC 5)) (zC 3)) (Y:=[some (.ref n),some (.tup [tI p,.int b,tI (p.map φ)]),some (tI p),some (.int b),some (tI (p.map φ)),some (.int by0),some (.ref z6),none,some (.int (1+(j:Int))),none]) (M:=M3) (p.map φ) D.int (λy=> .int ((y+by0) % b)) (gd:=none) (Cw rfl) trivial (by rw[AG];omega) λy _=>⟨_,rfl,zE (zE (x:=.dat (.int y)) (y:=.dat (.int by0)) rfl rfl CU) (y:=.dat (.int b)) rfl (Fy ())⟩;let c2:=Eh (own:=[9]) (fi:=AQ (zC 4)) (g:=gN 9) (te:=fOp BW (zC 9) (zC 8)) (Y:=[some (.ref n),some (.tup [tI p,.int b,tI (p.map φ)]),some (tI p),some (.int b),some (tI (p.map φ)),some (.int by0),some (.ref z6),none,some (.int (1+(j:Int))),none]) (M:=M3) (p.map φ) D.int (λy=> .int (y % (1+(j:Int)))) (gd:=none) (Cw rfl) trivial (by rw[AG];omega) λy _=>⟨_,rfl,zE (x:=.dat (.int y)) (y:=.dat (.int (1+(j:Int)))) rfl rfl (Fy ())⟩;let d1:btD (p,b,p.map λx=>(φ x+by0) % b)=.tup [tI p,.int b,.tup ((p.map φ).map λy=> .int ((y+by0) % b))]:=by
  erw[btD,tI];rw[CS,CS];rfl
 let d2:btD (p,1+(j:Int),p.map λx=>φ x % (1+(j:Int)))=.tup [tI p,.int (1+(j:Int)),.tup ((p.map φ).map λy=> .int (y % (1+(j:Int))))]:=by
  erw[btD,tI];rw[CS,CS];rfl
 refine zH (Et (zL (d:=btD (p,b,p.map λx=>(φ x+by0) % b)) ((Ba (zL (d:=tI p) rfl (zL (d:=.int b) rfl (zU (Fb c1 De)))) (by simp)).trans (by rw[d1])) (zU (d:=btD (p,1+(j:Int),p.map λx=>φ x % (1+(j:Int)))) ((Ba (zL (d:=tI p) rfl (zL (d:=.int (1+(j:Int))) rfl (zU (Fb c2 De)))) (by simp)).trans (by rw[d2])))) (by simp)) (zk ?_);refine ⟨_,(p,b,p.map λx=>(φ x+by0) % b),(p,1+(j:Int),p.map λx=>φ x % (1+(j:Int))),rfl,(nw1.trans nx3.nw).trans (nx3.gen.lst _ ?_),(nw1.trans nx3.nw).len,zZ _ _,t1.bt m hP,t2.bt m hP⟩;calc zw (al1 (LU _) (al1 (LU _) al0))
end
def Q2 {f:FE} {Y:Sd} {M M1:Mem} {d:D} (h:f Y M=some (.dat d,M1)):toD f Y M=some (d,M1):=by erw[toD];rw[h]
section
variable {zA:Ya} {l:Nat}
def Bad (zA:Ya) (A:Mem) (d:D):Prop:=Okd A d /\ ¬ Ac zA d
def Bad.keep (k:Tk A A') (hl:A.length<=A'.length) (h:Bad zA A d):Bad zA A' d:=⟨h.1.keep k hl,h.2⟩
structure Wr (zA:Ya) (M A:Mem) (n k z:Nat) (W:List D):Prop where
 nw:Nw M A n k
 hz:M.length<=z
 e:A[z]?=some (.lst W)
 bad:∀ w∈W,Bad zA A w
variable {M A:Mem} {n k z:Nat} {W:List D}
def Wr.app (g:Gen M n k) (h:Wr zA M A n k z W) (hw:Bad zA A w):Wr zA M (A.set z (.lst (W++[w]))) n k z (W++[w]):=by
 let tk:=Tk.set h.e (ys:=W++[w]);let hl:A.length<=(A.set z (.lst (W++[w]))).length:=by rw[C1];exact AF _
 refine ⟨h.nw.setB g h.hz ?_,h.hz,Br (AK.mp h.e).1,λx hx=>?_⟩
 .exact zw λx hx=>(AR.mp hx).elim (λz=>(h.bad x z).1.2) λz=>by rw[Ae.mp z];exact hw.1.2
 .exact (AR.mp hx).elim (λz=>(h.bad x z).keep tk hl) λz=>by rw[Ae.mp z];calc hw.keep tk hl
def Wr.cat (g:Gen M n k) (h:Wr zA M A n k z W) (nw:Nw A A' n k) (hd:∀ d∈ds,Bad zA A' d):Wr zA M (A'++[.lst (W++ds)]) n k A'.length (W++ds):=by
 let tk:=RH h.nw.gen nw;let all:∀ x∈W++ds,Bad zA A' x:=λx hx=>(AR.mp hx).elim (λz=>(h.bad x z).keep tk nw.len) (hd x);let nw2:=nw.gen.lst (W++ds) (zw λx hx=>(all x hx).1.2);calc ⟨(h.nw.trans nw).trans nw2,(h.nw.trans nw).len,zZ _ _,λx hx=>(all x hx).keep (Tk.app _ _) (by simp)⟩
def Wr.first (g:Gen M n k) (nw:Nw M A n k) (hd:∀ d∈ds,Bad zA A d):Wr zA M (A++[.lst ds]) n k A.length ds :=
 ⟨nw.trans (nw.gen.lst ds (zw λx hx=>(hd x hx).1.2)),nw.len,zZ _ _,λx hx=>(hd x hx).keep (Tk.app _ _) (by simp)⟩
def bt3 (h:Ac zA (.tup [a,b,c])):∃ p β f,a=tI p/\b=.int β/\c=tI f:=by
 let⟨p,b',φ,e,_⟩:=h;injection e with e
 injection e with e1 e
 injection e with e2 e
 injection e with e3 e
 calc ⟨p,b',p.map φ,e1,e2,e3⟩
def Fx (h:Ac zA d):∃ ds,d=.tup ds/\ds.length=3:=by
 let⟨p,b',φ,e,_⟩:=h;calc ⟨_,e,rfl⟩
def Jd (g:Gen M n k) (hW:Wr zA M A n k z W) (hl:W.length<=100) (h8:∀ A,zC 8 Y A=some (.dat (.ref z),A)) (hf:f Y A=some (.dat w,A)) (hw:Bad zA A w) (q:∀ A',Wr zA M A' n k z (W++[w])->P .nx Y A'):OkS (BL (fM Bh (zC 8) (zD (toD f) zF)) Y A) P:=by
 rw[Em];calc Ea.mpr (zH (h8 A) ⟨⟨_,Dm hW.e⟩,zH (zU hf) ?_⟩);calc (HS hW.e (BC () (zh (n:=1000) ()))).mpr (q _ (hW.app g hw))
def Q1 (g:Gen M n k) (hW:Wr zA M A n k z W) (hl:W.length<=100) (hc:c Y A=some (kb,A)) (h8:∀ A,zC 8 Y A=some (.dat (.ref z),A)) (hw:kb=true -> ∃ w,f Y A=some (.dat w,A)/\Bad zA A w) (q:∀ A' W',W'.length<=W.length+1->Wr zA M A' n k z W'->OkS (r Y A') P):OkS (zN (sIf c (BL (fM Bh (zC 8) (zD (toD f) zF))) BP) r Y A) P:=by
 cases kb with
 |false=>calc Ef hc (q A W (CQ _) hW)
 |true=>
  let⟨w,hf,hb⟩:=hw rfl;refine Cm hc (Jd g hW hl h8 hf hb λA' h'=>?_);rw[zM];calc q A' _ (by rw[AV];calc AF _) h'
def cY (g:Gen M n k) (hW:Wr zA M A n k z W) (hl:W.length<=90) (hc:c Y A=some (kb,A)) (h8:∀ A,zC 8 Y A=some (.dat (.ref z),A)) (hw:kb=true -> ∃ w,∀ A,f Y A=some (.dat w,A)/\Bad zA A w) (hw2:kb=true -> ∃ w,∀ A,f2 Y A=some (.dat w,A)/\Bad zA A w) (q:∀ A' W',W'.length<=W.length+2->Wr zA M A' n k z W'->OkS (r Y A') P):OkS (zN (sIf c (zN (BL (fM Bh (zC 8) (zD (toD f) zF))) (BL (fM Bh (zC 8) (zD (toD f2) zF)))) BP) r Y A) P:=by
 cases kb with
 |false=>calc Ef hc (q A W (Dn _ _) hW)
 |true=>
  let⟨w,hf⟩:=hw rfl;let⟨w2,hf2⟩:=hw2 rfl;calc Cm hc ?_;rw[zI];refine Jd g hW () h8 (hf A).1 (hf A).2 λA' h'=>?_;rw[zM];refine Jd g h' (by rw[AV];simp;omega) h8 (hf2 A').1 (hf2 A').2 λA'' h''=>?_;rw[zM];calc q A'' _ (by rw[AV,AV];calc AF _) h''
def SA (hz:f.length<=1000):Ik [tI f] M=some (.tup (f.map λy=>if y<2 then .bl (decide (y=1)) else .int y),M):=by
 erw[Ik,K5];calc JW ?_;refine Fb (Eh f D.int (λy=>if y<2 then .bl (decide (y=1)) else .int y) (Cw rfl) trivial () λy _=>⟨_,rfl,?_⟩) De;let hc:tst (fOp kLt (zC 1) (fC (.int 2))) [some (tI f),some (.int y)] M=some (decide (y<2),M):=BJ (zE rfl rfl (zY (JR.mpr ⟨rfl,rfl⟩)));show vIf (tst (fOp kLt (zC 1) (fC (.int 2)))) (fOp kEq (zC 1) (fC (.int 1))) (zC 1) [some (tI f),some (.int y)] M=_;erw[vIf];rw[hc];by_cases h:y<2
 .rw[BB h,AD h];exact zE rfl rfl eqE
 .rw[Al h,AE h];rfl
def gZ (m:IsM zA l) (h26:zA.length<=26) {t:Bt} (hB:IsB zA t) {M:Mem} {n k:Nat} (g:Gen M n k):Ok (Gv [.ref n,mD zA,btD t] M) λd A=>∃ z W,d=.ref z/\W.length<=30/\Wr zA M A n k z W:=by
 let⟨p,b,f⟩:=t;let⟨hP,hb,φ,ef,hφ,hφ0⟩:=hB;let ef:f=p.map φ:=ef;let hb:b<=26:=hb;let hφ:Phs zA p b φ:=hφ;let hP:Part zA p:=hP;let hφ0:φ (p.headD 0)=0:=hφ0;let b1:=hφ.b1;let hpl:=hP.len;let hp0:=hP.n0;let hfl:f.length=p.length:=by rw[ef,AG]
 erw[Gv];rw[B3];erw[Ks];show OkS (zN _ _ [some (.ref n),some (mD zA),some (.tup [tI p,.int b,tI f]),none,none,none,none,none,none] M) _;rw[zI,M0];calc zm.mpr ⟨_,rfl,zJ.mpr ⟨_,rfl,?_⟩⟩;rw[zM];show OkS (zN _ _ [some (.ref n),some (mD zA),some (.tup [tI p,.int b,tI f]),some (tI p),some (.int b),some (tI f),none,none,none] M) _;rw[zI,zc];refine DP g rfl (GW (xs:=p) rfl) () () λi0 M1 i00 i01 nx1=>?_;obtain ⟨i,rfl⟩:∃ i:Nat,i0=(i:Nat):=⟨i0.toNat,()⟩;let hi:i<p.length:=()
 rw[zJ,zM];show OkS (zN _ _ [some (.ref n),some (mD zA),some (.tup [tI p,.int b,tI f]),some (tI p),some (.int b),some (tI f),some (.int (i:Nat)),none,none] M1) _;let sl5:∀ (Y:Sd) (A:Mem),Y[5]?=some (some (tI f))->Y[6]?=some (some (.int (i:Nat)))->fSl (zC 5) AY (Af (zC 6)) Y A=some (.dat (tI (f.take i)),A)/\fSl (zC 5) (Af (fOp zQ (zC 6) (fC (.int 1)))) AY Y A=some (.dat (tI (f.drop (i+1))),A):=λY A s5 s6=>by
  let v5:zC 5 Y A=some (.dat (tI f),A):=by erw[zC];rw[s5]
  let v6:zC 6 Y A=some (.dat (.int (i:Nat)),A):=by erw[zC];rw[s6]
  exact ⟨NA v5 v6 (),MP v5 (zE v6 rfl CU) ()⟩
 let sl3:∀ (Y:Sd) (A:Mem),Y[3]?=some (some (tI p))->Y[6]?=some (some (.int (i:Nat)))->fSl (zC 3) AY (Af (zC 6)) Y A=some (.dat (tI (p.take i)),A)/\fSl (zC 3) (Af (fOp zQ (zC 6) (fC (.int 1)))) AY Y A=some (.dat (tI (p.drop (i+1))),A):=λY A s5 s6=>by
  let v5:zC 3 Y A=some (.dat (tI p),A):=by erw[zC];rw[s5]
  let v6:zC 6 Y A=some (.dat (.int (i:Nat)),A):=by erw[zC];rw[s6]
  exact ⟨NA v5 v6 (),MP v5 (zE v6 rfl CU) ()⟩
 let lt1:(f.take i).length<=26:=by rw[Bg];omega
 let lt2:(f.drop (i+1)).length<=26:=by rw[Dh];omega
 let lt3:(p.take i).length<=26:=by rw[Bg];omega
 let lt4:(p.drop (i+1)).length<=26:=by rw[Dh];omega
 let hat:atI (f.map D.int) (i:Nat)=some (.int (f.getD i 0)):=by
  have:=Mv (r:=f) (g:=(i:Nat)) () ();rw[Bc]at this;exact this
 calc Eu (d:=tI (f.take i++[(f.getD i 0+1) % (b+1)]++f.drop (i+1))) (zE (zE (sl5 _ _ rfl rfl).1 (y:=.dat (tI [(f.getD i 0+1) % (b+1)])) (Ej (zE (zE (zE (x:=.dat (tI f)) (y:=.dat (.int (i:Nat))) rfl rfl (D4 CT hat)) rfl CU) (zE (x:=.dat (.int b)) rfl rfl CU) (Fy ()))) (FH (by simp;omega))) (sl5 _ _ rfl rfl).2 (FH (by simp;omega))) ?_;let hol:(f.take i++[(f.getD i 0+1) % (b+1)]++f.drop (i+1)).length<=53:=by simp;omega
 let hno:=b9 m hP hφ hi;rw[<-ef]at hno;generalize f.take i++[(f.getD i 0+1) % (b+1)]++f.drop (i+1)=oth at hol hno;show OkS (zN _ _ [some (.ref n),some (mD zA),some (.tup [tI p,.int b,tI f]),some (tI p),some (.int b),some (tI f),some (.int (i:Nat)),some (tI oth),none] M1) _;let okp:∀ {A:Mem},Okd A (tI p):=DG ();let okf:∀ {A:Mem},Okd A (tI f):=DG ();let nmany:∀ c,c≠b -> ¬ Ac zA (btD (p,c,f)):=λc hc=>by rw[ef];exact dF m hP hφ hc
 let nomany:∀ {A:Mem} c,c≠b->Bad zA A (.tup [tI p,.int c,tI f]):=λc hc=>⟨Cg okp (Bi _) okf,nmany c hc⟩;let d1:Aq (zD (toD (zi (zD (toD (zC 3)) (zD (toD (zC 4)) (zD (toD (zC 7)) zF))))) (zD (toD (zi (zD (toD (zC 3)) (zD (toD (fOp zQ (zC 4) (fC (.int 1)))) (zD (toD (zC 5)) zF))))) (zD (toD (zi (zD (toD (zC 3)) (zD (toD (fOp GO (fC (.int 10)) (fC (.int 30)))) (zD (toD (zC 5)) zF))))) (zD (toD (zi (zD (toD (zC 3)) (zD (toD (fC (.int 0))) (zD (toD (zC 5)) zF))))) zF)))) [some (.ref n),some (mD zA),some (.tup [tI p,.int b,tI f]),some (tI p),some (.int b),some (tI f),some (.int (i:Nat)),some (tI oth),none] M1=some (.fl [.tup [tI p,.int b,tI oth],.tup [tI p,.int (b+1),tI f],.tup [tI p,.int (10 ^ 30),tI f],.tup [tI p,.int 0,tI f]],M1) :=
  Et (zL (Ba (zL (d:=tI p) rfl (zL (d:=.int b) rfl (zU (d:=tI oth) rfl))) (by simp)) (zL (Ba (zL (d:=tI p) rfl (zL (d:=.int (b+1)) (zE (x:=.dat (.int b)) rfl rfl CU) (zU (d:=tI f) rfl))) (by simp)) (zL (Ba (zL (d:=tI p) rfl (zL (d:=.int (10 ^ 30)) (zE (x:=.dat (.int 10)) (y:=.dat (.int 30)) rfl rfl (zY (Kh.mpr ⟨(),rfl,rfl⟩))) (zU (d:=tI f) rfl))) (by simp)) (zU (Ba (zL (d:=tI p) rfl (zL (d:=.int 0) rfl (zU (d:=tI f) rfl))) (by simp)))))) (by simp)
 rw[zI,zc];calc zH d1 (zk ?_);let W1:=Wr.first (zA:=zA) g nx1.nw (ds:=[.tup [tI p,.int b,tI oth],.tup [tI p,.int (b+1),tI f],.tup [tI p,.int (10 ^ 30),tI f],.tup [tI p,.int 0,tI f]]) (al1 ⟨Cg okp (Bi _) (DG ()),hno⟩ (al1 (nomany _ ()) (al1 (nomany _ ()) (al1 (nomany _ ()) al0))));let wl1:[D.tup [tI p,.int b,tI oth],.tup [tI p,.int (b+1),tI f],.tup [tI p,.int (10 ^ 30),tI f],.tup [tI p,.int 0,tI f]].length<=4:=by simp
 generalize [D.tup [tI p,.int b,tI oth],.tup [tI p,.int (b+1),tI f],.tup [tI p,.int (10 ^ 30),tI f],.tup [tI p,.int 0,tI f]]=L1 at W1 wl1;rw[zM];generalize M1++[MO.lst L1]=A1 at W1;generalize M1.length=z1 at W1;show OkS (zN _ _ [some (.ref n),some (mD zA),some (.tup [tI p,.int b,tI f]),some (tI p),some (.int b),some (tI f),some (.int (i:Nat)),some (tI oth),some (.ref z1)] A1) _;rw[zI,zc];let nwa:Nw A1 (A1++[MO.lst (p.map D.int)]) n k:=W1.nw.gen.lst _ (Dr _ _);let nwb:Nw (A1++[MO.lst (p.map D.int)]) ((A1++[MO.lst (p.map D.int)])++[MO.lst [tI p,.int b,tI f]]) n k:=nwa.gen.lst _ (zw (al1 okp.2 (al1 (Bi b).2 (al1 okf.2 al0))));let ea:((A1++[MO.lst (p.map D.int)])++[MO.lst [tI p,.int b,tI f]])[A1.length]?=some (.lst (p.map D.int)):=D1 (zZ _ _) _;let eb:((A1++[MO.lst (p.map D.int)])++[MO.lst [tI p,.int b,tI f]])[(A1++[MO.lst (p.map D.int)]).length]?=some (.lst [tI p,.int b,tI f]):=zZ _ _;let d2:Aq (zD (toD (zi (zD (toD (zC 3)) (zD (toD (fB HN (zK (zC 4) zb))) (zD (toD (zC 5)) zF))))) (zD (toD (zi (zD (toD (fB D8 (zK (zC 3) zb))) (zD (toD (zC 4)) (zD (toD (zC 5)) zF))))) (zD (toD (Aq (zD (toD (zC 3)) (zD (toD (zC 4)) (zD (toD (zC 5)) zF))))) zF))) [some (.ref n),some (mD zA),some (.tup [tI p,.int b,tI f]),some (tI p),some (.int b),some (tI f),some (.int (i:Nat)),some (tI oth),some (.ref z1)] A1=some (.fl [.tup [tI p,.str (Str.ofString (toString b)),tI f],.tup [.ref A1.length,.int b,tI f],.ref (A1++[MO.lst (p.map D.int)]).length],(A1++[MO.lst (p.map D.int)])++[MO.lst [tI p,.int b,tI f]]) :=
  Et (aC' (Hr (Ba (zL (d:=tI p) rfl (zL (SN (k:=b) rfl ()) (zU (d:=tI f) rfl))) (by simp))) (aC' (Q2 (Ba (aC' (Gp (KY (x:=.dat (tI p)) rfl CT)) (zL (d:=.int b) rfl (zU (d:=tI f) rfl))) (by simp))) (aC' (Gp (Et (zL (d:=tI p) rfl (zL (d:=.int b) rfl (zU (d:=tI f) rfl))) (by simp))) rfl))) (by simp)
 calc zH (My (x:=.dat (.ref z1)) rfl d2 (Hl (mlR ((nwa.trans nwb).get W1.e (by have:=g.lt;have:=W1.hz;omega) (by have:=g.lt;have:=W1.hz;omega))) rfl (by simp;omega))) (zk ?_);let W2:=W1.cat g (nwa.trans nwb) (ds:=[.tup [tI p,.str (Str.ofString (toString b)),tI f],.tup [.ref A1.length,.int b,tI f],.ref (A1++[MO.lst (p.map D.int)]).length]) (al1 ⟨Cg okp (QY _) okf,λh=>by let⟨_,_,_,_,e,_⟩:=bt3 h;ext e⟩ (al1 ⟨Cg (Jp ea) (Bi _) okf,λh=>by let⟨_,_,_,e,_⟩:=bt3 h;ext e⟩ (al1 ⟨Jp eb,λh=>by let⟨_,e,_⟩:=Fx h;ext e⟩ al0)));let wl2:(L1++[D.tup [tI p,.str (Str.ofString (toString b)),tI f],.tup [.ref A1.length,.int b,tI f],.ref (A1++[MO.lst (p.map D.int)]).length]).length<=7:=by rw[AV];simp;omega
 generalize L1++[D.tup [tI p,.str (Str.ofString (toString b)),tI f],.tup [.ref A1.length,.int b,tI f],.ref (A1++[MO.lst (p.map D.int)]).length]=L2 at W2 wl2;rw[zM];generalize ((A1++[MO.lst (p.map D.int)])++[MO.lst [tI p,.int b,tI f]])++[MO.lst L2]=A2 at W2;generalize ((A1++[MO.lst (p.map D.int)])++[MO.lst [tI p,.int b,tI f]]).length=z2 at W2;clear nwa nwb ea eb d2 d1 W1 wl1;show OkS (zN _ _ [some (.ref n),some (mD zA),some (.tup [tI p,.int b,tI f]),some (tI p),some (.int b),some (tI f),some (.int (i:Nat)),some (tI oth),some (.ref z2)] A2) _;let ng:n<M.length/\k<M.length:=g.lt;rw[zI,zc];let nwc:Nw A2 (A2++[MO.lst (f.map D.int)]) n k:=W2.nw.gen.lst _ (Dr _ _);let ec:(A2++[MO.lst (f.map D.int)])[A2.length]?=some (.lst (f.map D.int)):=zZ _ _;let d3:Aq (zD (toD (zi (zD (toD (zC 3)) (zD (toD (zC 4)) (zD (toD (fB D8 (zK (zC 5) zb))) zF))))) (zD (toD (zi (zD (toD (zC 3)) (zD (toD (zC 4)) (zD (toD (fOp zQ (zC 5) (zi (zD (toD (fC (.int 0))) zF)))) zF))))) (zD (toD (zi (zD (toD (zC 3)) (zD (toD (zC 4)) zF)))) (zD (toD (zi (zD (toD (zC 3)) (zD (toD (zC 4)) (zD (toD (zC 5)) (zD (toD (fC (.int 0))) zF)))))) zF)))) [some (.ref n),some (mD zA),some (.tup [tI p,.int b,tI f]),some (tI p),some (.int b),some (tI f),some (.int (i:Nat)),some (tI oth),some (.ref z2)] A2=some (.fl [.tup [tI p,.int b,.ref A2.length],.tup [tI p,.int b,tI (f++[0])],.tup [tI p,.int b],.tup [tI p,.int b,tI f,.int 0]],A2++[MO.lst (f.map D.int)]) :=
  Et (aC' (Q2 (Ba (aC' (Hr (d:=tI p) rfl) (aC' (Hr (d:=.int b) rfl) (aC' (Gp (KY (x:=.dat (tI f)) rfl CT)) rfl))) (by simp))) (zL (Ba (zL (d:=tI p) rfl (zL (d:=.int b) rfl (zU (zE (x:=.dat (tI f)) (y:=.dat (tI [0])) rfl rfl (FH (by simp;omega)))))) (by simp)) (zL (Ba (zL (d:=tI p) rfl (zU (d:=.int b) rfl)) (by simp)) (zU (Ba (zL (d:=tI p) rfl (zL (d:=.int b) rfl (zL (d:=tI f) rfl (zU (d:=.int 0) rfl)))) (by simp)))))) (by simp)
 calc zH (My (x:=.dat (.ref z2)) rfl d3 (Hl (mlR (nwc.get W2.e (by have:=W2.hz;omega) (by have:=W2.hz;omega))) rfl (by simp;omega))) (zk ?_);let W3:=W2.cat g nwc (ds:=[.tup [tI p,.int b,.ref A2.length],.tup [tI p,.int b,tI (f++[0])],.tup [tI p,.int b],.tup [tI p,.int b,tI f,.int 0]]) (al1 ⟨Cg okp (Bi _) (Jp ec),λh=>by let⟨_,_,_,_,_,e⟩:=bt3 h;ext e⟩ (al1 ⟨Cg okp (Bi _) (DG (by simp;omega)),Li (by simp;omega)⟩ (al1 ⟨Vt okp (Bi _),λh=>by let⟨_,e,hl⟩:=Fx h;ext e;ext hl⟩ (al1 ⟨C6 (by simp) (al1 okp (al1 (Bi _) (al1 okf (al1 (Bi _) al0)))),λh=>by let⟨_,e,hl⟩:=Fx h;ext e;ext hl⟩ al0))));let wl3:(L2++[D.tup [tI p,.int b,.ref A2.length],.tup [tI p,.int b,tI (f++[0])],.tup [tI p,.int b],.tup [tI p,.int b,tI f,.int 0]]).length<=11:=by rw[AV];simp;omega
 generalize L2++[D.tup [tI p,.int b,.ref A2.length],.tup [tI p,.int b,tI (f++[0])],.tup [tI p,.int b],.tup [tI p,.int b,tI f,.int 0]]=L3 at W3 wl3;rw[zM];generalize (A2++[MO.lst (f.map D.int)])++[MO.lst L3]=A3 at W3;generalize (A2++[MO.lst (f.map D.int)]).length=z3 at W3;clear nwc ec d3 W2 wl2;show OkS (zN _ _ [some (.ref n),some (mD zA),some (.tup [tI p,.int b,tI f]),some (tI p),some (.int b),some (tI f),some (.int (i:Nat)),some (tI oth),some (.ref z3)] A3) _;rw[zI,zc];let d4:Aq (zD (toD (zi (zD (toD (fOp zQ (zC 3) (zi (zD (toD (fB AZ (zK (zC 1) zb))) zF)))) (zD (toD (zC 4)) (zD (toD (fOp zQ (zC 5) (zi (zD (toD (fC (.int 0))) zF)))) zF))))) (zD (toD (zi (zD (toD (fOp zQ (FU (zC 3)) (zi (zD (toD (IU (fC (.int 1)))) zF)))) (zD (toD (zC 4)) (zD (toD (zC 5)) zF))))) (zD (toD (fC .non)) (zD (toD (fC (.int 0))) zF)))) [some (.ref n),some (mD zA),some (.tup [tI p,.int b,tI f]),some (tI p),some (.int b),some (tI f),some (.int (i:Nat)),some (tI oth),some (.ref z3)] A3=some (.fl [.tup [tI (p++[(zA.length:Int)]),.int b,tI (f++[0])],.tup [tI (p.reverse++[-1]),.int b,tI f],.non,.int 0],A3) :=
  Et (zL (Ba (zL (zE (x:=.dat (tI p)) (y:=.dat (tI [(zA.length:Int)])) rfl (Ej (EL rfl)) (FH (by simp;omega))) (zL (d:=.int b) rfl (zU (zE (x:=.dat (tI f)) (y:=.dat (tI [0])) rfl rfl (FH (by simp;omega)))))) (by simp)) (zL (Ba (zL (zE (y:=.dat (tI [-1])) (Mb (xs:=p) rfl hp0) rfl (FH (by simp;omega))) (zL (d:=.int b) rfl (zU (d:=tI f) rfl))) (by simp)) (zL (d:=.non) rfl (zU (d:=.int 0) rfl)))) (by simp)
 calc zH (My (x:=.dat (.ref z3)) rfl d4 (Hl (mlR W3.e) rfl (by simp;omega))) (zk ?_);let W4:=W3.cat g (.refl W3.nw.gen) (ds:=[.tup [tI (p++[(zA.length:Int)]),.int b,tI (f++[0])],.tup [tI (p.reverse++[-1]),.int b,tI f],.non,.int 0]) (al1 ⟨Cg (DG (by simp;omega)) (Bi _) (DG (by simp;omega)),LI λh=>by have:=h.mem (zA.length:Int) (by simp);omega⟩ (al1 ⟨Cg (DG (by simp;omega)) (Bi _) okf,LI λh=>by have:=h.mem (-1) (by simp);omega⟩ (al1 ⟨Lh,λh=>by let⟨_,e,_⟩:=Fx h;ext e⟩ (al1 ⟨Bi _,λh=>by let⟨_,e,_⟩:=Fx h;ext e⟩ al0))));let wl4:(L3++[D.tup [tI (p++[(zA.length:Int)]),.int b,tI (f++[0])],.tup [tI (p.reverse++[-1]),.int b,tI f],.non,.int 0]).length<=15:=by rw[AV];simp;omega
 generalize L3++[D.tup [tI (p++[(zA.length:Int)]),.int b,tI (f++[0])],.tup [tI (p.reverse++[-1]),.int b,tI f],.non,.int 0]=L4 at W4 wl4;rw[zM];generalize A3++[MO.lst L4]=A4 at W4;generalize A3.length=z4 at W4;clear d4 W3 wl3;show OkS (zN _ _ [some (.ref n),some (mD zA),some (.tup [tI p,.int b,tI f]),some (tI p),some (.int b),some (tI f),some (.int (i:Nat)),some (tI oth),some (.ref z4)] A4) _;refine cY g W4 () (BJ (zE (GW (xs:=p) rfl) rfl gtE)) (λ_=>rfl) (λhk=>⟨.tup [tI (p.take i++p.drop (i+1)),.int b,tI (f.take i++f.drop (i+1))],λA=>⟨Ba (zL (zE (sl3 _ _ rfl rfl).1 (sl3 _ _ rfl rfl).2 (FH ())) (zL rfl (zU (zE (sl5 _ _ rfl rfl).1 (sl5 _ _ rfl rfl).2 (FH ()))))) (by simp),Cg (DG (by rw[AV];omega)) (Bi _) (DG (by rw[AV];omega)),ZI hP (by have:=B2 hk;omega) hi⟩⟩) (λhk=>⟨.tup [tI p.reverse,.int b,tI f.reverse],λA=>⟨Ba (zL (Mb rfl hp0) (zL rfl (zU (Mb rfl ())))) (by simp),Cg (DG (by simp;omega)) (Bi _) (DG (by simp;omega)),UX hP (by have:=B2 hk;omega)⟩⟩) λA5 L5 l5 W5=>?_;refine Q1 g W5 () (BJ (zE rfl rfl eqE)) (λ_=>rfl) (λ_=>⟨.tup [tI p,.bl true,tI f],Ba (zL rfl (zL rfl (zU rfl))) (by simp),Cg okp (Jm _) okf,λh=>by let⟨_,_,_,_,e,_⟩:=bt3 h;ext e⟩) λA6 L6 l6 W6=>?_;obtain ⟨p0,r,rfl⟩:∃ p0 r,p=p0::r:=by
  cases p with
  |nil=>simp at hp0
  |cons a r=>exact ⟨a,r,rfl⟩
 let hix0:∀ A,fOp kIx (zC 3) (fC (.int 0)) [some (.ref n),some (mD zA),some (.tup [tI (p0::r),.int b,tI f]),some (tI (p0::r)),some (.int b),some (tI f),some (.int (i:Nat)),some (tI oth),some (.ref z4)] A=some (.dat (.int p0),A):=λA=>zE rfl rfl (D4 CT at0);let hdr:∀ A,fSl (zC 3) (Af (fC (.int 1))) AY [some (.ref n),some (mD zA),some (.tup [tI (p0::r),.int b,tI f]),some (tI (p0::r)),some (.int b),some (tI f),some (.int (i:Nat)),some (tI oth),some (.ref z4)] A=some (.dat (tI r),A):=λA=>MP (xs:=p0::r) (i:=0) rfl rfl (by simp);refine Q1 g W6 () (BJ (zE (hix0 _) (y:=.dat (.int 2)) rfl (zY (JR.mpr ⟨rfl,rfl⟩)))) (λ_=>rfl) (λ_=>⟨.tup [.tup (.bl (decide (p0=1))::r.map D.int),.int b,tI f],Ba (zL (zE (Ej (zE (hix0 _) (y:=.dat (.int 1)) rfl eqE)) (hdr _) (G1 (by simp;simp at hpl;omega))) (zL (d:=.int b) rfl (zU (d:=tI f) rfl))) (by simp),Cg (C6 (by simp;simp at hpl;omega) (al1 (Jm _) λd hd=>by let⟨x,_,rfl⟩:=AU.mp hd;exact Bi x)) (Bi _) okf,λh=>by let⟨_,_,_,e,_⟩:=bt3 h;exact OK e⟩) λA7 L7 l7 W7=>?_;rw[zI];let etr:(f.map λy=>if y<2 then D.bl (decide (y=1)) else .int y)=.bl false::((r.map φ).map λy=>if y<2 then D.bl (decide (y=1)) else .int y):=by
  rw[ef,Ag,Ag,show φ p0=0 from hφ0];rfl
 let etc:=SA (f:=f) () (M:=A7);rw[etr]at etc;refine Jd g W7 () (λ_=>rfl) (w:=.tup [tI (p0::r),.int b,.tup (.bl false::((r.map φ).map λy=>if y<2 then D.bl (decide (y=1)) else .int y))]) (Ba (zL (d:=tI (p0::r)) rfl (zL (d:=.int b) rfl (zU (BZ (zU (d:=tI f) rfl) etc)))) (by simp)) ⟨Cg okp (Bi _) (C6 (by simp;simp at hpl;omega) (al1 (Jm _) λd hd=>by
  let⟨y,_,rfl⟩:=AU.mp hd;split
  .exact Jm _
  .exact Bi _)),λh=>by let⟨_,_,_,_,_,e⟩:=bt3 h;calc OK e⟩ λA8 W8=>?_
 rw[zM];calc Bp (d:=.ref z4) rfl ⟨z4,_,rfl,by rw[AV];simp;omega,W8⟩
end
def Lg:FS:=(zN (AN 1 (ze Hj (zD (toD (zC 0)) zF)))
  (zN (B9 (Bx (zD (toD (fOp zQ (fC (.int 2)) (fB AZ (zK (fSl (zC 0) AY (Af (fC (.int 8)))) zb)))) zF)) (gN 2) (zN (AN 3 (ze IE (zD (toD (zC 1)) (zD (toD (fC (.int 26))) (zD (toD (fC (.int 6))) zF)))))
  (zN (AN 4 (ze Iq (zD (toD (zC 3)) zF)))
  (zN (AN 5 (Aq (zD (toD (zi zF)) (zD (toD (zC 4)) (zD (toD (fB CC (zK (Ar [6] (AQ (zC 4)) (gN 6) (tst (fOp kEq (ze zg (zD (toD (zC 1)) (zD (toD (fC (.int 2))) zF))) (fC (.int 0)))) (zC 6)) zb))) (zD (toD (Iv (zC 4) (Af (IU (fC (.int 1)))))) zF))))))
  (zN (AN 7 (HH (fB AZ (zK (zC 3) zb))))
  (zN (BL (fM Bh (zC 5) (zD (toD (zi (zD (toD (zi (zD (toD (zC 7)) (zD (toD (fC (.int 1))) (zD (toD (fOp Ez (zi (zD (toD (fC (.int 0))) zF)) (fB AZ (zK (zC 3) zb)))) zF))))) zF))) zF)))
  (zN (B9 (AQ (zC 4)) (gN 6) (BL (fM GX (zC 5) (zD (toD (Ar [8] (AQ (ze Gq (zD (toD (zC 1)) (zD (toD (zC 6)) zF)))) (gN 8) Ab (zi (zD (toD (zC 8)) zF)))) zF))))
  (zN (sIf (CF (tst (fB Dw (zK (Ar [9] (AQ (zC 5)) (gN 9) Ab (fOp (kIs false) (ze Eg (zD (toD (zC 3)) (zD (toD (zC 9)) zF))) (fC (.bl true)))) zb)))) (Aa (fC (.bl false))) BP)
  (zN (AN 10 (Aq (zD (toD (fB D8 (zK (zC 4) zb))) (zD (toD (fOp zQ (zC 4) (fSl (zC 4) AY (Af (fC (.int 1)))))) (zD (toD (fOp zQ (zC 4) (zi (zD (toD (zi (zD (toD (zC 7)) (zD (toD (fC (.int 1))) (zD (toD (fOp Ez (zi (zD (toD (fC (.int 0))) zF)) (fB AZ (zK (zC 3) zb)))) zF))))) zF)))) (zD (toD (fC .non)) (zD (toD (fC (.int 0))) (zD (toD (fC (.str "beats"))) (zD (toD (zi (zD (toD (fC .non)) zF))) (zD (toD (zi (zD (toD (zi zF)) zF))) zF))))))))))
  (zN (B9 (LQ (zC 4)) (HJ 11 6) (BL (fM GX (zC 10) (zD (toD (Ar [8] (AQ (ze Gv (zD (toD (zC 1)) (zD (toD (zC 3)) (zD (toD (zC 6)) zF))))) (gN 8) Ab (fOp zQ (fOp zQ (fSl (zC 4) AY (Af (zC 11))) (zi (zD (toD (zC 8)) zF))) (fSl (zC 4) (Af (fOp zQ (zC 11) (fC (.int 1)))) AY)))) zF))))
  (sIf (CF (tst (fB Dw (zK (Ar [9] (AQ (zC 10)) (gN 9) Ab (fOp (kIs false) (ze Eg (zD (toD (zC 3)) (zD (toD (zC 9)) zF))) (fC (.bl false)))) zb)))) (Aa (fC (.bl false))) BP)))))))))))
  (Aa (fC (.bl true)))))
def E3:FF:=BH 12 Lg
def VW (hf:f Y M=some (.dat (.tup xs),M)) (hs:fs Y M=some (some (-1),M)):Iv f fs Y M=some (.dat (.tup xs.reverse),M):=by
 erw[Iv];rw[hf];dsimp only;rw[hs];rfl
def Ti (hs:∀ t A,∃ σ1,gN 6 (btD t) Y=some σ1/\zC 1 σ1 A=some (.dat (.ref n),A)/\zC 6 σ1 A=some (.dat (btD t),A)) (g:Gen A n k):Ok (BV (gN 6) (tst (fOp kEq (ze zg (zD (toD (zC 1)) (zD (toD (fC (.int 2))) zF))) (fC (.int 0)))) (zC 6) Y all none (T.map btD) A) λys A'=>∃ S:List Bt,S.Sublist T/\ys=S.map btD/\Nx A A' n k:=by
 refine Ok.mono (Gu (I:=λr acc A'=>∃ T1 T2 S:List Bt,T=T1++T2/\r=T2.map btD/\S.Sublist T1/\acc=S.map btD/\Nx A A' n k) ?_ ?_ _ [] _ ⟨[],T,[],rfl,rfl,.slnil,rfl,.refl g⟩) λys A' q=>by simpa using q
 .rintro x r acc A' ⟨T1,T2,S,rfl,hr,hS,rfl,nx⟩;cases T2 with
  |nil=>ext hr
  |cons t T2=>
   rw[Ag]at hr;let⟨rfl,rfl⟩:=List.cons.inj hr;let⟨σ1,e1,_,_⟩:=hs t A';refine ⟨C5,σ1,e1,Jz.mpr (Av.mpr (DP nx.gen ?_ rfl () () λi A2 i0 i1 nx2=>BA.mpr (LD.mpr (Fl.mpr ?_))))⟩
   .obtain ⟨σ2,e2,q,_⟩:=hs t A';rw[e1]at e2;ext e2;exact q
   by_cases hi:i=0
   .rw[AD (~~~hi)];let⟨σ2,e2,_,q⟩:=hs t A2;rw[e1]at e2;ext e2;calc zH q ?_;rw[zJ];exact ⟨T1++[t],T2,S++[t],by simp,rfl,hS.append (.refl _),by simp,nx.trans nx2⟩
   .rw[AE (~~~hi)];exact ⟨T1++[t],T2,S,by simp,rfl,hS.trans (List.sublist_append_left _ _),rfl,nx.trans nx2⟩
 .rintro acc A' ⟨T1,T2,S,rfl,hr,hS,rfl,nx⟩;cases T2 with
  |nil=>calc ⟨C5,S,by rw[DO];calc hS,rfl,nx⟩
  |cons t T2=>ext hr
section
variable {zA:Ya} {l:Nat}
def Gd (zA:Ya) (r:D):Prop:=(∀ A,Okd A r)/\Ib r<=100/\Shw zA r
def Bs (zA:Ya) (A:Mem) (r:D):Prop:=Okd A r/\Ib r<=100 /\ ¬ Shw zA r
def Bs.keep (k:Tk A A') (hl:A.length<=A'.length) (h:Bs zA A d):Bs zA A' d:=⟨h.1.keep k hl,h.2⟩
def Jl (m:IsM zA l) (h26:zA.length<=26) {T:List Bt} (hz:T.length<=26) (h:∀ t∈T,IsB zA t) (nd:(T.map (·.1)).Nodup):Gd zA (.tup (T.map btD)):=by
 refine ⟨λA=>C6 (by rw[AG];omega) λd hd=>?_,by show (T.map btD).length<=100;rw[AG];omega,TX m h nd⟩;let⟨t,ht,rfl⟩:=AU.mp hd;have:=KC h26 ((h t ht).bt m);calc KD () ()
def Ft (h26:zA.length<=26) (h:Ac zA (btD t)):Gd zA (.tup [btD t]):=by
 have:=KC h26 h;calc ⟨λA=>C6 (by simp) (al1 (KD () ()) al0),by show 1<=100;decide,Zg h⟩
def QX (m:IsM zA l) (h26:zA.length<=26) (hl:l<=6) (wf:∀ (j:Nat) u,A[j]?=some u->MO.und A.length u=true) (e:A[z]?=some (.lst Rt)) (hz:Rt.length<=1000) (b:Bool) (hr:∀ r∈Rt,Vd A r/\Ib r<=100/\DD (Shw zA r)=b) (hv:zC v Y A=some (.dat (.ref z),A)) (h3:∀ r,∃ σ1,gN 9 r (Cd [9] Y)=some σ1/\zC 3 σ1 A=some (.dat (mD zA),A)/\zC 9 σ1 A=some (.dat r,A)):fB Dw (zK (Ar [9] (AQ (zC v)) (gN 9) Ab (fOp (kIs false) (ze Eg (zD (toD (zC 3)) (zD (toD (zC 9)) zF))) (fC (.bl b)))) zb) Y A=some (.dat (.bl true),A):=by
 have:=Gj ((Eh (te:=fOp (kIs false) (ze Eg (zD (toD (zC 3)) (zD (toD (zC 9)) zF))) (fC (.bl b))) Rt id (λ_=> .bl true) (gd:=HD (.dat (.ref z)) Rt) (by rw[List.map_id];exact Fc hv (zj e)) (Or.inl e) () λr hm=>by
  let⟨σ1,q1,q2,q3⟩:=h3 r;let⟨v1,v2,v3⟩:=hr r hm;let es:=dE m h26 hl wf v1 v2;rw[v3]at es;exact ⟨σ1,q1,zE (BZ (zL q2 (zU q3)) es) rfl (by cases b <;> rfl)⟩).trans (by rw[CS];rfl))
 rw[JA]at this;rw[show (Rt.all λ_=>true)=true from Ap.mpr λ_ _=>rfl]at this;calc this
def YG (ns:Ye) (h:ns.length<=63):∃ M',E3 [.ref 0] [.fro (ns.map D.int)]=some (.bl true,M'):=by
 suffices hh:Ok (E3 [.ref 0] [.fro (ns.map D.int)]) λd _=>d=.bl true by
  let⟨d,M',e,rfl⟩:=hh;exact ⟨M',e⟩
 erw[E3];rw[B3];erw[Lg];show OkS (zN _ _ [some (.ref 0),none,none,none,none,none,none,none,none,none,none,none] _) _;rw[zI,zc];calc IC.mpr (zH (zU (d:=.ref 0) rfl) (Ok.mono (Ri h) ?_));rintro d M1 ⟨rfl,g1,e0,hl3⟩;rw[zJ,zM];show OkS (zN _ _ [some (.ref 0),some (.ref 2),none,none,none,none,none,none,none,none,none,none] M1) _;rw[zI,Du];let⟨c,ec,lc⟩:=T3 (Y:=[some (.ref 0),some (.ref 2),none,none,none,none,none,none,none,none,none,none]) (M:=M1) (j:=0) (i:=8) rfl rfl e0;let elen:=FL ec De;rw[AG]at elen;calc ⟨_,_,_,Fj (j:=2+(c.length:Int)) (zE (x:=.dat (.int 2)) rfl elen CU) () (),?_⟩;refine Hv (n:=(2+(c.length:Int)).toNat) (I:=λt Y A=>(∃ y2 y3 y4 y5 y6 y7 y8 y9 y10 y11,Y=[some (.ref 0),some (.ref 2),y2,y3,y4,y5,y6,y7,y8,y9,y10,y11])/\Nw M1 A 2 1) ?_ ?_ _ _ ⟨⟨_,_,_,_,_,_,_,_,_,_,rfl⟩,.refl g1⟩
 .rintro t Y A0 ht ⟨⟨y2,y3,y4,y5,y6,y7,y8,y9,y10,y11,rfl⟩,nw0⟩;refine ⟨_,rfl,?_⟩;let g0:=nw0.gen;let g0l:2<A0.length:=g0.lt.1;show OkS (zN _ _ [some (.ref 0),some (.ref 2),some (.int (t:Nat)),y3,y4,y5,y6,y7,y8,y9,y10,y11] A0) _;rw[zI,zc];refine IC.mpr (zH (zL (d:=.ref 2) rfl (zL (d:=.int 26) rfl (zU (d:=.int 6) rfl))) (Ok.mono (cA g0) ?_));rintro d A1 ⟨zA,l,rfl,m,h26,hl,nw1,hlen1⟩;rw[zJ,zM];let⟨T,eT,hne,hTl,hTB,hnd⟩:=VG m h26 hl;refine Eu (BZ (zU (d:=mD zA) rfl) (eT A1)) ?_;show OkS (zN _ _ [some (.ref 0),some (.ref 2),some (.int (t:Nat)),some (mD zA),some (.tup (T.map btD)),y5,y6,y7,y8,y9,y10,y11] A1) _;rw[zI,zc];refine F6.mpr (DI.mpr (Bu.mpr (zH (Ba (ds:=[]) rfl (by simp)) (zJ.mpr (DI.mpr (Bu.mpr (zm.mpr ⟨_,rfl,zJ.mpr (DI.mpr (Bu.mpr (He.mpr (IP.mpr ?_))))⟩)))))));refine F7.mpr ⟨_,_,_,Cw (xs:=T.map btD) rfl,zh (by rw[AG];omega),Ok.mono (Ti (T:=T) (λt A=>⟨_,rfl,rfl,rfl⟩) nw1.gen) ?_⟩;rintro ys A2 ⟨S,hS,rfl,nx2⟩;refine Hg.mpr ((QF De).mpr (zJ.mpr (DI.mpr (Bu.mpr (zH (VW (xs:=T.map btD) rfl (oS rfl)) (zJ.mpr (Ek.mpr ⟨zh (by simp),zk ?_⟩)))))));let gd0:Gd zA (.tup []):=by
   have:=Jl m h26 (T:=[]) (by simp) (λ_ h=>by ext h) List.nodup_nil;exact this
  let gdT:=Jl m h26 hTl hTB hnd;let gdS:Gd zA (.tup (S.map btD)):=Jl m h26 (Ao hS.length_le hTl) (λs hs=>hTB s (hS.subset hs)) ((hS.map _).nodup hnd);let gdR:Gd zA (.tup (T.map btD).reverse):=by
   rw[<-List.map_reverse];exact Jl m h26 (by rw[List.length_reverse];calc hTl) (λs hs=>hTB s (List.mem_reverse.mp hs)) (by rw[List.map_reverse];calc (List.reverse_perm _).nodup_iff.mpr hnd)
  let hR0:∀ r∈[D.tup [],.tup (T.map btD),.tup (S.map btD),.tup (T.map btD).reverse],Gd zA r:=al1 gd0 (al1 gdT (al1 gdS (al1 gdR al0)));let hRl0:[D.tup [],.tup (T.map btD),.tup (S.map btD),.tup (T.map btD).reverse].length=4:=rfl;generalize [D.tup [],.tup (T.map btD),.tup (S.map btD),.tup (T.map btD).reverse]=Rt0 at hR0 hRl0;let nw2:=nw1.trans nx2.nw;let nw3:=nw2.trans (nw2.gen.lst Rt0 (zw λr hr=>((hR0 r hr).1 _).2));let e5:(A2++[MO.lst Rt0])[A2.length]?=some (.lst Rt0):=zZ _ _;let hz5:A0.length<=A2.length:=nw2.len;generalize A2++[MO.lst Rt0]=A3 at nw3 e5;generalize A2.length=z5 at e5 hz5;rw[zM];show OkS (zN _ _ [some (.ref 0),some (.ref 2),some (.int (t:Nat)),some (mD zA),some (.tup (T.map btD)),some (.ref z5),y6,y7,y8,y9,y10,y11] A3) _;let hr0:=m.r0;let hrooms:∀ (Y:Sd) (A:Mem),Y[3]?=some (some (mD zA))->HH (fB AZ (zK (zC 3) zb)) Y A=some (.dat (tI (Ai zA).1),A):=λY A s3=>by
   calc zY (Xg (j:=(zA.length:Int)) (EL (by erw[zC];rw[s3])) () () ⟨?_,rfl⟩);erw[upD,tI,Ai];dsimp only;rw[CS,show (zA.length:Int).toNat=zA.length by omega];rfl
  refine Eu (hrooms _ _ rfl) ?_;show OkS (zN _ _ [some (.ref 0),some (.ref 2),some (.int (t:Nat)),some (mD zA),some (.tup (T.map btD)),some (.ref z5),y6,some (tI (Ai zA).1),y8,y9,y10,y11] A3) _;let hallB:∀ (Y:Sd) (A:Mem),Y[3]?=some (some (mD zA))->Y[7]?=some (some (tI (Ai zA).1))->zi (zD (toD (zi (zD (toD (zC 7)) (zD (toD (fC (.int 1))) (zD (toD (fOp Ez (zi (zD (toD (fC (.int 0))) zF)) (fB AZ (zK (zC 3) zb)))) zF))))) zF) Y A=some (.dat (.tup [btD (Ai zA)]),A):=λY A s3 s7=>by
   calc Ej (Ba (zL (d:=tI (Ai zA).1) (by erw[zC];rw[s7]) (zL (d:=.int 1) rfl (zU ((zE (x:=.dat (.tup [.int 0])) (Ej rfl) (EL (by erw[zC];rw[s3])) (cU () ())).trans ?_)))) (by simp));rw[show (zA.length:Int).toNat=zA.length by omega];show _=some (EV.dat (tI (List.replicate zA.length 0)),A);erw[tI];rw[List.map_replicate]
  let gdA:=Ft h26 (Pr m);rw[zI,Em];calc Ea.mpr (zm.mpr ⟨_,rfl,⟨_,Dm e5⟩,zH (zU (hallB _ _ rfl rfl)) ?_⟩);calc (HS e5 (BC () (zh (n:=100) ()))).mpr ?_;let hR1:∀ r∈Rt0++[D.tup [btD (Ai zA)]],Gd zA r:=λr hr=>(AR.mp hr).elim (hR0 r) λz=>by rw[Ae.mp z];exact gdA
  let nw4:=nw3.setB g0 hz5 (u:=.lst (Rt0++[D.tup [btD (Ai zA)]])) (zw λr hr=>((hR1 r hr).1 _).2);let e5':(A3.set z5 (.lst (Rt0++[D.tup [btD (Ai zA)]])))[z5]?=some (.lst (Rt0++[D.tup [btD (Ai zA)]])):=Br (AK.mp e5).1;let hRl1:(Rt0++[D.tup [btD (Ai zA)]]).length=5:=by rw[AV];simp;omega
  generalize A3.set z5 (.lst (Rt0++[D.tup [btD (Ai zA)]]))=A4 at nw4 e5';generalize Rt0++[D.tup [btD (Ai zA)]]=Rt1 at hR1 e5' hRl1;rw[zM,zI,Du];calc ⟨_,_,_,Cw rfl,?_⟩;refine Ii (gd:=none) (I:=λs Y A=>(∃ y6 y8,Y=[some (.ref 0),some (.ref 2),some (.int (t:Nat)),some (mD zA),some (.tup (T.map btD)),some (.ref z5),y6,some (tI (Ai zA).1),y8,y9,y10,y11])/\Nw A0 A 2 1 /\ ∃ Rt,A[z5]?=some (.lst Rt)/\(∀ r∈Rt,Gd zA r)/\Rt.length=5+2*s) (λ_ _ _ _=>C5) ?_ ?_ _ _ ⟨⟨_,_,rfl⟩,nw4,Rt1,e5',hR1,hRl1⟩
  .rintro s d Y A ed ⟨⟨y6,y8,rfl⟩,nw,Rt,eR,hR,hRl⟩;rw[AW]at ed;let⟨tt,ett,rfl⟩:=Option.map_eq_some_iff.mp ed;let hs:s<T.length:=(AK.mp ett).1;let htB:=hTB tt (CM ett);refine ⟨_,rfl,?_⟩;show OkS (BL _ [some (.ref 0),some (.ref 2),some (.int (t:Nat)),some (mD zA),some (.tup (T.map btD)),some (.ref z5),some (btD tt),some (tI (Ai zA).1),y8,y9,y10,y11] A) _;rw[Em];let⟨d,A',e',z,t1,t2,rfl,nw',hz',ez,b1,b2⟩:=T4 m h26 htB nw.gen;let hc:=Hc (own:=[8]) (fi:=AQ (ze Gq (zD (toD (zC 1)) (zD (toD (zC 6)) zF)))) (g:=gN 8) (tc:=Ab) (te:=zi (zD (toD (zC 8)) zF)) (Y:=[some (.ref 0),some (.ref 2),some (.int (t:Nat)),some (mD zA),some (.tup (T.map btD)),some (.ref z5),some (btD tt),some (tI (Ai zA).1),y8,y9,y10,y11]) (M:=A) (M1:=A') [t1,t2] btD (λt=> .tup [btD t]) (λ_=>true) (Fc (BZ (zL (d:=.ref 2) rfl (zU (d:=btD tt) rfl)) e') (zj ez)) (Or.inl ez) (by simp) λa _=>⟨_,rfl,rfl,λ_=>Ej rfl⟩;refine Ea.mpr (zm.mpr ⟨_,rfl,⟨_,Dm eR⟩,zH (aC' (Gp hc) rfl) ?_⟩);rw[show ([t1,t2].filter λ_=>true)=[t1,t2]from rfl];let zne:z5≠2/\z5≠1:=()
   let eR':=nw'.get eR zne.1 zne.2;let nwx:=nw'.trans (nw'.gen.lst ([t1,t2].map λt=>D.tup [btD t]) (zw (al1 ((Ft h26 b1).1 _).2 (al1 ((Ft h26 b2).1 _).2 al0))));let ex:(A'++[MO.lst ([t1,t2].map λt=>D.tup [btD t])])[A'.length]?=some (.lst ([t1,t2].map λt=>D.tup [btD t])):=zZ _ _;let eRx:=D1 eR' [MO.lst ([t1,t2].map λt=>D.tup [btD t])];refine zH (Nb eRx ex (by simp;omega)) ⟨⟨_,_,rfl⟩,?_,_,Br (AK.mp eRx).1,λr hr=>?_,?_⟩
   .refine (nw.trans nwx).setB g0 hz5 (zw λr hr=>?_);rcases AR.mp hr with q|q
    .exact ((hR r q).1 _).2
    .exact (al1 (p:=λr=>D.und _ r=true) ((Ft h26 b1).1 _).2 (al1 ((Ft h26 b2).1 _).2 al0)) r q
   .rcases AR.mp hr with q|q
    .exact hR r q
    .exact (al1 (p:=Gd zA) (Ft h26 b1) (al1 (Ft h26 b2) al0)) r q
   .rw[AV,hRl];simp;omega
  .rintro Y A ⟨⟨y6,y8,rfl⟩,nw,Rt,eR,hR,hRl⟩;rw[AG]at hRl;rw[zM];let har:=QX m h26 hl nw.gen.wf (v:=5) eR () true (λr hr=>⟨((hR r hr).1 A).1,(hR r hr).2.1,Mt (hR r hr).2.2⟩) (Y:=[some (.ref 0),some (.ref 2),some (.int (t:Nat)),some (mD zA),some (.tup (T.map btD)),some (.ref z5),y6,some (tI (Ai zA).1),y8,y9,y10,y11]) rfl λr=>⟨_,rfl,rfl,rfl⟩;refine Ef (Bk har) ?_;clear har hR eR hRl;rw[zI,zc];obtain ⟨t0,T0,rfl⟩:∃ t0 T0,T=t0::T0:=by
    cases T with
    |nil=>calc absurd rfl hne
    |cons a b=>exact ⟨a,b,rfl⟩
   generalize hT:t0::T0=T at *;let hT0:t0∈T:=by rw[<-hT];simp
   let⟨x0,hx0⟩:=List.exists_mem_of_length_pos (hTB t0 hT0).part.n0;let hTD:(T.map btD).length<=26:=by rw[AG];exact hTl
   let hTD1:1<=(T.map btD).length:=by rw[<-hT];simp
   let hbt:∀ {A:Mem},∀ d∈T.map btD,Okd A d:=λd hd=>by
    let⟨s,hs,rfl⟩:=AU.mp hd;have:=KC h26 ((hTB s hs).bt m);exact KD () ()
   let hcut:L3.Bw (T.map btD) none (some 1)=[btD t0]:=by
    rw[NS (a:=0) (b:=1) rfl (by show HT.sIx _ _ (some ((1:Nat):Int))=1;rw[HT.JL];omega),<-hT];rfl
   let hsl:∀ A,fSl (zC 4) AY (Af (fC (.int 1))) [some (.ref 0),some (.ref 2),some (.int (t:Nat)),some (mD zA),some (.tup (T.map btD)),some (.ref z5),y6,some (tI (Ai zA).1),y8,y9,y10,y11] A=some (.dat (.tup [btD t0]),A):=λA=>by
    have:=slE (f:=zC 4) (Y:=[some (.ref 0),some (.ref 2),some (.int (t:Nat)),some (mD zA),some (.tup (T.map btD)),some (.ref z5),y6,some (tI (Ai zA).1),y8,y9,y10,y11]) (M:=A) (xs:=T.map btD) rfl (rfl:AY _ A=some (none,A)) (oS (f:=fC (.int 1)) rfl);rw[hcut]at this;exact this
   let dW:Aq (zD (toD (fB D8 (zK (zC 4) zb))) (zD (toD (fOp zQ (zC 4) (fSl (zC 4) AY (Af (fC (.int 1)))))) (zD (toD (fOp zQ (zC 4) (zi (zD (toD (zi (zD (toD (zC 7)) (zD (toD (fC (.int 1))) (zD (toD (fOp Ez (zi (zD (toD (fC (.int 0))) zF)) (fB AZ (zK (zC 3) zb)))) zF))))) zF)))) (zD (toD (fC .non)) (zD (toD (fC (.int 0))) (zD (toD (fC (.str "beats"))) (zD (toD (zi (zD (toD (fC .non)) zF))) (zD (toD (zi (zD (toD (zi zF)) zF))) zF)))))))) [some (.ref 0),some (.ref 2),some (.int (t:Nat)),some (mD zA),some (.tup (T.map btD)),some (.ref z5),y6,some (tI (Ai zA).1),y8,y9,y10,y11] A=some (.fl [.ref A.length,.tup (T.map btD++[btD t0]),.tup (T.map btD++[btD (Ai zA)]),.non,.int 0,.str "beats", .tup [.non],.tup [.tup []]],A++[MO.lst (T.map btD)]) :=
    Et (aC' (Gp (KY (x:=.dat (.tup (T.map btD))) rfl CT)) (zL (zE (x:=.dat (.tup (T.map btD))) rfl (hsl _) (G1 (by simp at hTD ⊢;omega))) (zL (zE (x:=.dat (.tup (T.map btD))) rfl (hallB _ _ rfl rfl) (G1 (by simp at hTD ⊢;omega))) (zL (d:=.non) rfl (zL (d:=.int 0) rfl (zL (d:=.str "beats") rfl (zL (Ej (d:=.non) rfl) (zU (Ej (d:=.tup []) rfl))))))))) (by simp)
   refine zH dW (zk ?_);let nwL:Nw A (A++[MO.lst (T.map btD)]) 2 1:=nw.gen.lst _ (zw λd hd=>(hbt (A:=A) d hd).2);let eL:(A++[MO.lst (T.map btD)])[A.length]?=some (.lst (T.map btD)):=zZ _ _;let okA:∀ {A:Mem},Okd A (btD (Ai zA)):=by
    intro A;have:=KC h26 (Pr m);exact KD () ()
   let okcat:∀ {A:Mem} {d:D},Okd A d->Okd A (.tup (T.map btD++[d])):=λ{A d} hd=>C6 (by rw[AV];simp at hTD ⊢;omega) λx hx=>(AR.mp hx).elim (hbt x) λq=>by rw[Ae.mp q];exact hd
   let lencat:∀ d:D,Ib (.tup (T.map btD++[d]))<=100:=λd=>by show (T.map btD++[d]).length<=100;rw[AV];simp at hTD ⊢;omega
   let nonT:∀ d:D,JM d=false -> ¬ Shw zA d:=λd hd=>by rintro ⟨_,rfl,_⟩;ext hd
   let hW0:∀ r∈[D.ref A.length,.tup (T.map btD++[btD t0]),.tup (T.map btD++[btD (Ai zA)]),.non,.int 0,.str "beats", .tup [.non],.tup [.tup []]],Bs zA (A++[MO.lst (T.map btD)]) r :=
    al1 ⟨Jp eL,BK _,nonT _ rfl⟩ (al1 ⟨okcat (hbt _ (AU.mpr ⟨t0,hT0,rfl⟩)),lencat _,Nt hT0 hx0 hx0⟩ (al1 ⟨okcat okA,lencat _,Nt hT0 hx0 (by
     have:=(hTB t0 hT0).part.mem x0 hx0;calc AU.mpr ⟨x0.toNat,DR.mpr (),()⟩)⟩ (al1 ⟨Lh,BK _,nonT _ rfl⟩ (al1 ⟨Bi _,BK _,nonT _ rfl⟩ (al1 ⟨QY _,BK _,nonT _ rfl⟩ (al1 ⟨C6 (by simp) (al1 Lh al0),by show 1<=100;decide,Ku (List.mem_singleton_self _) λh=>by let⟨_,e,_⟩:=Fx h;ext e⟩ (al1 ⟨C6 (by simp) (al1 (C6 (by simp) al0) al0),by show 1<=100;decide,Ku (List.mem_singleton_self _) λh=>by let⟨_,e,hl⟩:=Fx h;ext e;ext hl⟩ al0)))))))
   let hWl0:[D.ref A.length,.tup (T.map btD++[btD t0]),.tup (T.map btD++[btD (Ai zA)]),.non,.int 0,.str "beats", .tup [.non],.tup [.tup []]].length=8:=rfl;generalize [D.ref A.length,.tup (T.map btD++[btD t0]),.tup (T.map btD++[btD (Ai zA)]),.non,.int 0,.str "beats", .tup [.non],.tup [.tup []]]=W0 at hW0 hWl0;let nwM:=nw.trans (nwL.trans (nwL.gen.lst W0 (zw λr hr=>(hW0 r hr).1.2)));let eW:((A++[MO.lst (T.map btD)])++[MO.lst W0])[(A++[MO.lst (T.map btD)]).length]?=some (.lst W0):=zZ _ _;let hW1:∀ r∈W0,Bs zA ((A++[MO.lst (T.map btD)])++[MO.lst W0]) r:=λr hr=>(hW0 r hr).keep (Tk.app _ _) (by simp);let hzW:A0.length<=(A++[MO.lst (T.map btD)]).length:=(nw.trans nwL).len;generalize (A++[MO.lst (T.map btD)])++[MO.lst W0]=B0 at nwM eW hW1;generalize (A++[MO.lst (T.map btD)]).length=zW at eW hzW;rw[zM];clear dW hW0 eL nwL;show OkS (zN _ _ [some (.ref 0),some (.ref 2),some (.int (t:Nat)),some (mD zA),some (.tup (T.map btD)),some (.ref z5),y6,some (tI (Ai zA).1),y8,y9,some (.ref zW),y11] B0) _;rw[zI,Du];calc ⟨D6 (T.map btD),none,B0,rfl,?_⟩;refine Ii (gd:=none) (I:=λs Y A=>(∃ y6 y8 y11,Y=[some (.ref 0),some (.ref 2),some (.int (t:Nat)),some (mD zA),some (.tup (T.map btD)),some (.ref z5),y6,some (tI (Ai zA).1),y8,y9,some (.ref zW),y11])/\Nw A0 A 2 1 /\ ∃ W,A[zW]?=some (.lst W)/\(∀ r∈W,Bs zA A r)/\W.length<=8+30*s) (λ_ _ _ _=>C5) ?_ ?_ _ _ ⟨⟨_,_,_,rfl⟩,nwM,W0,eW,hW1,()⟩
   .rintro s d Y A ed ⟨⟨y6,y8,y11,rfl⟩,nw,W,eW,hW,hWl⟩;let⟨dd,edd,rfl⟩:=Pz ed;let hs:s<(T.map btD).length:=(AK.mp edd).1;rw[AW]at edd;let⟨tt,ett,rfl⟩:=Option.map_eq_some_iff.mp edd;let htB:=hTB tt (CM ett);refine ⟨_,rfl,?_⟩;show OkS (BL _ [some (.ref 0),some (.ref 2),some (.int (t:Nat)),some (mD zA),some (.tup (T.map btD)),some (.ref z5),some (btD tt),some (tI (Ai zA).1),y8,y9,some (.ref zW),some (.int (s:Nat))] A) _;rw[Em];let⟨d,A',e',z,V,rfl,hVl,hV⟩:=gZ m h26 htB nw.gen;let hlt:((T.map btD).take s).length<=26:=by rw[Bg];omega
    let hld:((T.map btD).drop (s+1)).length<=26:=by rw[Dh];omega
    let hc:=Hc (own:=[8]) (fi:=AQ (ze Gv (zD (toD (zC 1)) (zD (toD (zC 3)) (zD (toD (zC 6)) zF))))) (g:=gN 8) (tc:=Ab) (te:=fOp zQ (fOp zQ (fSl (zC 4) AY (Af (zC 11))) (zi (zD (toD (zC 8)) zF))) (fSl (zC 4) (Af (fOp zQ (zC 11) (fC (.int 1)))) AY)) (Y:=[some (.ref 0),some (.ref 2),some (.int (t:Nat)),some (mD zA),some (.tup (T.map btD)),some (.ref z5),some (btD tt),some (tI (Ai zA).1),y8,y9,some (.ref zW),some (.int (s:Nat))]) (M:=A) (M1:=A') (gd:=HD (.dat (.ref z)) V) V id (λw=> .tup ((T.map btD).take s++[w]++(T.map btD).drop (s+1))) (λ_=>true) (by rw[List.map_id];exact Fc (BZ (zL (d:=.ref 2) rfl (zL (d:=mD zA) rfl (zU (d:=btD tt) rfl))) e') (zj hV.e)) (Or.inl hV.e) () λw hw=>⟨_,rfl,rfl,λ_=>by
     let s1:=slE (f:=zC 4) (Y:=[some (.ref 0),some (.ref 2),some (.int (t:Nat)),some (mD zA),some (.tup (T.map btD)),some (.ref z5),some (btD tt),some (tI (Ai zA).1),some w,y9,some (.ref zW),some (.int (s:Nat))]) (M:=A') (xs:=T.map btD) rfl (rfl:AY _ A'=some (none,A')) (oS (f:=zC 11) (i:=(s:Nat)) rfl);rw[Pk () (),Bc]at s1;let s2:=slE (f:=zC 4) (Y:=[some (.ref 0),some (.ref 2),some (.int (t:Nat)),some (mD zA),some (.tup (T.map btD)),some (.ref z5),some (btD tt),some (tI (Ai zA).1),some w,y9,some (.ref zW),some (.int (s:Nat))]) (M:=A') (xs:=T.map btD) rfl (oS (f:=fOp zQ (zC 11) (fC (.int 1))) (i:=(s:Nat)+1) (zE (x:=.dat (.int (s:Nat))) rfl rfl CU)) (rfl:AY _ A'=some (none,A'));rw[OG () (),show ((s:Nat)+1:Int).toNat=s+1 by omega]at s2;calc zE (zE s1 (Ej (d:=w) rfl) (G1 (by simp;omega))) s2 (G1 (by simp;omega))⟩
    rw[show (V.filter λ_=>true)=V from List.filter_eq_self.mpr λ_ _=>rfl]at hc;calc Ea.mpr (zm.mpr ⟨_,rfl,⟨_,Dm eW⟩,zH (aC' (Gp hc) rfl) ?_⟩);let zne:zW≠2/\zW≠1:=()
    let eW':=hV.nw.get eW zne.1 zne.2;let hbad:∀ r∈V.map (λw=>D.tup ((T.map btD).take s++[w]++(T.map btD).drop (s+1))),Bs zA A' r:=λr hr=>by
     let⟨w,hw,rfl⟩:=AU.mp hr;let⟨q1,q2⟩:=hV.bad w hw;refine ⟨C6 (by simp;omega) λx hx=>?_,by show ((T.map btD).take s++[w]++(T.map btD).drop (s+1)).length<=100;simp;omega,Ku (d:=w) (by simp) q2⟩;rcases AR.mp hx with q|q
     .rcases AR.mp q with q|q
      .exact hbt x (List.mem_of_mem_take q)
      .rw[Ae.mp q];exact q1
     .exact hbt x (List.mem_of_mem_drop q)
    let hVl2:(V.map (λw=>D.tup ((T.map btD).take s++[w]++(T.map btD).drop (s+1)))).length<=30:=by rw[AG];exact hVl
    generalize V.map (λw=>D.tup ((T.map btD).take s++[w]++(T.map btD).drop (s+1)))=V2 at hbad hVl2;let nwx:=hV.nw.trans (hV.nw.gen.lst V2 (zw λr hr=>(hbad r hr).1.2));let ex:(A'++[MO.lst V2])[A'.length]?=some (.lst V2):=zZ _ _;let eWx:=D1 eW' [MO.lst V2];let tkA:=RH nw.gen nwx;let allx:∀ r∈W++V2,Bs zA (A'++[MO.lst V2]) r:=λr hr=>(AR.mp hr).elim (λq=>(hW r q).keep tkA nwx.len) λq=>(hbad r q).keep (Tk.app _ _) (by simp);refine zH (Nb eWx ex ()) ⟨⟨_,_,_,rfl⟩,?_,_,Br (AK.mp eWx).1,λr hr=>(allx r hr).keep (Tk.set eWx) (by rw[C1];calc AF _),?_⟩
    .exact (nw.trans nwx).setB g0 hzW (zw λr hr=>(allx r hr).1.2)
    .rw[AV];omega
   .rintro Y A ⟨⟨y6,y8,y11,rfl⟩,nw,W,eW,hW,hWl⟩;let hnl:(D6 (T.map btD)).length<=26:=by erw[D6];rw[AG,List.length_zip,Ep];omega
    rw[zM];let har:=QX m h26 hl nw.gen.wf (v:=10) eW () false (λr hr=>⟨(hW r hr).1.1,(hW r hr).2.1,Dv (hW r hr).2.2⟩) (Y:=[some (.ref 0),some (.ref 2),some (.int (t:Nat)),some (mD zA),some (.tup (T.map btD)),some (.ref z5),y6,some (tI (Ai zA).1),y8,y9,some (.ref zW),y11]) rfl λr=>⟨_,rfl,rfl,rfl⟩;exact Wf har ⟨⟨_,_,_,_,_,_,_,_,_,_,rfl⟩,nw0.trans nw⟩
 .rintro Y A ⟨⟨y2,y3,y4,y5,y6,y7,y8,y9,y10,y11,rfl⟩,nw⟩;rw[zM];calc Bp (d:=.bl true) rfl rfl
end
end Lac
set_option maxHeartbeats 4000000
namespace Lac
open L2 L3 Law
-- the text by places
def top (i:Nat):Stmt:=PySem.Challenge.pw_bringhome_k54_shown_beats_of_anything.main.body.getD i (.Pass ⟨0,0,0,0⟩)
abbrev LY:Stmt:=top 1
abbrev Kv:Stmt:=top 2
abbrev Lo:Stmt:=top 3
abbrev Mk:Stmt:=top 4
abbrev Km:Stmt:=top 6
abbrev LH:Stmt:=top 7
abbrev Kg:Stmt:=top 8
abbrev LB:Stmt:=top 10
abbrev KU:Stmt:=top 11
abbrev Ml:Stmt:=top 12
abbrev Ko:Stmt:=top 13
abbrev Ke:Stmt:=top 14
abbrev Mn:Stmt:=top 15
abbrev Ka:Stmt:=top 16
abbrev KL:Stmt:=top 17
abbrev MX:Stmt:=top 18
abbrev Lk:Stmt:=top 19
abbrev Mh:Stmt:=top 20
abbrev LL:Stmt:=top 21
structure Txt (K:Yb) (mg:Yh) where
  kA:Df K mg "is_whole" LY ["thing"]
  kB:Df K mg "is_below" Kv ["thing", "many"]
  kC:Df K mg "is_tuple_below" Lo ["thing", "many"]
  kD:Df K mg "is_set" Mk ["machine", "thing"]
  kE:Df K mg "goes_round" Km ["web", "phase_of", "beat"]
  kF:Df K mg "is_beat" LH ["web", "thing"]
  kG:Df K mg "shows_beats" Kg ["web", "told"]
  kJ:Df K mg "_law_begin" LB ["_law_script"]
  kK:Df K mg "_law_next" KU ["_law_state", "_law_many"]
  kL:Df K mg "_law_phased" Ml ["_law_state", "_law_low", "_law_many", "_law_beat", "_law_room"]
  kM:Df K mg "_law_web" Ko ["_law_state", "_law_most", "_law_ways_most"]
  kN:Df K mg "_law_leads" Ke ["_law_web_here"]
  kO:Df K mg "_law_parts" Mn ["_law_web_here"]
  kP:Df K mg "_law_phases" Ka ["_law_web_here", "_law_part", "_law_beat"]
  kQ:Df K mg "_law_beats" KL ["_law_web_here"]
  kR:Df K mg "_law_turned" MX ["_law_state", "_law_one"]
  kS:Df K mg "_law_truths" Lk ["_law_numbers"]
  kU:Df K mg "_law_wrong" Mh ["_law_state", "_law_web_here", "_law_one"]
  kW:Df K mg "law" LL ["_law_script"]
  kX:mg "isinstance" = none
  kY:mg "int" = none
  kZ:mg "bool" = none
  kAA:mg "tuple" = none
  kAB:mg "all" = none
  kAC:mg "len" = none
  kAD:mg "zip" = none
  kAE:mg "dict" = none
  kAF:mg "set" = none
  kAG:mg "abs" = none
  kAH:mg "sorted" = none
  kAI:mg "range" = none
  kAJ:mg "max" = none
  kAK:mg "str" = none
  kAL:mg "list" = none
  kAM:mg "reversed" = none
  kAN:mg "enumerate" = none
  kinds:Kinds K
section
variable {P:Ym} {w:Yo} {K:Yb} {mg:Yh} {base:Heap}
def Iu {X:Cx} {scope sc:Y0} {own:Yj} {N ps:Yk} (_:FnScope N ps sc) (hk:scope.kind=.function) (hs:X.env.scope=sc) (hN:X.N=N) (h1:Jh sc scope=true) (h2:JH N scope own=true):CompIn X scope own:=Q7 hk hs hN h1 h2
def ZL {X:Cx} {scope sc sd:Y0} {own:Yj} {N ps:Yk} (_:FnScope N ps sd) (hk:scope.kind=.function) (hs:X.env.scope=sc) (hN:X.N=N) (h1:Jh sc scope=true) (h2:JH N scope own=true):CompIn X scope own:=Q7 hk hs hN h1 h2
set_option hygiene false in
local macro_rules | `(tactic| decreasing_trivial)=> `(tactic| repeat' first
  |calc ZO (pv _)
  |calc DZ ?_
  |calc TL ?_ ?_ (zO rfl)
  |calc Se
  |calc fR
  |calc VP ?_
  |calc Xy ?_ ?_
  |calc XC ?_
  |calc ZP ?_ ?_ (zO rfl)
  |calc aI sc.nd rfl
  |calc bE
  |calc Rh
  |calc aB ?_ ?_
  |calc Sf ?_
  |calc UQ ?_ ?_
  |calc WC (by first|exact Ry T|exact dG T|exact i5 T|exact T9 T|exact Sh T|exact Xp T|exact UO T|exact Y7 T|exact iA T|exact fQ T|exact WM T|exact Vv T|exact fO T|exact YS T|exact S3 T|exact Xt T|exact SX T|calc Wv T) (hr.mono ()) rfl ?_ ?_ () (zO rfl) (HU rfl)
  |calc S4 ?_
  |calc aF ?_
  |calc aL rfl T.kAC ?_ (zO rfl) rfl
  |calc Xk
  |calc U0 ?_
  |calc Wm
  |calc U6 ?_ ?_ ?_
  |calc Y9 ?_ ?_
  |calc ZT ?_
  |calc ZZ
  |calc bT ?_ ?_ ?_
  |refine LP (HB ()) (Iu sc rfl rfl rfl (by decide+kernel) (by decide+kernel)) rfl ?_ ⟨λ_ _ _ _ _=>?_,λ_ _ _ _ _=>?_,λ_ _ _ _ _=>?_⟩
  |calc WQ ?_ ?_
  |calc fY ?_
  |calc gI
  |calc Oi VS PassesOwn.never rfl ?_ ?_ ?_
  |calc gY ?_ ?_
  |calc Ro rfl T.kAA ?_ (zO rfl) rfl
  |calc U5 ?_
  |calc UE rfl T.kAI ?_ ?_ (HW rfl)
  |calc YI rfl rfl T.kAB ?_ (zO rfl) rfl
  |calc aH hr.units0 ?_ ?_
  |calc Te hr.units0 ?_ ?_
  |calc V7
  |calc Ua rfl ?_
  |calc Vh (J8 hr) ?_ ?_
  |calc S7 ?_
  |calc i9 ?_ ?_
  |calc jG
  |calc bF ?_
  |calc ZH ?_
  |calc jL ?_ ?_
  |calc dO hr.units0 ?_ ?_
  |calc Rn ?_ ?_
  |refine cB sc.nd rfl (by first|exact Or.inl rfl|calc Or.inr rfl) (by first|exact .inl rfl|calc .inr rfl) rfl (HB ()) (Iu sc rfl rfl rfl (by decide+kernel) (by decide+kernel)) rfl ?_ ⟨λ_ _ _ _ _=>?_,λ_ _ _ _ _=>?_,λ_ _ _ _ _=>?_⟩
  |calc Rq ?_ ?_
  |calc Zh ?_ ?_
  |calc R5 ?_
  |calc d8 _ PassesOwn.never ?_ ?_
  |calc ZG ?_ ?_
  |calc XW ?_ ?_ ?_
  |calc bK rfl rfl T.kAF ?_ (zO rfl) rfl
  |calc T7 ?_ ?_
  |calc iQ rfl T.kAH ?_ (zO rfl) rfl
  |calc Xw (aA (K:=K)) ?_ ?_
  |calc aR rfl T.kAL ?_ (zO rfl) rfl
  |calc aK rfl rfl T.kAA rfl T.kAM ?_ (zO rfl) rfl (zO rfl) rfl
  |calc MU T.kinds () rfl T.kX rfl T.kAA (by rfl) () () ?_ (zO rfl) (zO rfl) (HU rfl)
  |calc ZF rfl T.kAG ?_ (zO rfl) rfl
  |calc gP rfl T.kAI ?_ ?_ (Lr rfl rfl) (HW rfl)
  |calc gA ?_
  |calc VD rfl T.kAC ?_ (zO rfl) rfl
  |calc dR ?_ ?_
  |calc US ?_ ?_
  |calc Xq ?_ ?_
  |calc MU T.kinds () rfl T.kX rfl T.kY (by rfl) () () ?_ (zO rfl) (zO rfl) (HU rfl)
  |calc MU T.kinds () rfl T.kX rfl T.kZ (by rfl) () () ?_ (zO rfl) (zO rfl) (HU rfl)
  |calc ZK ?_
  |calc dN ?_
  |calc TJ (J8 hr) ?_ ?_
  |refine Ur () (HB ()) (HB ()) (Iu sc rfl rfl rfl (by decide+kernel) (by decide+kernel)) rfl ?_ ⟨λ_ _ _ _ _=>?_,λ_ _ _ _ _=>?_,λ_ _ _ _ _=>?_,λ_ _ _ _ _=>?_,λ_ _ _ _ _=>?_,λ_ _ _ _ _=>?_,λ_ _ _ _ _ _=>rfl⟩
  |calc UA ?_ ?_
  |calc aZ ?_ ?_
  |calc bS rfl rfl T.kAH ?_ (zO rfl) rfl
  |refine LP (HB ()) (ZL sc rfl rfl rfl (by rfl) (by decide+kernel)) rfl ?_ ⟨λ_ _ _ _ _=>?_,λ_ _ _ _ _=>?_,λ_ _ _ _ _=>?_⟩
  |calc UD ?_ ?_
  |calc WA ?_ ?_
  |calc gM ?_ ?_
  |calc Tq (J8 hr) ?_ ?_
  |calc S8 (J8 hr) ?_ ?_ ?_
  |calc X7 sc.nd rfl (by first|exact Or.inl rfl|calc Or.inr rfl) ?_
  |calc bV ?_ ?_ ?_
  |refine dS (Fd λ_ _ _ _=>CP) (Fd λ_ _ _ _=>CP) VE Kt ?_ ?_ ?_
  |calc cM (PX 1 () hr) ?_ ?_
  |calc bI ?_ ?_
  |calc fN rfl T.kAH ?_ (zO rfl) rfl
  |calc Rj rfl T.kAK ?_ (zO rfl) rfl
  |calc XF ?_ ?_
  |calc aG rfl rfl T.kAJ ?_ (zO rfl) (HU rfl)
  |calc Rg ?_ ?_
  |calc Vf sc.nd rfl (by first|exact Or.inl rfl|calc Or.inr rfl) ?_
  |calc gF rfl T.kAD ?_ (Lr rfl rfl) (HW rfl)
  |calc aT ?_ ?_
  |refine LP (hU (K:=K) () ()) (Iu sc rfl rfl rfl (by decide+kernel) (by decide+kernel)) rfl ?_ ⟨λ_ _ _ _ _=>?_,λ_ _ _ _ _=>?_,λ_ _ _ _ _=>?_⟩
  |calc OF ?_ ?_
  |calc Xv false (PX 4 () hr) rfl rfl T.kAE rfl T.kAD ?_ (Lr rfl rfl) (HW rfl) (zO rfl) rfl
  |refine SQ sc.nd rfl (by first|exact Or.inl rfl|calc Or.inr rfl) (by first|exact .inl rfl|calc .inr rfl) rfl () (Us (K:=K) () () ()) (HB ()) (Iu sc rfl rfl rfl (by decide+kernel) (by decide+kernel)) rfl ?_ ⟨λ_ _ _ _ _=>?_,λ_ _ _ _ _=>?_,λ_ _ _ _ _=>?_,λ_ _ _ _ _=>?_,λ_ _ _ _ _=>?_,λ_ _ _ _ _=>?_,λ_ _ _ _ _ _=>rfl⟩
  |calc fD ?_ ?_
  |calc cR rfl rfl T.kAA rfl T.kAI ?_ (zO rfl) rfl (zO rfl) rfl
  |calc Zc
  |calc bN rfl T.kAN ?_ (zO rfl) rfl
  |calc Oi (WR (K:=K)) PassesOwn.never rfl ?_ ?_ ?_
  |calc VR sc.nd rfl ?_
  |calc OQ (OF ?_ ?_)
  |calc OQ (S9 ?_ ?_)
  |calc bU ?_)
abbrev Uo:List Str:=["thing"]
def Th:FnScope Uo ["thing"] (zV LY):=by ∎
def dG (T:Txt K mg):Od P w base 1 T.kA Gw:=by
  erw[Gw];let sc:=Th;exact Bz (n:=1) T.kA.F sc rfl (λcdv A outer s H E hr=>by
    erw[Mr];decreasing_trivial)
abbrev Xj:List Str:=["web", "phase_of", "beat", "goal", "room"]
def Tr:FnScope Xj ["web", "phase_of", "beat"] (zV Km):=by ∎
def Vv (T:Txt K mg):Od P w base 1 T.kE HY:=by
  erw[HY];let sc:=Tr;exact Bz (n:=3) T.kE.F sc rfl (λcdv A outer s H E hr=>by
    erw[La];decreasing_trivial)
abbrev YH:List Str:=["_law_script", "_law_seed", "_law_cell"]
def Sr:FnScope YH ["_law_script"] (zV LB):=by ∎
def YS (T:Txt K mg):Od P w base 1 T.kJ Hj:=by
  erw[Hj];let sc:=Sr;exact Bz (n:=1) T.kJ.F sc rfl (λcdv A outer s H E hr=>by
    erw[KO];decreasing_trivial)
abbrev Tx:List Str:=["_law_state", "_law_many", "_law_digit"]
def TY:FnScope Tx ["_law_state", "_law_many"] (zV KU):=by ∎
def Ry (T:Txt K mg):Od P w base 1 T.kK zg:=by
  erw[zg];let sc:=TY;exact Bz (n:=2) T.kK.F sc rfl (λcdv A outer s H E hr=>by
    erw[Ln];decreasing_trivial)
abbrev Zt:List Str:=["_law_web_here", "_law_leads_here", "_law_room", "_law_goal", "_law_middle", "_law_more"]
def Wi:FnScope Zt ["_law_web_here"] (zV Ke):=by ∎
def Xp (T:Txt K mg):Od P w base 1 T.kN IW:=by
  erw[IW];let sc:=Wi;exact Bz (n:=1) T.kN.F sc rfl (λcdv A outer s H E hr=>by
    erw[MM];decreasing_trivial)
abbrev Wa:List Str:=["_law_web_here", "_law_part", "_law_beat", "_law_phases_here", "_law_line", "_law_at", "_law_due", "_law_goal", "_law_room"]
def Y8:FnScope Wa ["_law_web_here", "_law_part", "_law_beat"] (zV Ka):=by ∎
def i5 (T:Txt K mg):Od P w base 1 T.kP GI:=by
  erw[GI];let sc:=Y8;exact Nc (Bz (n:=3) T.kP.F sc rfl (λcdv A outer s H E hr=>by
    erw[Ja];decreasing_trivial))
abbrev XA:List Str:=["_law_numbers", "_law_number"]
def XD:FnScope XA ["_law_numbers"] (zV Lk):=by ∎
def UO (T:Txt K mg):Od P w base 1 T.kS Ik:=by
  erw[Ik];let sc:=XD;exact Bz (n:=1) T.kS.F sc rfl (λcdv A outer s H E hr=>by
    erw[K5];decreasing_trivial)
abbrev UZ:List Str:=["thing", "many"]
def ZA:FnScope UZ ["thing", "many"] (zV Kv):=by ∎
def Y7 (T:Txt K mg):Od P w base 2 T.kB IF:=by
  erw[IF];let sc:=ZA;exact Bz (n:=2) T.kB.F sc rfl (λcdv A outer s H E hr=>by
    erw[K4];decreasing_trivial)
abbrev gV:List Str:=["_law_state", "_law_low", "_law_many", "_law_beat", "_law_room", "_law_first"]
def d6:FnScope gV ["_law_state", "_law_low", "_law_many", "_law_beat", "_law_room"] (zV Ml):=by ∎
def iA (T:Txt K mg):Od P w base 2 T.kL Hd:=by
  erw[Hd];let sc:=d6;exact Bz (n:=5) T.kL.F sc rfl (λcdv A outer s H E hr=>by
    erw[KJ];decreasing_trivial)
abbrev Ss:List Str:=["_law_web_here", "_law_leads_here", "_law_found", "_law_room", "_law_part", "_law_other"]
def Ue:FnScope Ss ["_law_web_here"] (zV Mn):=by ∎
def fQ (T:Txt K mg):Od P w base 2 T.kO IJ:=by
  erw[IJ];let sc:=Ue;exact Bz (n:=1) T.kO.F sc rfl (λcdv A outer s H E hr=>by
    erw[LJ];decreasing_trivial)
abbrev Td:List Str:=["_law_state", "_law_one", "_law_part", "_law_beat", "_law_phases_here", "_law_by", "_law_lesser", "_law_part_of", "_law_less", "_law_phase"]
def Xb:FnScope Td ["_law_state", "_law_one"] (zV MX):=by ∎
def SX (T:Txt K mg):Od P w base 2 T.kR Gq:=by
  erw[Gq];let sc:=Xb;exact Bz (n:=2) T.kR.F sc rfl (λcdv A outer s H E hr=>by
    erw[LG];decreasing_trivial)
abbrev XM:List Str:=["_law_state", "_law_web_here", "_law_one", "_law_part", "_law_beat", "_law_phases_here", "_law_at", "_law_other", "_law_found"]
def TK:FnScope XM ["_law_state", "_law_web_here", "_law_one"] (zV Mh):=by ∎
def Wv (T:Txt K mg):Od P w base 2 T.kU Gv:=by
  erw[Gv];let sc:=TK;exact Bz (n:=3) T.kU.F sc rfl (λcdv A outer s H E hr=>by
    erw[Ks];decreasing_trivial)
abbrev eM:List Str:=["thing", "many", "part"]
def Xr:FnScope eM ["thing", "many"] (zV Lo):=by ∎
def T9 (T:Txt K mg):Od P w base 3 T.kC Gn:=by
  erw[Gn];let sc:=Xr;exact Bz (n:=2) T.kC.F sc rfl (λcdv A outer s H E hr=>by
    erw[L9];decreasing_trivial)
abbrev Z9:List Str:=["_law_state", "_law_most", "_law_ways_most", "_law_rooms", "_law_ways", "_law_cuts", "_law_loose", "_law_rows", "_law_k", "_law_many", "_law_beat", "_law_room", "_law_goals", "_law_j"]
def Ui:FnScope Z9 ["_law_state", "_law_most", "_law_ways_most"] (zV Ko):=by ∎
def S3 (T:Txt K mg):Od P w base 3 T.kM IE:=by
  erw[IE];let sc:=Ui;exact MY (Bz (n:=3) T.kM.F sc rfl (λcdv A outer s H E hr=>by
    erw[Mm];decreasing_trivial))
abbrev gR:List Str:=["_law_web_here", "_law_found", "_law_part", "_law_beat"]
def jM:FnScope gR ["_law_web_here"] (zV KL):=by ∎
def Xt (T:Txt K mg):Od P w base 3 T.kQ Iq:=by
  erw[Iq];let sc:=jM;exact Nc (Bz (n:=1) T.kQ.F sc rfl (λcdv A outer s H E hr=>by
    erw[JO];decreasing_trivial))
abbrev Zr:List Str:=["machine", "thing", "one", "other"]
def V8:FnScope Zr ["machine", "thing"] (zV Mk):=by ∎
def WM (T:Txt K mg):Od P w base 4 T.kD GB:=by
  erw[GB];let sc:=V8;exact Bz (n:=2) T.kD.F sc rfl (λcdv A outer s H E hr=>by
    erw[Hy];decreasing_trivial)
abbrev dP:List Str:=["web", "thing", "part", "beat", "phases"]
def ZY:FnScope dP ["web", "thing"] (zV LH):=by ∎
def fO (T:Txt K mg):Od P w base 5 T.kF Fz:=by
  erw[Fz];let sc:=ZY;exact MY (Bz (n:=2) T.kF.F sc rfl (λcdv A outer s H E hr=>by
    erw[LF];decreasing_trivial))
abbrev aU:List Str:=["web", "told", "thing", "rooms", "room", "part", "beat", "phases"]
def S6:FnScope aU ["web", "told"] (zV Kg):=by ∎
def Sh (T:Txt K mg):Od P w base 6 T.kG Eg:=by
  erw[Eg];let sc:=S6;exact MY (Bz (n:=2) T.kG.F sc rfl (λcdv A outer s H E hr=>by
    erw[Lx];decreasing_trivial))
abbrev Z3:List Str:=["_law_script", "_law_state", "_law_turn", "_law_web_here", "_law_told", "_law_right", "_law_one", "_law_rooms", "_law_other", "_law_some", "_law_wrong_here", "_law_at"]
def XR:FnScope Z3 ["_law_script"] (zV LL):=by ∎
def UN (T:Txt K mg):Od P w base 7 T.kW E3:=by
  erw[E3];let sc:=XR;exact Bz (n:=1) T.kW.F sc rfl (λcdv A outer s H E hr=>by
    erw[Lg];decreasing_trivial)
end
def iX {l:PySem.W.OpenLaw} {w:World} {K:PySem.W.Frag} {h:Heap} {mg:Str->Option Value} {fa:Addr} (X:K.In h) (G:h.Ns mainGlobals mg) (hfa:mg "law" = some (.ref fa))
    (g1:Dg K "is_whole" LY) (g2:Dg K "is_below" Kv) (g3:Dg K "is_tuple_below" Lo) (g4:Dg K "is_set" Mk) (g5:Dg K "goes_round" Km) (g6:Dg K "is_beat" LH) (g7:Dg K "shows_beats" Kg) (g8:Dg K "_law_begin" LB) (g9:Dg K "_law_next" KU) (g10:Dg K "_law_phased" Ml) (g11:Dg K "_law_web" Ko) (g12:Dg K "_law_leads" Ke) (g13:Dg K "_law_parts" Mn) (g14:Dg K "_law_phases" Ka) (g15:Dg K "_law_beats" KL) (g16:Dg K "_law_turned" MX) (g17:Dg K "_law_truths" Lk) (g18:Dg K "_law_wrong" Mh) (g19:Dg K "law" LL) (z1:Zn K "isinstance") (z2:Zn K "int") (z3:Zn K "bool") (z4:Zn K "tuple") (z5:Zn K "all") (z6:Zn K "len") (z7:Zn K "zip") (z8:Zn K "dict") (z9:Zn K "set") (z10:Zn K "abs") (z11:Zn K "sorted") (z12:Zn K "range") (z13:Zn K "max") (z14:Zn K "str") (z15:Zn K "list") (z16:Zn K "reversed") (z17:Zn K "enumerate") (y1:Ki K "NoneType" "int" false) (y2:Ki K "NoneType" "bool" false) (y3:Ki K "NoneType" "str" false) (y4:Ki K "NoneType" "tuple" false) (y5:Ki K "bool" "int" true) (y6:Ki K "bool" "bool" true) (y7:Ki K "bool" "str" false) (y8:Ki K "bool" "tuple" false) (y9:Ki K "int" "int" true) (y10:Ki K "int" "bool" false) (y11:Ki K "int" "str" false) (y12:Ki K "int" "tuple" false) (y13:Ki K "str" "int" false) (y14:Ki K "str" "bool" false) (y15:Ki K "str" "str" true) (y16:Ki K "str" "tuple" false) (y17:Ki K "list" "int" false) (y18:Ki K "list" "bool" false) (y19:Ki K "list" "str" false) (y20:Ki K "list" "tuple" false) (y21:Ki K "tuple" "int" false) (y22:Ki K "tuple" "bool" false) (y23:Ki K "tuple" "str" false) (y24:Ki K "tuple" "tuple" true) (y25:Ki K "dict" "int" false) (y26:Ki K "dict" "bool" false) (y27:Ki K "dict" "str" false) (y28:Ki K "dict" "tuple" false) :
    ∃ fd:FuncData,(∀ (s:Shared) (v:Value),BindsTo s fd ⟨[v],[]⟩ [("_law_script", v)]) /\ ∀ base:Heap,K.In base->base.Ns mainGlobals mg->FnOk l.prog w K mg base CX0 7 fa fd ["_law_script"] (spF K 1 E3):=by
  let e:=hfa.symm.trans (PySem.W.mg_of X G g19.a);ext e;let kinds:Kinds K:=⟨by
    intro t T ht hT;simp only[AJ,Aw,Ay]at ht hT;rcases ht with rfl|rfl|rfl|rfl|rfl|rfl|rfl <;> rcases hT with rfl|rfl|rfl|rfl <;> assumption⟩
  letI T:Txt K mg:=⟨g1.df X G λ_ _ _ _ _ _=>F5 λ_=>rfl,g2.df X G λ_ _ _ _ _ _=>Fu λ_ _=>rfl,g3.df X G λ_ _ _ _ _ _=>Fu λ_ _=>rfl,g4.df X G λ_ _ _ _ _ _=>Fu λ_ _=>rfl,g5.df X G λ_ _ _ _ _ _=>JS λ_ _ _=>rfl,g6.df X G λ_ _ _ _ _ _=>Fu λ_ _=>rfl,g7.df X G λ_ _ _ _ _ _=>Fu λ_ _=>rfl,g8.df X G λ_ _ _ _ _ _=>F5 λ_=>rfl,g9.df X G λ_ _ _ _ _ _=>Fu λ_ _=>rfl,g10.df X G λ_ _ _ _ _ _=>jE λ_ _ _ _ _=>rfl,g11.df X G λ_ _ _ _ _ _=>JS λ_ _ _=>rfl,g12.df X G λ_ _ _ _ _ _=>F5 λ_=>rfl,g13.df X G λ_ _ _ _ _ _=>F5 λ_=>rfl,g14.df X G λ_ _ _ _ _ _=>JS λ_ _ _=>rfl,g15.df X G λ_ _ _ _ _ _=>F5 λ_=>rfl,g16.df X G λ_ _ _ _ _ _=>Fu λ_ _=>rfl,g17.df X G λ_ _ _ _ _ _=>F5 λ_=>rfl,g18.df X G λ_ _ _ _ _ _=>JS λ_ _ _=>rfl,g19.df X G λ_ _ _ _ _ _=>F5 λ_=>rfl,CG X G z1,CG X G z2,CG X G z3,CG X G z4,CG X G z5,CG X G z6,CG X G z7,CG X G z8,CG X G z9,CG X G z10,CG X G z11,CG X G z12,CG X G z13,CG X G z14,CG X G z15,CG X G z16,CG X G z17,kinds⟩;refine ⟨T.kW.fd,λs v=> .of_eq rfl,λbase _ _=>?_⟩;calc UN (P:=l.prog) (w:=w) (base:=base) T
def XS {l:PySem.W.OpenLaw} {q:Ym} {loose:Yk} {XP:(Str->Option Value)->Heap->Prop} {YP:World->Heap->Prop} {d:DefRec} {K:Params->PySem.W.Frag} (hn:l.most=some 63) (hdf:d.params.defaults=[])
    (hY:∀ (w:Yo) (h:Heap),YP w h->(K w.params).In h) (hL:∀ w:World,Js (K w.params)=true) (hT:∀ w:World,LV (K w.params)=true)
    (F:∀ (w:Yo) (mg:Yh) (fa:Yt) (h:Heap),(K w.params).In h->h.Ns mainGlobals mg->mg d.name=some (.ref fa) ->
      ∃ fd:FuncData,(∀ (s:Shared) (u:Value),BindsTo s fd ⟨[u],[]⟩ [("_law_script", u)]) /\ ∀ base:Heap,(K w.params).In base->base.Ns mainGlobals mg->FnOk l.prog w (K w.params) mg base CX0 7 fa fd ["_law_script"] (spF (K w.params) 1 E3)) :
    PySem.W.WalkO q loose XP YP l.row.toRowW d [] (λf vs=>PySem.call f vs) :=
  L2.ZU (n:=63) (k:=7) (x := "_law_script") (CX:=λ_=>CX0) (sp:=λw=>spF (K w.params) 1 E3) hn () hdf ⟨rfl,(),()⟩ hY F
    (λw H a ns hl hO hS=>dQ (hL w) (UC (hT w)) (UW hO) hS (YG ns hl)) λ_ _ _ _ _ z=>z
end Lac
end
open PySem PySem.W PyProof.Rows
set_option maxRecDepth 100000 in
set_option maxHeartbeats 0 in
theorem PySem.Challenge.cw_bringhome_k54_shown_beats_of_anything_holds : PySem.Challenge.rw_bringhome_k54_shown_beats_of_anything.Holds := by
  w_on;o_law;k_head;(case hw=>w_witness2);k_fill;refine Lac.XS (l:=PySem.Challenge.rw_bringhome_k54_shown_beats_of_anything) rfl rfl (λw h YY=>PySem.W.kIn_of YY) (λw=>by rfl) (λw=>by rfl) ?F
  case F=>
    intro w mg fa h KX G hmg;apply Lac.iX KX G hmg;all_goals first|exact ⟨_,by k_is,by k_is,by k_is,by k_is⟩|(erw[L3.Zn];k_is)|(erw[L3.Ki];kit_is)|k_is
