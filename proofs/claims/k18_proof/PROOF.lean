import PyProof.Rows.All
import Wide.All
import OpenK.AllK
import Wide.FinOn
import Lean
import PyProof.EqAt
import PyProof.EqKinds
import PyProof.TupleCall
import PyProof.NeKinds
import PyProof.ZipIter
import PyProof.ListRange
import PyProof.TupleOfSeq
import PyProof.ConsumeWalk
import PyProof.IsRules
import PyProof.SetKind
import PyProof.SetRoads
import PyProof.Rows.SetFrom
import PyProof.Draws
import PyProof.EnumMake
import PyProof.DictCompW
import PyProof.ListMulRoad
import PyProof.Rows.SeqMore2
import PyProof.WalkInts
import PyProof.DictRoadsH
import PyProof.DictItems
import KE.KDictList
import PyProof.Rows.Range3
import PySem.Challenge.RW_bringhome_k18_whole_told_is_shown
local macro_rules|`(tactic|omega)=>`(tactic|lia)
local macro_rules|`(command|def $i $s $v:declVal)=>`(command|noncomputable def $i $s $v:declVal)
local macro_rules|`(command|abbrev $i $s $v:declVal)=>`(command|noncomputable abbrev $i $s $v:declVal)
local macro_rules|`(~~~$x)=>`(by simpa using $x)
local macro_rules|`(⇑$x)=>`($(x).heap.objs.size)
local macro_rules|`(tactic|∎)=>`(tactic|constructor<;>first|rfl|decide+kernel)
local macro_rules|`(tactic|calc $x:term)=>`(tactic|refine $x)
local macro_rules|`(tactic|ext $x:ident)=>`(tactic|cases $x:ident)
local macro_rules|`(tactic|cbv at $x:ident)=>`(tactic|split at $x:ident)
local macro_rules|`(tactic|erw[$a,*]$[at $h:ident]?)=>let a:=a.getElems.map λx=>(⟨x.raw[1]⟩:Lean.Ident);`(tactic|unfold $a* $[at $h:ident]?)
local macro_rules|`(tactic|let $d:letDecl)=>`(tactic|have $d:letDecl)
local macro_rules|`(tactic|let⟨$a,*⟩:=$t)=>do let q←(List.range 9).foldl (λr _ (x:Lean.Term)=>match x with|`(⟨$a,*⟩)=>do let b←a.getElems.mapM r;`(rcasesPat|⟨$[$b:rcasesPat],*⟩)|`($i:ident)=>`(rcasesPat|$i:ident)|_=>`(rcasesPat|_)) (λ_=>`(rcasesPat|_)) (←`(⟨$a,*⟩));`(tactic|obtain $q:rcasesPat:=$t)
local macro_rules|`(())=>`(by first|decide|omega)
theorem qz {p:Prop} (h:¬p->False):p:=Classical.byContradiction h
section
open PySem
abbrev Ya:=List (List Int)
abbrev Yb:=W.Frag
abbrev Yc:=Value->Shared->Prop
abbrev Yd:=List (Addr × Obj)
abbrev Ye:=List Int
abbrev Yf:=List Value
abbrev Yg:=List Addr
abbrev Yh:=Str->Option Value
abbrev Yi:=List Expr
abbrev Yj:=List Nat
abbrev Yk:=List Str
abbrev Yl:=Shared
abbrev Ym:=Program
abbrev Yn:=Around
abbrev Yo:=World
abbrev Yp:=Array Value
abbrev Yq:=List Int->Prop
abbrev Yr:=Value->Nat
abbrev Ys:=Option Int
abbrev Yt:=Addr
abbrev Yu:=Value
abbrev Yv:=List (Str × Addr)
abbrev Yw:=Array (Int × Value)
abbrev Yx:=Result->Shared->Prop
abbrev Yy:=List Stmt
abbrev Yz:=FuncData
abbrev Y0:=Scope
abbrev Y1:=List Int->List (List Int)
abbrev Y2:=Value->Value->Sem Value
end
structure PySem.W.Fast:Prop where(tw14203610943350773276 tw3799759972227490145 tw12157780201111271088 tw11952977974788660577 tw10818571883132978683 tw15301951713307354681 tw8620176031671588662 tw2173803497765739851 tw3253023983518495325 tw2029013639884533470 tw934315728401267858 tw11140936799679923968 tw11887729596573557065 tw8059424080622283584 tw695144001432751638 tw35454990252361866 tw13233518587175549521 tw11348095570663040173 tw2915029891775340917 tw16566332451856378087 tw3787961663171008650 tw14391087700762671465 tw15053852166751948696 tw8488739757633276778 tw828607891894663917 tw14952215546410696057 tw13588956019011640735 tw2791945586368005571 tw16904605521212344757 tw9366350738073544880 tw11802228356801727009 tw9597867496735170538 tw6297296941084277227 tw7861590123006730648 tw7668935589706693133 tw17853725338547940008 tw7884818043523231782 tw2365489087604930115 tw8457006004423924443 tw17634766201883208320 tw17902688891265866022 tw14577820251360998981 tw17033870745544431895 tw7207143740073101534 tw8234343072693906340 tw5882642238732211024 tw5842111973174355418 tw13457174733455477096 tw9416697800766525004 tw13562038074860084456 tw4197085699368971232 tw11949898256120773302 tw15164302870096541527 tw8199158538678937095 tw9569689342047402641 tw1790651673612723765 tw5820957863579753796 tw12311601733708822275 tw2016697902832750131 tw6903599083480224403 tw3429430028687942667 tw11090341522869854187 tw3363358693750027133 tw14266399821456553076 tw16965981550526209916 tw3034359567534150788 tw16732509609753313740 tw289488048783467656 tw18423659135551335857 tw18023994197388555594 tw17068949462763417908 tw15468689900339349801 tw7098518171389986807 tw5406485151671390460 tw15146742227042728535 tw10361656284630830873 tw15500641386327654167 tw2073697690296809901 tw14972748268617981743 tw7263196045967276980 tw12170612202122021881 tw2731174120815987545 tw16981589730044796311 tw16297949998408908364 tw12059035602679838865 tw7913370458057554508 tw6527211734102150974 tw4136205466377565334 tw13784147928080752134 tw15153622203851056209 tw14133963937572800014 tw357372756505297289 tw16731358461327962045 tw9905670447130459330 tw15678288605004556063 tw16010298410080429010 tw4696380170217430653 tw10626650411402435282 tw15494045361700332036 tw3427098409223174406 tw7617360586193430115 tw5365714199372422446 tw3318238175274446827 tw4498428652623338708 tw7464635107017870749 tw17705430806778563785 tw12573141307094477105 tw5098185085978696270 tw4175481599099213607 tw6156543647982840787 tw7184141755238100822 tw12237520667058794527 tw5455395157446716366 tw15784600875744444810 tw5198353273402710339 tw5393641603042807177 tw6654811549818010114 tw10172897296663797637 tw12972318261615825707 tw598669476396454135 tw15068993428185350589 tw1984437793882343860 tw5955094034110642852 tw4896879821575715488 tw10906641259113643978 tw5543590874480109792 tw1101840419424309276 tw2756132636994236595 tw10110309882664453383 tw15334755999905571427 tw10307491881915625083 tw1392614734026040167 tw1869362846378687822 tw15533880636468347194 tw10490667247630071705 tw16234110324713274068 tw16596114934820963303 tw9391232747229473274 tw5318794169487309847 tw7321610150971821229 tw9455992322084975139 tw14016466252738116985 tw13873280058399599974 tw4070089527929031 tw9446191555116261459 tw10754615889798893226 tw15765485190120194668 tw1026797542064662140 tw8529503421261815897 tw12949602018119486 tw9816826547415925832 tw12362144763271275672:True)
section
open PySem PySem.Spec PyProof.Rows
def AA:type_of% @wpAny_bind:=@wpAny_bind
def AG:type_of% @Heap.get?_push_of_some:=@Heap.get?_push_of_some
def AB:type_of% @wpAny_pure:=@wpAny_pure
def AK:type_of% @List.getElem?_eq_some_iff:=@List.getElem?_eq_some_iff
def AL:type_of% @List.getElem?_eq_getElem:=@List.getElem?_eq_getElem
def DU:type_of% @List.getD_eq_getElem?_getD:=@List.getD_eq_getElem?_getD
def AF:type_of% @Nat.le_refl:=@Nat.le_refl
def AY:type_of% @List.getElem?_append_left:=@List.getElem?_append_left
def AU:type_of% @List.size_toArray:=@List.size_toArray
def AI:type_of% @List.length_map:=@List.length_map
def AM:type_of% @Heap.get?_push_size:=@Heap.get?_push_size
def AH:type_of% @Heap.lt_size:=@Heap.lt_size
def AJ:type_of% @List.mem_cons:=@List.mem_cons
def Aq:type_of% @List.mem_cons_of_mem:=@List.mem_cons_of_mem
def AZ:type_of% @List.mem_cons_self:=@List.mem_cons_self
def AD:type_of% @if_pos:=@if_pos
def AW:type_of% @List.length_append:=@List.length_append
def Ak:type_of% @List.mem_map:=@List.mem_map
def AE:type_of% @if_neg:=@if_neg
def Af:type_of% @List.map_cons:=@List.map_cons
def Ax:type_of% @List.mem_append_right:=@List.mem_append_right
def Ad:type_of% @Nat.ne_of_lt:=@Nat.ne_of_lt
def Ab:type_of% @Bool.false_ne_true:=@Bool.false_ne_true
def Ac:type_of% @List.getElem?_map:=@List.getElem?_map
def BH:type_of% @List.map_map:=@List.map_map
def A0:type_of% @Nat.lt_of_lt_of_le:=@Nat.lt_of_lt_of_le
def AO:type_of% @List.mem_append:=@List.mem_append
def Ar:type_of% @Nat.le_trans:=@Nat.le_trans
def AR:type_of% @List.mem_singleton:=@List.mem_singleton
def BI:type_of% @wpAny_newObj_type:=@wpAny_newObj_type
def A6:type_of% @List.getElem?_set_ne:=@List.getElem?_set_ne
def CN:type_of% @List.not_mem_nil:=@List.not_mem_nil
def AX:type_of% @wpAny_mono:=@wpAny_mono
def B4:type_of% @List.length_cons:=@List.length_cons
def BF:type_of% @List.getElem_mem:=@List.getElem_mem
def Aa:type_of% @decide_eq_false:=@decide_eq_false
def Au:type_of% @Bool.and_eq_true:=@Bool.and_eq_true
def Aj:type_of% @List.all_eq_true:=@List.all_eq_true
def CG:type_of% @wpAny_callSpecial?_slot:=@wpAny_callSpecial?_slot
def BQ:type_of% @wpAny_call_entry:=@wpAny_call_entry
def Ey:type_of% @List.mem_range:=@List.mem_range
def Bg:type_of% @wpAny_field:=@wpAny_field
def CF:type_of% @Heap.size_push:=@Heap.size_push
def EF:type_of% @Heap.get?_update_other:=@Heap.get?_update_other
def BY:type_of% @Nat.lt_irrefl:=@Nat.lt_irrefl
def BM:type_of% @Array.length_toList:=@Array.length_toList
def CU:type_of% @List.append_nil:=@List.append_nil
def Co:type_of% @Array.getElem?_eq_getElem:=@Array.getElem?_eq_getElem
def Bv:type_of% @Nat.zero_le:=@Nat.zero_le
def EN:type_of% @Heap.get?_update_self:=@Heap.get?_update_self
def ER:type_of% @Nat.lt_succ_of_lt:=@Nat.lt_succ_of_lt
def D7:type_of% @wpAny_seqItems:=@wpAny_seqItems
def BD:type_of% @List.mem_of_getElem?:=@List.mem_of_getElem?
def Cg:type_of% @List.map_append:=@List.map_append
def CD:type_of% @wpAny_holding:=@wpAny_holding
def CO:type_of% @List.getElem?_set_self:=@List.getElem?_set_self
def Fy:type_of% @Around.under_plainId:=@Around.under_plainId
def CZ:type_of% @of_decide_eq_true:=@of_decide_eq_true
def Ek:type_of% @Nat.lt_succ_self:=@Nat.lt_succ_self
def C3:type_of% @wpAny_standAt:=@wpAny_standAt
def C8:type_of% @PySem.W.mg_none_of:=@PySem.W.mg_none_of
def Bh:type_of% @Option.some.inj:=@Option.some.inj
def C0:type_of% @Bool.false_eq_true:=@Bool.false_eq_true
def B8:type_of% @PySem.mem_of_lookup:=@PySem.mem_of_lookup
def Cy:type_of% @Heap.SameBut.update:=@Heap.SameBut.update
def Cb:type_of% @List.cons.inj:=@List.cons.inj
def Ez:type_of% @codeAny_builtin:=@codeAny_builtin
def B7:type_of% @List.append_assoc:=@List.append_assoc
def Ap:type_of% @decide_eq_true:=@decide_eq_true
def E4:type_of% @List.getElem?_eq_none:=@List.getElem?_eq_none
def CQ:type_of% @List.getElem?_append_right:=@List.getElem?_append_right
def E3:type_of% @wpAny_truthy_bool:=@wpAny_truthy_bool
def DD:type_of% @decide_eq_true_eq:=@decide_eq_true_eq
def EG:type_of% @List.nodup_append:=@List.nodup_append
def Cm:type_of% @List.mem_append_left:=@List.mem_append_left
def Dr:type_of% @wpAny_setField_rec:=@wpAny_setField_rec
def Dx:type_of% @Obj.data_mapFields:=@Obj.data_mapFields
def GI:type_of% @List.replicate_succ:=@List.replicate_succ
def Cw:type_of% @Nat.lt_or_ge:=@Nat.lt_or_ge
def Bx:type_of% @wpAny_rule:=@wpAny_rule
def Bp:type_of% @List.length_take:=@List.length_take
def DV:type_of% @List.length_nil:=@List.length_nil
def Cz:type_of% @Nat.ne_of_gt:=@Nat.ne_of_gt
def Gq:type_of% @List.take_of_length_le:=@List.take_of_length_le
def Gu:type_of% @PyProof.Rows.slot_tuple_getitem:=@PyProof.Rows.slot_tuple_getitem
def FC:type_of% @List.getElem?_set:=@List.getElem?_set
def DM:type_of% @wpAny_attempt:=@wpAny_attempt
def Dl:type_of% @PySem.W.kia_one:=@PySem.W.kia_one
def BZ:type_of% @Array.getElem?_toList:=@Array.getElem?_toList
def Dt:type_of% @wpAny_setField:=@wpAny_setField
def EZ:type_of% @List.find?_cons:=@List.find?_cons
def Bo:type_of% @congrArg:=@congrArg
def E6:type_of% @Int.emod_lt_of_pos:=@Int.emod_lt_of_pos
def D6:type_of% @List.flatten_cons:=@List.flatten_cons
def F3:type_of% @List.length_eq_zero_iff:=@List.length_eq_zero_iff
def ET:type_of% @List.getElem_of_mem:=@List.getElem_of_mem
def D5:type_of% @List.lookup_cons:=@List.lookup_cons
def CV:type_of% @List.pairwise_cons:=@List.pairwise_cons
def Cf:type_of% @List.length_set:=@List.length_set
def Ex:type_of% @Bool.eq_iff_iff:=@Bool.eq_iff_iff
def Bt:type_of% @Int.toNat_natCast:=@Int.toNat_natCast
def Ep:type_of% @List.take_append_drop:=@List.take_append_drop
def Ce:type_of% @Nat.le_of_lt:=@Nat.le_of_lt
def Eb:type_of% @List.length_singleton:=@List.length_singleton
def Fj:type_of% @List.any_eq_true:=@List.any_eq_true
end
set_option Elab.async false
set_option linter.all false
set_option maxRecDepth 100000
set_option genSizeOf false
set_option genInjectivity false
set_option compiler.extract_closed false
noncomputable section
section
open PySem PySem.Spec PyProof.Rows
namespace L2
abbrev Key:=Sum Int Str
def GZ:Key->Value->Bool
 |.inl k,v=>Value.isInt k v
 |.inr x,v=>Value.isStrOf x v
def X5 (w:Yo):Key->Int
 |.inl k=>hashInt k
 |.inr x=>hashStr w x
def Eu:∀ {k:Key} {v:Yu},GZ k v=true->(∃ i t,k=Sum.inl i/\v=Value.int i t)\/(∃ x t,k=Sum.inr x/\v=Value.str x t)
 |.inl i,v,h=>by
  let⟨t,e⟩:=Value.isInt_shape (k:=i) (v:=v) h;calc .inl ⟨i,t,rfl,e⟩
 |.inr x,v,h=>by
  let⟨t,e⟩:=Value.isStrOf_shape (x:=x) (v:=v) h;calc .inr ⟨x,t,rfl,e⟩
def aG (i:Int) (t:Tok):GZ (.inl i) (.int i t)=true:=by simp[GZ,Value.isInt]
def ZI (x:Str) (t:Tok):GZ (.inr x) (.str x t)=true:=by simp[GZ,Value.isStrOf]
def jD (a b:Int):decide ((Sum.inl a:Key)=Sum.inl b)=(a==b):=by
 by_cases e:a=b
 .subst e;simp
 .have h:¬ (Sum.inl a:Key)=Sum.inl b:=λq=>e (Sum.inl.inj q);rw[Aa h];calc (beq_eq_false_iff_ne.mpr e).symm
def dC (a b:Str):decide ((Sum.inr a:Key)=Sum.inr b)=decide (a=b):=by
 by_cases e:a=b
 .subst e;simp
 .have h:¬ (Sum.inr a:Key)=Sum.inr b:=λq=>e (Sum.inr.inj q);rw[Aa h,Aa e]
def aA (a:Int) (b:Str):decide ((Sum.inl a:Key)=Sum.inr b)=false:=Aa (λq=>nomatch q)
def Za (a:Str) (b:Int):decide ((Sum.inr a:Key)=Sum.inl b)=false:=Aa (λq=>nomatch q)
def Bl (prog:Ym) (w:Yo):PySem.KeyKind prog w Key where
 is:=GZ
 hash:=X5 w
 inj:=λv a b ha hb=>by
  rcases Eu ha with ⟨i,t,rfl,rfl⟩|⟨x,t,rfl,rfl⟩
  .rcases Eu hb with ⟨j,u,rfl,e⟩|⟨y,u,rfl,e⟩
   .injection e with e1 _;rw[e1]
   .exact nomatch e
  .rcases Eu hb with ⟨j,u,rfl,e⟩|⟨y,u,rfl,e⟩
   .exact nomatch e
   .injection e with e1 _;rw[e1]
 byValue:=λk v h=>by
  rcases Eu h with ⟨i,t,rfl,rfl⟩|⟨x,t,rfl,rfl⟩ <;> rfl
 pyHash:=λhv h=>by
  rcases Eu hv with ⟨i,t,rfl,rfl⟩|⟨x,t,rfl,rfl⟩
  .exact wpAny_pyHash_int h
  .exact wpAny_pyHash_str h
 eqBool:=λhu hv h=>by
  rcases Eu hu with ⟨i,t,rfl,rfl⟩|⟨x,t,rfl,rfl⟩
  .rcases Eu hv with ⟨j,u,rfl,rfl⟩|⟨y,u,rfl,rfl⟩
   .rw[jD]at h;exact wpAny_eqBool_int h
   .rw[aA]at h;exact SeqAt.EqAt.int_str i t y u _ _ _ _ h
  .rcases Eu hv with ⟨j,u,rfl,rfl⟩|⟨y,u,rfl,rfl⟩
   .rw[Za]at h;exact SeqAt.EqAt.str_int x t j u _ _ _ _ h
   .rw[dC]at h;exact wpAny_eqBool_str h
 «strs»:=λk x t v h=>by
  rcases Eu h with ⟨i,u,rfl,e⟩|⟨y,u,rfl,e⟩
  .exact nomatch e
  .injection e with e1 _
   subst e1
   cases v <;> rfl
def Ww (prog:Ym) (w:Yo) (i:Int) (t:Tok):(Bl prog w).is (.inl i) (.int i t)=true:=aG i t
def TV (prog:Ym) (w:Yo) (x:Str) (t:Tok):(Bl prog w).is (.inr x) (.str x t)=true:=ZI x t
set_option genInjectivity true in
inductive V where
 |non|bl (b:Bool)|int (i:Int)|str (x:Str)|byt (b:Array UInt8)|flt (b:UInt64)|ref (a:Yt)|ty (n:String)
 deriving DecidableEq
def zk:V->Value->Prop
 |.non,u=>u=Value.none
 |.bl b,u=>u=Value.bool b
 |.int i,u=>∃ t,u=Value.int i t
 |.str x,u=>∃ t,u=Value.str x t
 |.byt b,u=>∃ t,u=Value.bytes b t
 |.flt b,u=>∃ t,u=Value.float b t
 |.ref a,u=>u=Value.ref a
 |.ty n,u=>u=Value.type n
abbrev za:List V->List Value->Prop:=Paired zk
def za.length {xs:List V} {us:Yf} (r:za xs us):xs.length=us.length:=Paired.length r
def za.get:∀ {xs:List V} {us:Yf} {i:Nat} {x:V},za xs us->xs[i]?=some x -> ∃ u,us[i]?=some u/\zk x u
 |_,_,_,_,.nil,e=>by simp at e
 |_,_,0,_,.cons r _,e=>by simp at e;subst e;calc ⟨_,rfl,r⟩
 |_,_,i+1,x,.cons _ t,e=>by
  let⟨u,h1,h2⟩:=za.get (i:=i) (x:=x) t (~~~e);calc ⟨u,by simpa using h1,h2⟩
def za.set {x:V} {u:Yu} (r:zk x u):∀ {xs:List V} {us:Yf} (i:Nat),za xs us->za (xs.set i x) (us.set i u)
 |_,_,_,.nil=> .nil
 |_,_,0,.cons _ t=> .cons r t
 |_,_,i+1,.cons q t=> .cons q (za.set r i t)
def za.append:∀ {xs ys:List V} {us ws:Yf},za xs us->za ys ws->za (xs++ys) (us++ws)
 |_,_,_,_,.nil,s=>s
 |_,_,_,_,.cons r t,s=> .cons r (za.append t s)
def za.take:∀ {xs:List V} {us:Yf} (n:Nat),za xs us->za (xs.take n) (us.take n)
 |_,_,0,_=> .nil
 |_,_,_+1,.nil=> .nil
 |_,_,n+1,.cons r t=> .cons r (za.take n t)
def za.drop:∀ {xs:List V} {us:Yf} (n:Nat),za xs us->za (xs.drop n) (us.drop n)
 |_,_,0,r=>r
 |_,_,_+1,.nil=> .nil
 |_,_,n+1,.cons _ t=>za.drop n t
def Ds:Option V->Option Value->Prop
 |some v,some u=>zk v u
 |none,none=>True
 |_,_=>False
def KV {κ:Type}:List (κ × V)->List (κ × Value)->Prop:=Paired λ(p:κ × V) (q:κ × Value)=>p.1=q.1/\zk p.2 q.2
def kV:Key->V
 |.inl i=> .int i
 |.inr x=> .str x
set_option genInjectivity true in
inductive HO where
 |lst (xs:List V)
 |tup (xs:List V)
 |dK (kvs:List (Key × V))|dT (kvs:List (List Key × V))
 |set (S:Int->Bool) (n:Nat)
 |ins (C dx:Yt) (fs:List (Str × V))
 |own (x:Yt)
 |xd (fs:List (Str × V))
 |met (f x:Yt)
 |rng (lo hi:Int)
 |frz (o:Obj) (u:HO)
 |tbl (ps:Yp)
 |ext (φ:Heap->Prop)
abbrev Hp:=Addr->Option HO
def upd (H:Hp) (a:Yt) (o:HO):Hp:=λb=>if b=a then some o else H b
def zp {H:Hp} {a:Yt} {o:HO}:upd H a o a=some o:=by erw[upd];rw[AD rfl]
def zU {H:Hp} {a b:Yt} {o:HO} (h:b≠a):upd H a o b=H b:=by erw[upd];rw[AE h]
def DT {H:Hp} {a b:Yt} {o u:HO} (h:H a=some o) (h':H b=some u) (d:o≠u):a≠b:=by
 intro e;subst e;rw[h]at h';calc d (Bh h')
def zm {H:Hp} {a b:Yt} {o:HO} (h:H a=some o) (h':H b=none):a≠b:=by
 intro e;subst e;rw[h]at h';ext h'
def DW (h:Heap) (a:Addr) (items:Array Value):Prop:=∃ o,h.get? a=some o/\o.cls=.type "tuple" /\ (∃ n,o.data=.seq items n)/\o.dict=none
def DW.tup {h:Heap} {a:Yt} {items:Yp} (x:DW h a items):IsTup h a items:=let ⟨o,e,c,d,_⟩:=x;⟨o,e,c,d⟩
def DW.lt {h:Heap} {a:Yt} {items:Yp} (x:DW h a items):a<h.objs.size:=let ⟨_,e,_⟩:=x;AH e
def DW.new (h:Heap) (items:Array Value):DW (h.push { cls:=.type "tuple", data:=.seq items }) h.objs.size items:=⟨_,AM _ rfl,rfl,⟨_,rfl⟩,rfl⟩
section
variable (P:Ym) (w:Yo)
def Ag (H:Hp) (h:Heap) (a:Yt):HO->Prop
 |.lst xs=>xs.length<=sizeLine /\ ∃ (its:List Value) (n:Nat),za xs its/\h.get? a=some { cls:=.type "list", data:=.seq its.toArray n }
 |.tup xs=>xs.length<=sizeLine /\ ∃ its:List Value,za xs its/\DW h a its.toArray
 |.dK kvs=>kvs.length<=sizeLine/\(a==sysModules)=false /\ ∃ vs,KV kvs vs/\h.DictOf (Bl P w) a vs
 |.dT kvs=>kvs.length<=sizeLine/\(a==sysModules)=false /\ ∃ xs:List (List Key × Addr × Value),
   Paired (λ(p:List Key × V) (q:List Key × Addr × Value)=>p.1=q.1/\H q.2.1=some (.tup (p.1.map kV))/\zk p.2 q.2.2) kvs xs /\
   ∃ o es ep,h.get? a=some o/\o.ExactDict/\o.data=.dict es ep/\es.toList=xs.map (entryOfKey (tupleKind (Bl P w)))/\(xs.map (·.1)).Nodup
 |.set S n=>h.SetOf (intKind P w) a S n
 |.ins C dx fs=>H dx=some (.own a)/\fs.length<=1000/\dx≠a/\h.get? a=some (PySem.W.instObj C dx) /\
   ∃ mA,h.Ns1 dx mA/\(∀ f,Ds (fs.lookup f) (mA f))/\PySem.Within mA (fs.map (·.1))
 |.own _=>∃ o,h.get? a=some o
 |.xd fs=>∃ mA,h.Ns1 a mA /\ ∀ f,Ds (fs.lookup f) (mA f)
 |.rng lo hi=>∃ t u v,h.get? a=some { cls:=.type "range", data:=.fields #[.int lo t,.int hi u,.int 1 v] }
 |.frz o u=>h.get? a=some o/\Ag H h a u
 |.tbl ps=>h.get? a=some { cls:=.none,data:=.fields ps }
 |.met f x=>h.get? a=some (PySem.W.methodObj (.ref f) (.ref x))
 |.ext φ=>φ h/\(∃ o,h.get? a=some o) /\ ∀ h1 h2:Heap,φ h1->(∀ o,h1.get? a=some o->h2.get? a=some o)->φ h2
def HOk (H:Hp) (h:Heap):Prop:=∀ a o,H a=some o->Ag P w H h a o
end
section
variable {P:Ym} {w:Yo} {H H':Hp} {h h':Heap} {a:Yt} {o:HO}
def Ag.lt (x:Ag P w H h a o):a<h.objs.size:=by
 cases o with
 |lst xs=>let⟨_,_,_,_,e⟩:=x;calc AH e
 |tup xs=>let⟨_,_,_,p⟩:=x;calc p.lt
 |dK kvs=>let⟨_,_,_,_,o,_,_,e,_⟩:=x;calc AH e
 |dT kvs=>let⟨_,_,_,_,o,_,_,e,_⟩:=x;calc AH e
 |set S n=>let⟨o,_,_,_,e,_⟩:=x;calc AH e
 |ins C dx fs=>let⟨_,_,_,e,_⟩:=x;calc AH e
 |own y=>let⟨_,e⟩:=x;calc AH e
 |xd fs=>let⟨_,⟨_,_,_,e,_⟩,_⟩:=x;calc AH e
 |rng lo hi=>let⟨_,_,_,e⟩:=x;calc AH e
 |frz ob u=>let⟨e,_⟩:=x;calc AH e
 |tbl ps=>calc AH (show h.get? a=some _ from x)
 |met f y=>calc AH (show h.get? a=some _ from x)
 |ext φ=>let⟨_,⟨_,e⟩,_⟩:=x;calc AH e
def Paired.mapP {α β:Type} {F G:α->β->Prop}:∀ {l₁:List α} {l₂:List β},Paired F l₁ l₂->(∀ a b,F a b->G a b)->Paired G l₁ l₂
 |_,_,.nil,_=> .nil
 |_,_,.cons r t,f=> .cons (f _ _ r) (Paired.mapP t f)
def Ag.stay (x:Ag P w H h a o) (k:∀ b u,(b=a\/H b=some (.own a))->h.get? b=some u->h'.get? b=some u)
  (ho:∀ b,H b=some (.own a)->H' b=some (.own a)) (ht:∀ b xs,H b=some (.tup xs)->H' b=some (.tup xs)):Ag P w H' h' a o:=by
 induction o with
 |lst xs=>let⟨z,its,n,r,e⟩:=x;calc ⟨z,its,n,r,k _ _ (.inl rfl) e⟩
 |tup xs=>let⟨z,its,r,ob,e,c⟩:=x;calc ⟨z,its,r,ob,k _ _ (.inl rfl) e,c⟩
 |dK kvs=>let⟨z,y,vs,r,ob,es,ep,e,c⟩:=x;calc ⟨z,y,vs,r,ob,es,ep,k _ _ (.inl rfl) e,c⟩
 |dT kvs=>
  let⟨z,y,xs,r,ob,es,ep,e,c⟩:=x;exact ⟨z,y,xs,Paired.mapP r λp q z=>⟨z.1,ht _ _ z.2.1,z.2.2⟩,ob,es,ep,k _ _ (.inl rfl) e,c⟩
 |set S n=>let⟨ob,es,ep,t,e,c⟩:=x;calc ⟨ob,es,ep,t,k _ _ (.inl rfl) e,c⟩
 |ins C dx fs=>
  let⟨d,z,ne,e,mA,⟨od,es,ep,e2,c⟩,r⟩:=x;calc ⟨ho _ d,z,ne,k _ _ (.inl rfl) e,mA,⟨od,es,ep,k _ _ (.inr d) e2,c⟩,r⟩
 |own y=>let⟨ob,e⟩:=x;calc ⟨ob,k _ _ (.inl rfl) e⟩
 |xd fs=>let⟨mA,⟨od,es,ep,e,c⟩,r⟩:=x;calc ⟨mA,⟨od,es,ep,k _ _ (.inl rfl) e,c⟩,r⟩
 |rng lo hi=>let⟨t,u,v,e⟩:=x;calc ⟨t,u,v,k _ _ (.inl rfl) e⟩
 |frz ob u ih=>let⟨e,q⟩:=x;calc ⟨k _ _ (.inl rfl) e,ih q⟩
 |tbl ps=>
  let e:h.get? a=some { cls:=.none,data:=.fields ps }:=x;show h'.get? a=some { cls:=.none,data:=.fields ps };calc k a _ (.inl rfl) e
 |met f y=>
  let e:h.get? a=some (PySem.W.methodObj (.ref f) (.ref y)):=x;show h'.get? a=some (PySem.W.methodObj (.ref f) (.ref y));calc k a _ (.inl rfl) e
 |ext φ=>let⟨p,⟨o,e⟩,st⟩:=x;calc ⟨st _ _ p λo q=>k _ _ (.inl rfl) q,⟨o,k _ _ (.inl rfl) e⟩,st⟩
def HOk.lt (x:HOk P w H h) (e:H a=some o):a<h.objs.size:=(x a o e).lt
def HOk.fresh (x:HOk P w H h) (e:h.objs.size<=a):H a=none:=by
 cases q:H a with
 |none=>rfl
 |some u=>calc absurd (A0 (x.lt q) e) (BY _)
def HOk.kept (x:HOk P w H h) (k:∀ b u,h.get? b=some u->h'.get? b=some u):HOk P w H h':=λa o e=>
 (x a o e).stay (λb u _ q=>k b u q) (λ_ q=>q) λ_ _ q=>q
def HOk.laid (x:HOk P w H h) (k:∀ b u,h.get? b=some u->h'.get? b=some u) (hp:h.objs.size<=a) (new:Ag P w (upd H a o) h' a o):HOk P w (upd H a o) h':=λb u e=>by
 let hn:=x.fresh hp;by_cases hb:b=a
 .subst hb;rw[zp]at e;ext e;exact new
 .rw[zU hb]at e;exact (x b u e).stay (λc v _ q=>k c v q) (λc q=>by rw[zU (zm q hn)];calc q) λc xs q=>by rw[zU (zm q hn)];calc q
end
def Rd (H:Hp) (a:Yt) (u:HO):Prop:=H a=some u \/ ∃ o,H a=some (.frz o u)
def Rd.ok {P:Ym} {w:Yo} {H:Hp} {h:Heap} {a:Yt} {u:HO} (r:Rd H a u) (x:HOk P w H h):Ag P w H h a u:=by
 rcases r with r|⟨o,r⟩
 .exact x a u r
 .obtain ⟨_,q⟩:=x a _ r;calc q
def Mut:Option HO->Prop
 |some (.lst _)=>True
 |some (.dK _)=>True
 |some (.dT _)=>True
 |some (.set _ _)=>True
 |some (.ins _ _ _)=>True
 |some (.ext _)=>True
 |_=>False
section
variable {P:Ym} {w:Yo} {H:Hp} {h h':Heap} {x e:Yt} {o':HO}
def HOk.write (ok:HOk P w H h) (mu:Mut (H x)) (he:e=x\/H e=some (.own x)) (k:∀ b u,b≠e->h.get? b=some u->h'.get? b=some u) (heo:∃ u,h'.get? e=some u)
  (new:Ag P w (upd H x o') h' x o'):HOk P w (upd H x o') h':=λb u q=>by
 let nown:∀ c y,H c=some (.own y)->c≠x:=λc y r z=>by subst z;rw[r]at mu;exact mu
 let ntup:∀ c xs,H c=some (.tup xs)->c≠x:=λc xs r z=>by subst z;rw[r]at mu;exact mu
 by_cases hb:b=x
 .subst hb;rw[zp]at q;ext q;exact new
 .rw[zU hb]at q;by_cases hbe:b=e
  .have q':H b=some (.own x):=by
    rcases he with z|z
    .exact absurd (hbe.trans z) hb
    .rw[hbe];exact z
   rw[q]at q';ext q';let⟨v,hv⟩:=heo;exact ⟨v,by rw[hbe];calc hv⟩
  .refine (ok b u q).stay (λc v hc r=>k c v ?_ r) (λc r=>by rw[zU (nown c b r)];exact r) λc xs r=>by rw[zU (ntup c xs r)];exact r
   rcases hc with rfl|hc
   .exact hbe
   .rintro rfl;rcases he with z|z
    .exact nown c b hc z
    .rw[hc]at z;ext z;calc hb rfl
end
structure Un (fs ex:Yg) (H H':Hp) (h h':Heap):Prop where
 keep:∀ b o,h.get? b=some o->H b=none->b∉fs->b∉ex->h'.get? b=some o
 slot:∀ b o,h.get? b=some o->H b=none->b∈fs->b∉ex -> ∃ sl,h'.get? b=some { o with slots:=sl }
 free:∀ b o,h.get? b=some o->H b=none->b∉ex->H' b=none
 there:∀ b o,h.get? b=some o->b∉ex -> ∃ o',h'.get? b=some o'
 tups:∀ b xs,H b=some (.tup xs)->H' b=some (.tup xs)
 frzs:∀ b o u,H b=some (.frz o u)->H' b=some (.frz o u)
 tbls:∀ b ps,H b=some (.tbl ps) -> ∃ more,H' b=some (.tbl (ps++more))
section
variable {fs fs' ex ex':Yg} {H H1 H2:Hp} {h h1 h2 h':Heap} {a x e:Yt} {o:HO}
def Un.any (u:Un fs ex H H1 h h1) {b:Yt} {ob:Obj} (q:h.get? b=some ob) (n:H b=none) (hx:b∉ex):∃ sl,h1.get? b=some { ob with slots:=sl }:=by
 by_cases hb:b∈fs
 .exact u.slot b ob q n hb hx
 .exact ⟨ob.slots,u.keep b ob q n hb hx⟩
def Un.kept (k:∀ b u,h.get? b=some u->h'.get? b=some u):Un fs ex H H h h' :=
 ⟨λb ob q _ _ _=>k b ob q,λb ob q _ _ _=>⟨ob.slots,k b ob q⟩,λ_ _ _ n _=>n,λb ob q _=>⟨ob,k b ob q⟩,λ_ _ q=>q,λ_ _ _ q=>q,λ_ ps q=>⟨#[],by rw[q];simp⟩⟩
def Un.refl:Un fs ex H H h h:=Un.kept λ_ _ q=>q
def Un.laid (k:∀ b u,h.get? b=some u->h'.get? b=some u) (hp:h.objs.size<=a) (hn:H a=none):Un fs ex H (upd H a o) h h' where
 keep:=λb u q _ _ _=>k b u q;slot:=λb u q _ _ _=>⟨u.slots,k b u q⟩;free:=λb u q n _=>by rw[zU (Ad (A0 (AH q) hp))];exact n
 there:=λb u q _=>⟨u,k b u q⟩;tups:=λb xs q=>by rw[zU (zm q hn)];exact q
 frzs:=λb u xs q=>by rw[zU (zm q hn)];exact q
 tbls:=λb ps q=>⟨#[],by rw[zU (zm q hn),q];simp⟩
def Un.write (mu:Mut (H x)) (he:e=x\/H e=some (.own x)) (k:∀ b u,b≠e->h.get? b=some u->h'.get? b=some u) (heo:∃ u,h'.get? e=some u):Un fs ex H (upd H x o) h h':=by
 let hx:∀ b,H b=none->b≠x:=λb n z=>by subst z;rw[n]at mu;exact mu
 let hb:∀ b,H b=none->b≠e:=λb n z=>by
  subst z;rcases he with r|r
  .exact hx b n r
  .rw[n]at r;ext r
 let hm:∀ b u,H b=some u -> ¬ Mut (some u)->b≠x:=λb u q nm z=>by subst z;rw[q]at mu;exact nm mu
 refine ⟨λb u q n _ _=>k b u (hb b n) q,λb u q n _ _=>⟨u.slots,k b u (hb b n) q⟩,λb u q n _=>by rw[zU (hx b n)];exact n,λb u q _=>?_,
  λb xs q=>by rw[zU (hm b _ q λz=>z)];exact q,λb u xs q=>by rw[zU (hm b _ q λz=>z)];exact q,λb ps q=>⟨#[],by rw[zU (hm b _ q λz=>z),q];simp⟩⟩
 by_cases hbe:b=e
 .subst hbe;exact heo
 .exact ⟨u,k b u hbe q⟩
end
def trk (h:Heap) (H:Hp):List Addr:=(List.range h.objs.size).filter λa=>(H a).isSome
def EL (h:Heap) (H:Hp):Heap:=PySem.W.hideAll h (trk h H)
def mM (h:Heap) (H:Hp):(EL h H).objs.size=h.objs.size:=PySem.W.hideAll_size _ _
def Z3 {h:Heap} {H:Hp} {b:Yt} {o:Obj} (e:h.get? b=some o) (n:H b=none):(EL h H).get? b=some o :=
 PySem.W.hideAll_get _ e λhm=>by
  let q:(H b).isSome=true:=(List.mem_filter.mp hm).2;rw[n]at q;simp at q
def lH {h:Heap} {H:Hp} {b:Yt} {o:Obj} (e:(EL h H).get? b=some o):h.get? b=some o/\H b=none:=by
 let e':h.get? b=some o:=PySem.W.of_hideAll (trk h H) e;calc ⟨e',?_⟩;cases q:H b with
 |none=>rfl
 |some x=>
  let hm:b∈trk h H:=List.mem_filter.mpr ⟨Ey.mpr (AH e'),by simp[q]⟩;let z:(EL h H).get? b=none:=PySem.W.hideAll_none (trk h H) hm;rw[z]at e;ext e
def BMn (mg:Str->Option Value) (h:Heap):Prop:=∃ bm ob,mg "__builtins__" = some (.ref bm)/\bm≠builtinsNs/\h.get? bm=some ob/\ob.cls=.type "module" /\ ob.dict=some builtinsNs/\ob.data=.plain
structure Mod (K:Yb) (mg:Yh) (base:Heap):Prop where
 kin:K.In base
 glob:base.Ns mainGlobals mg
 blt:∃ mb,base.Ns builtinsNs mb /\ ∀ x:Str,x ≠ "__name__" -> mb x=bootBuiltins x
 nolimit:base.NoLimit
 bmn:BMn mg base
structure Cx where
 prog:Program
 w:World
 K:PySem.W.Frag
 mg:Str->Option Value
 base:Heap
 A:Around
 N:List Str
 s₀:Shared
 H₀:Hp
 env:Env
 outer:List Env
 stack:List Env
 ex:List Addr
 fn:Str->Bool
 calm:Bool
 pn:List (Addr × Obj)
 xe:Value->Shared->Prop
def frs (l:List Env):List Addr:=l.filterMap (·.frame)
abbrev Cx.fs (X:Cx):List Addr:=frs X.outer
def Vis (sc:Y0) (x:Str):Prop:=sc.names.lookup x=some .local\/sc.names.lookup x=some .cell\/sc.names.lookup x=some .free
def Loc (sc:Y0) (x:Str):Prop:=sc.names.lookup x=some .local\/sc.names.lookup x=some .cell
def WT (env:Env) (h:Heap) (m:Yh) (x:Str) (u:Yu):Prop :=
 (env.kindOf x=some .local/\m x=some u)\/((env.kindOf x=some .cell\/env.kindOf x=some .free) /\ ∃ c,env.cells.lookup x=some c/\h.IsCell c (some u))
structure Cx.Ok (X:Cx):Prop where
 mod:Mod X.K X.mg X.base
 kind:X.env.scope.kind=.function
 glob:X.env.globals=mainGlobals
 blt:X.env.builtins=builtinsNs
 above:⇑X.s₀<=X.env.locals
 inj:∀ x y c,X.env.cells.lookup x=some c->X.env.cells.lookup y=some c->x=y
 has:∀ x,(X.env.kindOf x=some .cell\/X.env.kindOf x=some .free) -> ∃ c,X.env.cells.lookup x=some c
 cab:∀ x c,X.fn x=true->X.env.cells.lookup x=some c->⇑X.s₀<=c
 hd:X.calm=true->X.A.handled=none
 frames:X.A.frames=some X.stack
 stk:X.stack=X.outer\/(X.stack=X.env::X.outer/\X.env.frame=some X.env.locals)
 exf:∀ b∈X.ex,b≠X.env.locals /\ ∀ x c,X.env.cells.lookup x=some c->c≠b
 bs:∀ b o,X.base.get? b=some o->X.s₀.heap.get? b=some o/\X.H₀ b=none
 bsz:X.base.objs.size<=⇑X.s₀
 noex:∀ b o,X.base.get? b=some o->b∉X.ex
 exfs:∀ b∈X.ex,b∉X.fs
 funs:X.s₀.heap.FunFrames X.base X.outer
 frf:∀ b∈X.fs,X.H₀ b=none
structure Inv (X:Cx) (zB:Yd) (Y:List (Option V)) (H:Hp) (s:Yl):Prop where
 ok:X.Ok
 os:s.os=X.s₀.os
 bare:AllBare s.gens
 base:Un X.fs X.ex X.H₀ H X.s₀.heap s.heap
 loc:∃ m,s.heap.Ns X.env.locals m /\ ∀ (i:Nat) (x:Str) (v:V),X.N[i]?=some x->Y[i]?=some (some v)->Vis X.env.scope x -> ∃ u,zk v u/\WT X.env s.heap m x u
 cell:∀ x c,X.env.cells.lookup x=some c -> ∃ v,s.heap.IsCell c v
 free:H X.env.locals=none
 freeC:∀ x c,X.env.cells.lookup x=some c->H c=none
 pin:∀ p∈X.pn++zB,s.heap.get? p.1=some p.2/\H p.1=none/\p.1≠X.env.locals/\p.1∉X.fs /\ ∀ v,p.2.data≠.cell v
 hok:HOk X.prog X.w H s.heap
 len:Y.length=X.N.length
section
variable {X:Cx} {zB:Yd} {Y:List (Option V)} {H H':Hp} {s:Yl} {h':Heap}
def Cx.Ok.nofr (ok:X.Ok) {b:Yt} {o:Obj} (e:X.base.get? b=some o):b∉X.fs:=λhb=>by
 have:=(ok.funs.mem hb).1;rw[e]at this;ext this
def Inv.bs (I:Inv X zB Y H s):∀ b o,X.base.get? b=some o->s.heap.get? b=some o/\H b=none:=λb o e=>
 ⟨I.base.keep b o (I.ok.bs b o e).1 (I.ok.bs b o e).2 (I.ok.nofr e) (I.ok.noex b o e),I.base.free b o (I.ok.bs b o e).1 (I.ok.bs b o e).2 (I.ok.noex b o e)⟩
def Inv.bk (I:Inv X zB Y H s):∀ b o,X.base.get? b=some o->s.heap.get? b=some o:=λb o e=>(I.bs b o e).1
def Inv.mod (I:Inv X zB Y H s):Mod X.K X.mg X.base:=I.ok.mod
def Inv.kIn (I:Inv X zB Y H s):X.K.In s.heap:=I.ok.mod.kin.keeps I.bk
def Inv.lt (I:Inv X zB Y H s):X.env.locals<⇑s:=let ⟨_,hn,_⟩:=I.loc;hn.lt
def Inv.sz (I:Inv X zB Y H s):⇑X.s₀<=⇑s:=Ar I.ok.above (Ce I.lt)
def Inv.nofs (I:Inv X zB Y H s) {a:Yt} (h:⇑s<=a):a∉X.fs:=λhb=>by
 let⟨_,o,ho,_⟩:=I.ok.funs.mem hb;calc absurd (A0 (AH ho) (Ar I.sz h)) (BY _)
def Inv.cne (I:Inv X zB Y H s):∀ x c,X.env.cells.lookup x=some c->c≠X.env.locals:=λx c e z=>by
 let⟨v,o,ho,hd⟩:=I.cell x c e;let⟨m,⟨o',es,ep,ho',hd',_⟩,_⟩:=I.loc;rw[z,ho']at ho;ext ho;rw[hd']at hd;ext hd
def Inv.funs (I:Inv X zB Y H s):s.heap.FunFrames X.base X.outer:=by
 let all:∀ (l:List Env),(∀ b∈frs l,b∈X.fs)->X.s₀.heap.FunFrames X.base l->s.heap.FunFrames X.base l:=by
  intro l;induction l with
  |nil=>intro _ _;trivial
  |cons env r ih=>
   intro hs hl;let⟨hk,⟨L,o,hf,hn,ho,hd⟩,hr⟩:=hl;let hL:L∈X.fs:=hs L (by erw[frs];rw[List.filterMap_cons,hf];calc AZ);let⟨sl,e⟩:=I.base.slot L o ho (I.ok.frf L hL) hL λz=>I.ok.exfs L z hL;exact ⟨hk,⟨L,_,hf,hn,e,hd⟩,ih (λb hb=>hs b (by erw[frs];rw[List.filterMap_cons,hf];calc Aq _ hb)) hr⟩
 calc all X.outer (λ_ hb=>hb) I.ok.funs
def Inv.stack (I:Inv X zB Y H s):s.heap.FunFrames X.base X.stack:=by
 rcases I.ok.stk with e|⟨e,hf⟩
 .rw[e];exact I.funs
 .rw[e];let⟨m,hn,_⟩:=I.loc;calc .cons (by rw[I.ok.kind];decide) hf hn ?_ I.funs;calc Heap.get?_none_of_le (Ar I.ok.bsz I.ok.above)
def Inv.stkSub (I:Inv X zB Y H s):∀ b∈frs X.stack,b∈X.env.locals::X.fs:=λb hb=>by
 rcases I.ok.stk with e|⟨e,hf⟩
 .rw[e]at hb;exact Aq _ hb
 .rw[e]at hb;erw[frs]at hb;rw[List.filterMap_cons,hf]at hb;calc hb
def Inv.stkFree (I:Inv X zB Y H s):∀ b∈frs X.stack,H b=none:=λb hb=>by
 rcases AJ.mp (I.stkSub b hb)with e|hb
 .rw[e];exact I.free
 .obtain ⟨_,o,ho,_⟩:=I.ok.funs.mem hb;calc I.base.free b o ho (I.ok.frf b hb) λz=>I.ok.exfs b z hb
def Inv.step {g':Array GenState} {t':Nat} {d':Drawn} {ch:Yg} (I:Inv X zB Y H s)
  (hch:∀ b∈ch,(b∈X.ex\/⇑X.s₀<=b)/\b≠X.env.locals/\(∀ x c,X.env.cells.lookup x=some c->c≠b) /\ ∀ p∈X.pn++zB,p.1≠b)
  (keep:∀ b o,b≠X.env.locals->b∉X.fs->b∉ch->s.heap.get? b=some o->H b=none->h'.get? b=some o)
  (slot:∀ b o,b≠X.env.locals->b∈X.fs->b∉ch->s.heap.get? b=some o->H b=none -> ∃ sl,h'.get? b=some { o with slots:=sl }) (free:∀ b o,b∉ch->s.heap.get? b=some o->H b=none->H' b=none)
  (there:∀ b o,b∉ch->s.heap.get? b=some o -> ∃ o',h'.get? b=some o')
  (tups:∀ b xs,H b=some (.tup xs)->H' b=some (.tup xs)) (frzs:∀ b o u,H b=some (.frz o u)->H' b=some (.frz o u)) (tbls:∀ b ps,H b=some (.tbl ps) -> ∃ more,H' b=some (.tbl (ps++more)))
  (ns:∀ m,s.heap.Ns X.env.locals m->h'.Ns X.env.locals m) (hok:HOk X.prog X.w H' h') (hg:AllBare g') :
  Inv X zB Y H' { s with heap:=h',gens:=g',drawn:=d',toks:=t' }:=by
 let neL:∀ b o,X.s₀.heap.get? b=some o->b≠X.env.locals:=λb o e=>Ad (A0 (AH e) I.ok.above);let neC:∀ b o,X.s₀.heap.get? b=some o->b∉X.ex->b∉ch:=λb o e hx hb=>by
  rcases (hch b hb).1 with z|z
  .exact hx z
  .exact absurd (A0 (AH e) z) (BY _)
 let cellK:∀ x c,X.env.cells.lookup x=some c -> ∀ v,s.heap.IsCell c v->h'.IsCell c v:=λx c e v ⟨o,ho,hd⟩=>by
  let nch:c∉ch:=λz=>(hch c z).2.2.1 x c e rfl;by_cases hc:c∈X.fs
  .obtain ⟨sl,q⟩:=slot c o (I.cne x c e) hc nch ho (I.freeC x c e);exact ⟨_,q,hd⟩
  .exact ⟨o,keep c o (I.cne x c e) hc nch ho (I.freeC x c e),hd⟩
 refine ⟨I.ok,I.os,hg,⟨λb o e n hb hx=>?_,λb o e n hb hx=>?_,λb o e n hx=>?_,λb o e hx=>?_,λb xs e=>tups b xs (I.base.tups b xs e),λb o xs e=>frzs b o xs (I.base.frzs b o xs e),λb ps e=>?_⟩,?_,λx c e=>?_,?_,λx c e=>?_,λp hp=>?_,hok,I.len⟩
 .exact keep b o (neL b o e) hb (neC b o e hx) (I.base.keep b o e n hb hx) (I.base.free b o e n hx)
 .obtain ⟨sl,e1⟩:=I.base.slot b o e n hb hx;let⟨sl',e2⟩:=slot b _ (neL b o e) hb (neC b o e hx) e1 (I.base.free b o e n hx);exact ⟨sl',e2⟩
 .obtain ⟨o',e1⟩:=I.base.there b o e hx;exact free b o' (neC b o e hx) e1 (I.base.free b o e n hx)
 .obtain ⟨o',e1⟩:=I.base.there b o e hx;exact there b o' (neC b o e hx) e1
 .obtain ⟨m1,e1⟩:=I.base.tbls b ps e;let⟨m2,e2⟩:=tbls b _ e1;exact ⟨m1++m2,by rw[e2,Array.append_assoc]⟩
 .obtain ⟨m,hn,hl⟩:=I.loc;refine ⟨m,ns m hn,λi x v e1 e2 e3=>?_⟩;let⟨u,r,l⟩:=hl i x v e1 e2 e3;refine ⟨u,r,?_⟩;rcases l with l|⟨k,c,e,z⟩
  .exact .inl l
  .exact .inr ⟨k,c,e,cellK x c e _ z⟩
 .obtain ⟨v,z⟩:=I.cell x c e;exact ⟨v,cellK x c e v z⟩
 .obtain ⟨m,⟨o,_,_,ho,_⟩,_⟩:=I.loc;exact free _ o (λz=>(hch _ z).2.1 rfl) ho I.free
 .obtain ⟨v,o,ho,hd⟩:=I.cell x c e;exact free c o (λz=>(hch c z).2.2.1 x c e rfl) ho (I.freeC x c e)
 .obtain ⟨e,n,ne,nf,d⟩:=I.pin p hp;let nch:p.1∉ch:=λz=>(hch p.1 z).2.2.2 p hp rfl;calc ⟨keep p.1 p.2 ne nf nch e n,free p.1 p.2 nch e n,ne,nf,d⟩
def Inv.un {t':Nat} (I:Inv X zB Y H s) (u:Un X.fs [] H H' s.heap h') (hok:HOk X.prog X.w H' h'):Inv X zB Y H' { s with heap:=h',toks:=t' }:=by
 let⟨m,⟨o,es,ep,ho,r⟩,_⟩:=id I.loc;let⟨sl,hL⟩:=u.any ho I.free (by simp);exact I.step (g':=s.gens) (d':=s.drawn) (ch:=[]) (λ_ z=>nomatch z) (λb o _ hb _ e n=>u.keep b o e n hb (by simp)) (λb o _ hb _ e n=>u.slot b o e n hb (by simp)) (λb o _ e n=>u.free b o e n (by simp)) (λb o _ e=>u.there b o e (by simp)) u.tups u.frzs u.tbls (λm' hm=>by
  let⟨o',es',ep',ho',r'⟩:=hm;rw[ho]at ho';ext ho';calc ⟨_,es',ep',hL,r'⟩) hok I.bare
def Inv.call {g':Array GenState} {t':Nat} {d':Drawn} {ch:Yg} (I:Inv X zB Y H s) (u:Un (frs X.stack) ch H H' s.heap h') (hok:HOk X.prog X.w H' h') (hg:AllBare g')
  (hch:∀ b∈ch,(b∈X.ex\/⇑X.s₀<=b)/\b≠X.env.locals/\(∀ x c,X.env.cells.lookup x=some c->c≠b) /\ ∀ p∈X.pn++zB,p.1≠b) :
  Inv X zB Y H' { s with heap:=h',gens:=g',drawn:=d',toks:=t' }:=by
 let⟨m,⟨o,es,ep,ho,r⟩,_⟩:=id I.loc;let⟨sl,hL⟩:=u.any ho I.free λz=>(hch _ z).2.1 rfl;exact I.step (ch:=ch) hch (λb o hL hb hc e n=>u.keep b o e n (λz=>(AJ.mp (I.stkSub b z)).elim hL hb) hc) (λb o _ _ hc e n=>u.any e n hc) (λb o hc e n=>u.free b o e n hc) (λb o hc e=>u.there b o e hc) u.tups u.frzs u.tbls (λm' hm=>by
  let⟨o',es',ep',ho',r'⟩:=hm;rw[ho]at ho';ext ho';calc ⟨_,es',ep',hL,r'⟩) hok hg
def Inv.turned {t':Nat} {it:Yt} (I:Inv X zB Y H s) (k:∀ b o,b≠it->s.heap.get? b=some o->h'.get? b=some o) (hn:H it=none) (hL:it≠X.env.locals)
  (h1:it∈X.ex\/⇑X.s₀<=it) (h2:∀ x c,X.env.cells.lookup x=some c->c≠it) (h3:∀ p∈X.pn++zB,p.1≠it):Inv X zB Y H { s with heap:=h',toks:=t' }:=by
 let nit:∀ b u,H b=some u->b≠it:=λb u e z=>by rw[z,hn]at e;ext e
 refine I.step (g':=s.gens) (d':=s.drawn) (ch:=[it]) (λb hb=>?_) (λb o _ _ hc e _=>k b o (λz=>hc (by simp[z])) e) (λb o _ _ hc e _=>⟨o.slots,k b o (λz=>hc (by simp[z])) e⟩) (λ_ _ _ _ n=>n)
  (λb o hc e=>⟨o,k b o (λz=>hc (by simp[z])) e⟩) (λ_ _ e=>e) (λ_ _ _ e=>e) (λb ps e=>⟨#[],by rw[e];simp⟩) (λm hm=>?_) (λb u e=>?_) I.bare
 .have e:b=it:=by simpa using hb
  subst e;exact ⟨h1,hL,h2,h3⟩
 .obtain ⟨o,es,ep,ho,r⟩:=hm;exact ⟨o,es,ep,k _ o (Ne.symm hL) ho,r⟩
 .refine (I.hok b u e).stay (λc v hc q=>k c v ?_ q) (λ_ q=>q) λ_ _ q=>q;rcases hc with z|z
  .rw[z];exact nit b u e
  .exact nit c _ z
def Inv.tok (I:Inv X zB Y H s) (t:Nat):Inv X zB Y H { s with toks:=t }:=I.un (h':=s.heap) (t':=t) Un.refl I.hok
def Inv.kept {t':Nat} (I:Inv X zB Y H s) (k:∀ b u,s.heap.get? b=some u->h'.get? b=some u):Inv X zB Y H { s with heap:=h',toks:=t' }:=I.un (Un.kept k) (I.hok.kept k)
def Inv.laid {a:Yt} {o:HO} {t':Nat} (I:Inv X zB Y H s) (k:∀ b u,s.heap.get? b=some u->h'.get? b=some u) (hp:⇑s<=a) (new:Ag X.prog X.w (upd H a o) h' a o) :
  Inv X zB Y (upd H a o) { s with heap:=h',toks:=t' }:=I.un (Un.laid k hp (I.hok.fresh hp)) (I.hok.laid k hp new)
def Inv.write {x e:Yt} {o:HO} {t':Nat} (I:Inv X zB Y H s) (mu:Mut (H x)) (he:e=x\/H e=some (.own x)) (k:∀ b u,b≠e->s.heap.get? b=some u->h'.get? b=some u) (heo:∃ u,h'.get? e=some u)
  (new:Ag X.prog X.w (upd H x o) h' x o):Inv X zB Y (upd H x o) { s with heap:=h',toks:=t' }:=I.un (Un.write mu he k heo) (I.hok.write mu he k heo new)
def Inv.weak {Y':List (Option V)} (I:Inv X zB Y H s) (hl:Y'.length=Y.length) (w:∀ (i:Nat) v,Y'[i]?=some (some v)->Y[i]?=some (some v)):Inv X zB Y' H s :=
 ⟨I.ok,I.os,I.bare,I.base,let ⟨m,hn,hl'⟩:=I.loc;⟨m,hn,λi x v e1 e2 e3=>hl' i x v e1 (w i v e2) e3⟩,I.cell,I.free,I.freeC,I.pin,I.hok,hl.trans I.len⟩
def Inv.pins_of {pins':Yd} (I:Inv X zB Y H s) (h:∀ p∈pins',s.heap.get? p.1=some p.2/\H p.1=none/\p.1≠X.env.locals/\p.1∉X.fs /\ ∀ v,p.2.data≠.cell v):Inv X pins' Y H s :=
 ⟨I.ok,I.os,I.bare,I.base,I.loc,I.cell,I.free,I.freeC,λp hp=>(AO.mp hp).elim (λz=>I.pin p (Cm _ z)) (h p),I.hok,I.len⟩
def Rt {N:Yk} (hN:N.Nodup) {i j:Nat} {x:Str} (a:N[i]?=some x) (b:N[j]?=some x):i=j:=by
 let⟨h1,e1⟩:=AK.mp a;let⟨h2,e2⟩:=AK.mp b;calc (List.getElem_inj hN).mp (e1.trans e2.symm)
def jC {M:Model} {A:Yn} {E:Yc} {i:Nat} {x:Str} {v:V} {u:Yu} {Q:Unit->Shared->Prop} (I:Inv X zB Y H s) (hN:X.N.Nodup) (hi:X.N[i]?=some x) (hx:Loc X.env.scope x) (r:zk v u)
  (h:∀ s',Inv X zB (Y.set i (some v)) H s'->(∃ a,Heap.SameBut a s.heap s'.heap/\(a=X.env.locals\/X.env.cells.lookup x=some a))->Q Unit.unit s') (hf:X.fn x=true\/X.env.scope.names.lookup x=some .local:=by first|exact .inl rfl|exact .inr rfl|assumption):wpAny M A (storeName X.env x u) Q E s:=by
 let⟨m,hn,hl⟩:=id I.loc;let hcls:(X.env.scope.kind == .class||(X.env.scope.kind == .module&&X.env.locals != X.env.globals))=false:=by rw[I.ok.kind];rfl
 let hiσ:i<Y.length:=by rw[I.len];exact (AK.mp hi).1
 let cne:=I.cne;let tracked:∀ {a:Yt} {h':Heap},(∃ o,s.heap.get? a=some o/\H a=none)->Heap.SameBut a s.heap h'->HOk X.prog X.w H h':=λ{a h'} ha hs b ob e=>by
  let⟨_,_,hfree⟩:=ha;refine (I.hok b ob e).stay (λc w' hc q=>(hs.2 c ?_).trans q) (λ_ q=>q) λ_ _ q=>q;rintro rfl;rcases hc with rfl|hc
  .rw[hfree]at e;ext e
  .rw[hfree]at hc;ext hc
 rcases hx with hk|hk
 .refine wpAny_storeName_local hk hn (λh' hn' hs=>?_) hcls;let⟨oL,_,_,hoL,_⟩:=id hn;refine h _ ⟨I.ok,I.os,I.bare,⟨λb o e n hb hx=>?_,λb o e n hb hx=>?_,I.base.free,λb o e hx=>?_,I.base.tups,I.base.frzs,I.base.tbls⟩,⟨_,hn',λj y v' e1 e2 e3=>?_⟩,λy c e=>?_,I.free,I.freeC,λp hp=>?_,tracked ⟨oL,hoL,I.free⟩ hs,by simpa using I.len⟩ ⟨_,hs,.inl rfl⟩
  .exact (hs.2 b (Ad (A0 (AH e) I.ok.above))).trans (I.base.keep b o e n hb hx)
  .obtain ⟨sl,e1⟩:=I.base.slot b o e n hb hx;exact ⟨sl,(hs.2 b (Ad (A0 (AH e) I.ok.above))).trans e1⟩
  .obtain ⟨o',e1⟩:=I.base.there b o e hx;exact ⟨o',(hs.2 b (Ad (A0 (AH e) I.ok.above))).trans e1⟩
  .by_cases hj:j=i
   .subst hj;rw[hi]at e1;ext e1;rw[CO hiσ]at e2;ext e2;exact ⟨u,r,.inl ⟨hk,by simp⟩⟩
   .rw[A6 (Ne.symm hj)]at e2;let⟨u',r',q⟩:=hl j y v' e1 e2 e3;refine ⟨u',r',?_⟩;rcases q with ⟨k,e⟩|⟨k,c,e,z⟩
    .refine .inl ⟨k,?_⟩;have:y≠x:=λe=>hj (Rt hN e1 (e▸hi));simp[this,e]
    .exact .inr ⟨k,c,e,z.sameBut hs (cne y c e)⟩
  .obtain ⟨w',z⟩:=I.cell y c e;exact ⟨w',z.sameBut hs (cne y c e)⟩
  .obtain ⟨e,n,ne,nf,d⟩:=I.pin p hp;exact ⟨(hs.2 p.1 ne).trans e,n,ne,nf,d⟩
 .have hfn:X.fn x=true:=by
   rcases hf with z|z
   .exact z
   .rw[z]at hk;ext hk
  let⟨c,hc⟩:=I.ok.has x (.inl hk);let⟨w',z⟩:=I.cell x c hc;refine wpAny_storeName_cell I.ok.kind hk hc z (λh' hc' hs=>?_);let⟨oc,hoc,hocd⟩:=id z;refine h { s with heap:=h' } ⟨I.ok,I.os,I.bare,⟨λb o e n hb hx=>?_,λb o e n hb hx=>?_,I.base.free,λb o e hx=>?_,I.base.tups,I.base.frzs,I.base.tbls⟩,⟨m,hn.sameBut hs (Ne.symm (cne x c hc)),λj y v' e1 e2 e3=>?_⟩,λy c' e=>?_,I.free,I.freeC,λp hp=>?_,tracked ⟨oc,hoc,I.freeC x c hc⟩ hs,by simpa using I.len⟩ ⟨c,hs,.inr hc⟩
  .exact (hs.2 b (Ad (A0 (AH e) (I.ok.cab x c hfn hc)))).trans (I.base.keep b o e n hb hx)
  .obtain ⟨sl,e1⟩:=I.base.slot b o e n hb hx;exact ⟨sl,(hs.2 b (Ad (A0 (AH e) (I.ok.cab x c hfn hc)))).trans e1⟩
  .obtain ⟨o',e1⟩:=I.base.there b o e hx;exact ⟨o',(hs.2 b (Ad (A0 (AH e) (I.ok.cab x c hfn hc)))).trans e1⟩
  .by_cases hj:j=i
   .subst hj;rw[hi]at e1;ext e1;rw[CO hiσ]at e2;ext e2;exact ⟨u,r,.inr ⟨.inl hk,c,hc,hc'⟩⟩
   .rw[A6 (Ne.symm hj)]at e2;let⟨u',r',q⟩:=hl j y v' e1 e2 e3;refine ⟨u',r',?_⟩;rcases q with q|⟨k,c',e,z'⟩
    .exact .inl q
    .refine .inr ⟨k,c',e,z'.sameBut hs ?_⟩;rintro rfl;exact hj (Rt hN e1 (I.ok.inj _ _ _ e hc▸hi))
  .by_cases hcc:c'=c
   .subst hcc;exact ⟨_,hc'⟩
   .obtain ⟨w2,z2⟩:=I.cell y c' e;exact ⟨w2,z2.sameBut hs hcc⟩
  .obtain ⟨e,n,ne,nf,d⟩:=I.pin p hp;calc ⟨(hs.2 p.1 ?_).trans e,n,ne,nf,d⟩;intro q;rw[q,hoc]at e;let q':oc=p.2:=Bh e;calc d w' (by rw[<-q'];calc hocd)
def QM {M:Model} {A:Yn} {E:Yc} {i:Nat} {x:Str} {v:V} {u:Yu} {Q:Unit->Shared->Prop} (I:Inv X zB Y H s) (hN:X.N.Nodup) (hi:X.N[i]?=some x) (hx:Loc X.env.scope x) (r:zk v u)
  (h:∀ s',Inv X zB (Y.set i (some v)) H s'->Q Unit.unit s') (hf:X.fn x=true\/X.env.scope.names.lookup x=some .local:=by first|exact .inl rfl|exact .inr rfl|assumption):wpAny M A (storeName X.env x u) Q E s :=
 jC I hN hi hx r (λs' I' _=>h s' I') hf
def Inv.call' {s':Yl} {ch:Yg} (I:Inv X zB Y H s) (ho:s'.os=s.os) (u:Un (frs X.stack) ch H H' s.heap s'.heap) (hok:HOk X.prog X.w H' s'.heap) (hg:AllBare s'.gens)
  (hch:∀ b∈ch,(b∈X.ex\/⇑X.s₀<=b)/\b≠X.env.locals/\(∀ x c,X.env.cells.lookup x=some c->c≠b) /\ ∀ p∈X.pn++zB,p.1≠b):Inv X zB Y H' s':=by
 let⟨h',g',d',t',o'⟩:=s';let e:o'=s.os:=ho;subst e;calc I.call (g':=g') (t':=t') (d':=d') u hok hg hch
end
abbrev XK:=Value->Option Addr->Hp->Prop
abbrev St:=List (Option V)
abbrev VK:=V->Hp->Prop
abbrev TE:=St->Hp->VK->Prop
abbrev TT:=St->Hp->(Bool->Hp->Prop)->Prop
abbrev TA:=St->Hp->(List V->Hp->Prop)->Prop
structure Ends where
 nx:St->Hp->Prop
 rt:VK
 bk:St->Hp->Prop:=λ_ _=>False
 ct:St->Hp->Prop:=λ_ _=>False
abbrev TS:=Ends->St->Hp->Prop
def EP (X:Cx) (zB:Yd) (Y:St) (Q:VK) (u:Yu) (s':Yl):Prop:=∃ v H',Inv X zB Y H' s'/\zk v u/\Q v H'
def TP (X:Cx) (zB:Yd) (Y:St) (Q:Bool->Hp->Prop) (b:Bool) (s':Yl):Prop:=∃ H',Inv X zB Y H' s'/\Q b H'
def AP (X:Cx) (zB:Yd) (Y:St) (Q:List V->Hp->Prop) (us:Yf) (s':Yl):Prop:=∃ vs H',Inv X zB Y H' s'/\za vs us/\Q vs H'
def SP (X:Cx) (zB:Yd) (D:Ends) (f:Flow) (s':Yl):Prop :=
 match f with
 |.next=>∃ Y' H',Inv X zB Y' H' s'/\D.nx Y' H'
 |.brk=>∃ Y' H',Inv X zB Y' H' s'/\D.bk Y' H'
 |.cont=>∃ Y' H',Inv X zB Y' H' s'/\D.ct Y' H'
 |.ret u=>∃ v Y' H',Inv X zB Y' H' s'/\zk v u/\D.rt v H'
def PE (X:Cx) (e:Expr) (t:TE):Prop :=
 ∀ (zB:Yd) (s:Yl) (Y:St) (H:Hp) (Q:VK),Inv X zB Y H s->t Y H Q->wpAny (model X.prog X.w) X.A (eval e X.env) (EP X zB Y Q) X.xe s
def PT (X:Cx) (e:Expr) (t:TT):Prop :=
 ∀ (zB:Yd) (s:Yl) (Y:St) (H:Hp) (Q:Bool->Hp->Prop),Inv X zB Y H s->t Y H Q->wpAny (model X.prog X.w) X.A (isTrue e X.env (eval e X.env)) (TP X zB Y Q) X.xe s
def PW (X:Cx) (e:Expr) (t:TT):Prop :=
 ∀ (whole:Sem Value) (zB:Yd) (s:Yl) (Y:St) (H:Hp) (Q:Bool->Hp->Prop),Inv X zB Y H s->t Y H Q->wpAny (model X.prog X.w) X.A (isTrue e X.env whole) (TP X zB Y Q) X.xe s
def PW.pt {X:Cx} {e:Expr} {t:TT} (h:PW X e t):PT X e t:=h _
def PA (X:Cx) (es:Yi) (t:TA):Prop :=
 ∀ (pos:Pos) (zB:Yd) (s:Yl) (Y:St) (H:Hp) (Q:List V->Hp->Prop),Inv X zB Y H s->t Y H Q->wpAny (model X.prog X.w) X.A (spliced (backTo pos (starEach es X.env))) (AP X zB Y Q) X.xe s
def PS (X:Cx) (st:Stmt) (t:TS):Prop :=
 ∀ (zB:Yd) (s:Yl) (Y:St) (H:Hp) (D:Ends),Inv X zB Y H s->t D Y H->wpAny (model X.prog X.w) X.A (exec st X.env) (SP X zB D) X.xe s
def PSs (X:Cx) (st:Yy) (t:TS):Prop :=
 ∀ (zB:Yd) (s:Yl) (Y:St) (H:Hp) (D:Ends),Inv X zB Y H s->t D Y H->wpAny (model X.prog X.w) X.A (execs st X.env) (SP X zB D) X.xe s
def thn {α:Type} {t:Sem α} {Q Q':α->Shared->Prop} {M:Model} {A:Yn} {E:Yc} {s:Yl} (h:wpAny M A t Q E s) (hQ:∀ a s,Q a s->Q' a s):wpAny M A t Q' E s:=AX h hQ λ_ _ x=>x
section
variable {X:Cx}
def Li (i:Nat):TE:=λY H Q=>∃ v,Y[i]?=some (some v)/\Q v H
def tC (v:V):TE:=λ_ H Q=>Q v H
def OJ {i:Nat} {x:Str} {pos:Pos} (hN:X.N[i]?=some x) (hv:Vis X.env.scope x) (hd:(x==("__debug__" : Str))=false:=by decide) (hcd:(x==("__classdict__" : Str))=false:=by decide):PE X (.Name x pos) (Li i):=by
 intro zB s Y H Q I h;let⟨v,e,h⟩:=h;let⟨m,hn,hl⟩:=I.loc;let⟨u,r,l⟩:=hl i x v hN e hv;let fin:EP X zB Y Q u s:=⟨v,H,I,r,h⟩;rcases l with ⟨hk,hm⟩|⟨hk,c,hc,hcell⟩
 .exact wpAny_Name (wpAny_loadName_local I.ok.kind hk hn hm fin) hd
 .rcases hk with hk|hk
  .exact wpAny_Name (wpAny_loadName_cell I.ok.kind hk hc hcell fin) hd
  .exact wpAny_Name (wpAny_loadName_free I.ok.kind hk hc hcell fin hcd) hd
def TK {i j pos}:PE X (.Constant (.int i) j pos) (tC (.int i)):=λ_ _ _ H _ I h=>wpAny_Constant_int ⟨.int i,H,I.tok _,⟨_,rfl⟩,h⟩
def Wx {b j pos}:PE X (.Constant (.bool b) j pos) (tC (.bl b)):=λ_ _ _ H _ I h=>Constant_bool ⟨.bl b,H,I,rfl,h⟩
def ZN {j pos}:PE X (.Constant .none j pos) (tC .non):=λ_ _ _ H _ I h=>Constant_none ⟨.non,H,I,rfl,h⟩
def ZO {x j pos}:PE X (.Constant (.str x) j pos) (tC (.str x)):=λ_ _ _ H _ I h=>Calls.Constant_str ⟨.str x,H,I.tok _,⟨_,rfl⟩,h⟩
def Gl (X:Cx) (x:Str):Prop:=X.env.kindOf x=some .globalImplicit
def RG {E:Yc} {zB:Yd} {s:Yl} {Y:St} {H:Hp} {x:Str} {u:Yu} {pos:Pos} {Q:Yc} (I:Inv X zB Y H s) (hg:Gl X x) (hm:X.mg x=some u) (h:Q u s)
  (hd:(x==("__debug__" : Str))=false:=by decide):wpAny (model X.prog X.w) X.A (eval (.Name x pos) X.env) Q E s :=
 Calls.Name_function_global I.ok.kind hg (Calls.loadGlobal_global (by rw[I.ok.glob];calc I.mod.glob.keeps I.bk) hm h) hd
def E5 {E:Yc} {zB:Yd} {s:Yl} {Y:St} {H:Hp} {x:Str} {u:Yu} {pos:Pos} {Q:Yc} (I:Inv X zB Y H s) (hg:Gl X x) (hm:X.mg x=none) (hv:bootBuiltins x=some u) (h:Q u s)
  (hn:x ≠ "__name__" := by decide) (hd:(x==("__debug__" : Str))=false:=by decide):wpAny (model X.prog X.w) X.A (eval (.Name x pos) X.env) Q E s:=by
 let⟨mb,h1,h2⟩:=I.mod.blt;calc Calls.Name_function_global I.ok.kind hg (Calls.loadGlobal_builtin (by rw[I.ok.glob];calc I.mod.glob.keeps I.bk) hm (by rw[I.ok.blt];calc h1.keeps I.bk) ((h2 x hn).trans hv) h) hd
def lG {x:Str} {v:V} {u:Value} {pos:Pos} (hg:Gl X x) (hm:X.mg x=none) (hv:bootBuiltins x=some u) (r:zk v u) (hn:x ≠ "__name__" := by decide) (hd:(x==("__debug__" : Str))=false:=by decide):PE X (.Name x pos) (tC v) :=
 λ_ _ _ H _ I h=>E5 I hg hm hv ⟨v,H,I,r,h⟩ hn hd
variable {a b:Expr} {ta tb:TE} {pos:Pos}
def PC (X:Cx) (op:CmpOp) (a b:Expr) (t:TE):Prop :=
 ∀ (zB:Yd) (s:Yl) (Y:St) (H:Hp) (Q:VK),Inv X zB Y H s->t Y H Q ->
  wpAny (model X.prog X.w) X.A (eval a X.env) (λv s₁=>wpAny (model X.prog X.w) X.A (eval b X.env) (λu s₂=>wpAny (model X.prog X.w) X.A (compareOp op v u) (EP X zB Y Q) X.xe s₂) X.xe s₁) X.xe s
def tB (t:TE):TT:=λY H Q=>t Y H λx H1=>∃ c,x=.bl c/\Q c H1
def T4 {op:CmpOp} {t:TE} (h:PC X op a b t) (h1:behindInMarks op b=false:=by first|exact nobehind _ () ()|rfl):PE X (.Compare a [op] [b] pos) t:=λzB s Y H Q I hw=>wpAny_Compare1 (h zB s Y H Q I hw) h1
def dD {op:CmpOp} {t:TE} (h:PC X op a b t) (h1:behindInMarks op b=false:=by first|exact nobehind _ () ()|rfl):PT X (.Compare a [op] [b] pos) (tB t):=by
 intro zB s Y H Q I hw;refine wpAny_isTrue_Compare1 (thn (h zB s Y H _ I hw) λv s1 h1=>thn h1 λu s2 h2=>thn h2 λc s3 ⟨x,H1,I1,r1,q1⟩=>?_) h1;let⟨d,rfl,q⟩:=q1;ext r1;calc E3 ⟨H1,I1,q⟩
def UL {e:Expr} {t:TE} (h:PE X e t) (he:∀ whole,isTrue e X.env whole=(do let v <- whole;standAt e.pos;holding [v] (truthy v)):=by intro _;rfl):PT X e (tB t):=by
 intro zB s Y H Q I hw;refine isTrue_plain (thn (h zB s Y H _ I hw) λv s1 ⟨x,H1,I1,r1,q1⟩=>?_) (he _);let⟨d,rfl,q⟩:=q1;ext r1;calc E3 ⟨H1,I1,q⟩
variable {tA tB':TT} {rest:Yi}
def eF (t u:TT):TT:=λY H Q=>t Y H λc H1=>if c=true then u Y H1 Q else Q false H1
def tOr (t u:TT):TT:=λY H Q=>t Y H λc H1=>if c=true then Q true H1 else u Y H1 Q
def d5 (t:TT):TT:=λY H Q=>t Y H λc H1=>Q (!c) H1
def jP (ha:PT X a tA):PW X (.BoolOp .And [a] pos) tA:=by
 intro wh zB s Y H Q I h;refine isTrue_and (thn (ha zB s Y H Q I h) λc s1 e=>?_);cases c with
 |true=>calc isTrue_and_nil e
 |false=>calc e
def TU (ha:PT X a tA):PW X (.BoolOp .Or [a] pos) tA:=by
 intro wh zB s Y H Q I h;refine isTrue_or (thn (ha zB s Y H Q I h) λc s1 e=>?_);cases c with
 |false=>calc isTrue_or_nil e
 |true=>calc e
def Wi (ha:PT X a tA) (hb:PW X (.BoolOp .And (b::rest) pos) tB'):PW X (.BoolOp .And (a::b::rest) pos) (eF tA tB'):=by
 intro wh zB s Y H Q I h;refine isTrue_and (thn (ha zB s Y H _ I h) λc s1 ⟨H1,I1,q1⟩=>?_);cases c with
 |true=>calc hb wh zB s1 Y H1 Q I1 q1
 |false=>calc ⟨H1,I1,q1⟩
def Xz (ha:PT X a tA) (hb:PW X (.BoolOp .Or (b::rest) pos) tB'):PW X (.BoolOp .Or (a::b::rest) pos) (tOr tA tB'):=by
 intro wh zB s Y H Q I h;refine isTrue_or (thn (ha zB s Y H _ I h) λc s1 ⟨H1,I1,q1⟩=>?_);cases c with
 |true=>calc ⟨H1,I1,q1⟩
 |false=>calc hb wh zB s1 Y H1 Q I1 q1
def fS (ha:PT X a tA):PT X (.UnaryOp .Not a pos) (d5 tA):=by
 intro zB s Y H Q I h;calc isTrue_not (ha zB s Y H (λc H1=>Q (!c) H1) I h)
def ZY (ta tb:TE):TE:=λY H Q=>ta Y H λx H1=>∃ c,x=.bl c/\if c=true then tb Y H1 Q else Q (.bl false) H1
def Zm (ta:TE):TE:=λY H Q=>ta Y H λx H1=>∃ c,x=.bl c/\Q (.bl (!c)) H1
def jA {op} {t:TE} (h:PE X a t):PE X (.BoolOp op [a] pos) t:=λzB s Y H Q I hw=>BoolOp_one (h zB s Y H Q I hw)
def T7 (ha:PE X a ta) (hb:PE X (.BoolOp .And (b::rest) pos) tb):PE X (.BoolOp .And (a::b::rest) pos) (ZY ta tb):=by
 intro zB s Y H Q I h;refine BoolOp_and (thn (ha zB s Y H _ I h) λv s1 ⟨x,H1,I1,r1,q1⟩=>?_);let⟨c,rfl,q1⟩:=q1;ext r1;calc E3 ?_;cases c with
 |true=>calc hb zB s1 Y H1 Q I1 q1
 |false=>calc ⟨.bl false,H1,I1,rfl,q1⟩
def jK (ha:PE X a ta):PE X (.UnaryOp .Not a pos) (Zm ta):=by
 intro zB s Y H Q I h;refine UnaryOp_ (thn (ha zB s Y H _ I h) λv s1 ⟨x,H1,I1,r1,q1⟩=>?_);let⟨c,rfl,q1⟩:=q1;ext r1;calc not_of (E3 ⟨.bl (!c),H1,I1,rfl,q1⟩)
def tIf (t:TT) (ta tb:TE):TE:=λY H Q=>t Y H λc H1=>if c=true then ta Y H1 Q else tb Y H1 Q
def gV {c:Expr} (hc:PT X c tA) (ha:PE X a ta) (hb:PE X b tb):PE X (.IfExp c a b pos) (tIf tA ta tb):=by
 intro zB s Y H Q I h;refine wpAny_IfExp (thn (hc zB s Y H _ I h) λd s1 ⟨H1,I1,q1⟩=>?_);cases d with
 |true=>calc ha zB s1 Y H1 Q I1 q1
 |false=>calc hb zB s1 Y H1 Q I1 q1
end
def SqL (K:Yb) (H:Hp) (a:Yt) (xs:List V):Prop :=
 Rd H a (.lst xs) \/
  ∃ (o:Obj) (its:Array Value) (n:Nat),K.lookup a=some o/\o.cls=.type "list" /\ o.dict=none/\o.data=.seq its n/\its.size<=sizeLine/\za xs its.toList
def SqT (K:Yb) (H:Hp) (a:Yt) (xs:List V):Prop :=
 Rd H a (.tup xs) \/
  ∃ (o:Obj) (its:Array Value) (n:Nat),K.lookup a=some o/\o.cls=.type "tuple" /\ o.data=.seq its n/\its.size<=sizeLine/\za xs its.toList
def iA:Value->Option V
 |.none=>some .non
 |.bool b=>some (.bl b)
 |.int i _=>some (.int i)
 |.str x _=>some (.str x)
 |.bytes b _=>some (.byt b)
 |.float b _=>some (.flt b)
 |.ref a=>some (.ref a)
 |.type n=>some (.ty n)
 |_=>none
def zk.abs {x:V} {u:Yu} (r:zk x u):iA u=some x:=by
 cases x with
 |non=>ext r;rfl
 |bl _=>ext r;rfl
 |int _=>let⟨t,rfl⟩:=r;rfl
 |str _=>let⟨t,rfl⟩:=r;rfl
 |byt _=>let⟨t,rfl⟩:=r;rfl
 |flt _=>let⟨t,rfl⟩:=r;rfl
 |ref _=>ext r;rfl
 |ty _=>ext r;rfl
def zk.inj {x y:V} {u:Yu} (r:zk x u) (q:zk y u):x=y:=Bh (r.abs.symm.trans q.abs)
def za.inj:∀ {xs ys:List V} {us:Yf},za xs us->za ys us->xs=ys
 |_,_,_,.nil,.nil=>rfl
 |_,_,_,.cons r t,.cons r' t'=>by rw[r.inj r',za.inj t t']
section
variable {X:Cx} {zB:Yd} {Y:St} {H:Hp} {s:Yl} {a:Yt} {xs ys:List V}
def SqL.of {K:Yb} (h:H a=some (.lst xs)):SqL K H a xs:=.inl (.inl h)
def SqT.of {K:Yb} (h:H a=some (.tup xs)):SqT K H a xs:=.inl (.inl h)
def Inv.list (I:Inv X zB Y H s) (h:SqL X.K H a xs):∃ its:List Value,za xs its/\PlainL s.heap a its.toArray/\xs.length<=sizeLine:=by
 rcases h with h|⟨o,its,n,hk,hc,hd,hs,hz,r⟩
 .obtain ⟨z,its,n,r,e⟩:=h.ok I.hok;exact ⟨its,r,⟨_,n,e,rfl,rfl,rfl⟩,z⟩
 .refine ⟨its.toList,r,⟨o,n,I.kIn a o hk,hc,hd,by simpa using hs⟩,?_⟩;let e:=r.length;simp only[BM]at e;omega
def Inv.tuple (I:Inv X zB Y H s) (h:SqT X.K H a xs):∃ its:List Value,za xs its/\IsTup s.heap a its.toArray/\xs.length<=sizeLine:=by
 rcases h with h|⟨o,its,n,hk,hc,hs,hz,r⟩
 .obtain ⟨z,its,r,p⟩:=h.ok I.hok;exact ⟨its,r,p.tup,z⟩
 .refine ⟨its.toList,r,⟨o,I.kIn a o hk,hc,n,by simpa using hs⟩,?_⟩;let e:=r.length;simp only[BM]at e;omega
def Inv.list_inj (I:Inv X zB Y H s) (h:SqL X.K H a xs) (h':SqL X.K H a ys):xs=ys:=by
 let⟨its,r,⟨o,n,e,_,_,d⟩,_⟩:=I.list h;let⟨its',r',⟨o',n',e',_,_,d'⟩,_⟩:=I.list h';rw[e]at e';ext e';rw[d]at d';injection d' with d1 _
 have:its=its':=by simpa using Bo Array.toList d1
 subst this;calc r.inj r'
def Inv.tuple_inj (I:Inv X zB Y H s) (h:SqT X.K H a xs) (h':SqT X.K H a ys):xs=ys:=by
 let⟨its,r,⟨o,e,_,n,d⟩,_⟩:=I.tuple h;let⟨its',r',⟨o',e',_,n',d'⟩,_⟩:=I.tuple h';rw[e]at e';ext e';rw[d]at d';injection d' with d1 _
 have:its=its':=by simpa using Bo Array.toList d1
 subst this;calc r.inj r'
end
abbrev Cx.wish (X:Cx) (E:Yc):Cx:={ X with xe:=E }
abbrev Cx.nox (X:Cx):Cx:=X.wish λ_ _=>False
def Cx.Ok.wish {X:Cx} (ok:X.Ok) (E:Yc):(X.wish E).Ok :=
 ⟨ok.mod,ok.kind,ok.glob,ok.blt,ok.above,ok.inj,ok.has,ok.cab,ok.hd,ok.frames,ok.stk,ok.exf,ok.bs,ok.bsz,ok.noex,ok.exfs,ok.funs,ok.frf⟩
def Cx.Ok.unwish {X:Cx} {E:Yc} (ok:(X.wish E).Ok):X.Ok :=
 ⟨ok.mod,ok.kind,ok.glob,ok.blt,ok.above,ok.inj,ok.has,ok.cab,ok.hd,ok.frames,ok.stk,ok.exf,ok.bs,ok.bsz,ok.noex,ok.exfs,ok.funs,ok.frf⟩
section
variable {X:Cx} {zB:Yd} {Y:St} {H:Hp} {s:Yl} {E:Yc}
def Inv.wish (I:Inv X zB Y H s) (E:Yc):Inv (X.wish E) zB Y H s:=⟨I.ok.wish E,I.os,I.bare,I.base,I.loc,I.cell,I.free,I.freeC,I.pin,I.hok,I.len⟩
def Inv.unwish (I:Inv (X.wish E) zB Y H s):Inv X zB Y H s:=⟨I.ok.unwish,I.os,I.bare,I.base,I.loc,I.cell,I.free,I.freeC,I.pin,I.hok,I.len⟩
def SP.unwish {D:Ends} {f:Flow} {s':Yl} (h:SP (X.wish E) zB D f s'):SP X zB D f s':=by
 cases f with
 |next=>let⟨Y',H',I,q⟩:=h;calc ⟨Y',H',I.unwish,q⟩
 |brk=>let⟨Y',H',I,q⟩:=h;calc ⟨Y',H',I.unwish,q⟩
 |cont=>let⟨Y',H',I,q⟩:=h;calc ⟨Y',H',I.unwish,q⟩
 |ret u=>let⟨v,Y',H',I,r,q⟩:=h;calc ⟨v,Y',H',I.unwish,r,q⟩
def PSs.nox {st:Yy} {t:TS} (h:PSs X.nox st t):PSs X st t:=λzB s Y H D I hw=>
 AX (h zB s Y H D (I.wish _) hw) (λ_ _ q=>q.unwish) λ_ _ z=>False.elim z
end
section
variable {X:Cx} {st:Stmt} {rest:Yy} {t u:TS} {e:Expr} {te:TE} {pos:Pos}
def Zo:TS:=λD Y H=>D.nx Y H
def bV (t u:TS):TS:=λD Y H=>t { D with nx:=u D } Y H
def gG:PSs X [] Zo:=λ_ _ Y H _ I h=>wpAny_execs_nil ⟨Y,H,I,h⟩
def YT (h1:PS X st t) (h2:PSs X rest u):PSs X (st::rest) (bV t u):=by
 intro zB s Y H D I h;refine wpAny_execs_cons (thn (h1 zB s Y H { D with nx:=u D } I h) λf s1 q=>?_);cases f with
 |next=>
  let⟨Y',H',I',q⟩:=q;calc h2 zB s1 Y' H' D I' q
 |ret v=>calc q
 |brk=>calc q
 |cont=>calc q
def jE (h1:PS X st t):PSs X [st] t:=by
 intro zB s Y H D I h;refine wpAny_execs_cons (thn (h1 zB s Y H D I h) λf s1 q=>?_);cases f with
 |next=>calc wpAny_execs_nil q
 |ret v=>calc q
 |brk=>calc q
 |cont=>calc q
def Inv.quiet {zB:Yd} {Y:St} {H:Hp} {s:Yl} (I:Inv X zB Y H s):interactive X.env=false:=by simp[interactive,I.ok.kind]
def aQ (te:TE):TS:=λD Y H=>te Y H λ_ H1=>D.nx Y H1
def US (he:PE X e te) (hs:swapsWith e none pos.line X.env=pure false:=by rfl):PS X (.Expr e pos) (aQ te):=by
 intro zB s Y H D I h;calc wpAny_Expr_any (thn (he zB s Y H _ I h) λv s1 ⟨x,H1,I1,r1,q1⟩=>⟨Y,H1,I1,q1⟩) I.quiet hs
def Xr (te:TE):TS:=λD Y H=>te Y H D.rt
def Y8 (he:PE X e te):PS X (.Return (some e) pos) (Xr te):=by
 intro zB s Y H D I h;calc wpAny_Return_some (thn (he zB s Y H _ I h) λv s1 ⟨x,H1,I1,r1,q1⟩=>⟨x,Y,H1,I1,r1,q1⟩)
def S6 (c:TT) (t u:TS):TS:=λD Y H=>c Y H λb H1=>if b=true then t D Y H1 else u D Y H1
def Ut {c:Expr} {a b:Yy} {tc:TT} (hc:PT X c tc) (ha:PSs X a t) (hb:PSs X b u):PS X (.If c a b pos) (S6 tc t u):=by
 intro zB s Y H D I h;refine wpAny_If (thn (hc zB s Y H _ I h) λd s1 ⟨H1,I1,q1⟩=>?_);cases d with
 |true=>calc ha zB s1 Y H1 D I1 q1
 |false=>calc hb zB s1 Y H1 D I1 q1
end
abbrev TG:=V->St->Hp->(St->Hp->Prop)->Prop
abbrev TGs:=List V->St->Hp->(St->Hp->Prop)->Prop
def PG (X:Cx) (target:Expr) (t:TG):Prop :=
 ∀ (zB:Yd) (s:Yl) (Y:St) (H:Hp) (v:V) (u:Yu) (Q:St->Hp->Prop),Inv X zB Y H s->zk v u->t v Y H Q ->
  wpAny (model X.prog X.w) X.A (assign target X.env u) (λ_ s'=>∃ Y' H',Inv X zB Y' H' s'/\Q Y' H') X.xe s
def PGs (X:Cx) (ts:Yi) (t:TGs):Prop :=
 ∀ (zB:Yd) (s:Yl) (Y:St) (H:Hp) (vs:List V) (us:Yf) (Q:St->Hp->Prop),Inv X zB Y H s->za vs us->t vs Y H Q ->
  wpAny (model X.prog X.w) X.A (assignInOrder ((assignEach ts X.env).map (·.2)) us) (λ_ s'=>∃ Y' H',Inv X zB Y' H' s'/\Q Y' H') X.xe s
abbrev Lq:=V->V->V->Hp->(Hp->Prop)->Prop
def Nz (X:Cx) (t:Lq):Prop :=
 ∀ (zB:Yd) (s:Yl) (Y:St) (H:Hp) (o i v:V) (ov iv u:Yu) (Q:Hp->Prop),Inv X zB Y H s->zk o ov->zk i iv->zk v u->t o i v H Q ->
  wpAny (model X.prog X.w) X.A (setItem ov iv u) (λ_ s'=>∃ H',Inv X zB Y H' s'/\Q H') X.xe s
section
variable {X:Cx} {pos:Pos}
def Ed (i:Nat):TG:=λv Y H Q=>Q (Y.set i (some v)) H
def SU {i:Nat} {x:Str} (hN:X.N.Nodup) (hi:X.N[i]?=some x) (hx:Loc X.env.scope x) (hf:X.fn x=true\/X.env.scope.names.lookup x=some .local:=by first|exact .inl rfl|exact .inr rfl|assumption):PG X (.Name x pos) (Ed i):=by
 intro zB s Y H v u Q I r h;calc wpAny_assign_Name (QM I hN hi hx r (λs' I'=>⟨_,H,I',h⟩) hf)
def SI:TGs:=λvs Y H Q=>vs=[]/\Q Y H
def Mg (t:TG) (u:TGs):TGs:=λvs Y H Q=>∃ v r,vs=v::r/\t v Y H λY' H'=>u r Y' H' Q
def bM:PGs X [] SI:=by
 intro zB s Y H vs us Q I r h;let⟨e,h⟩:=h;subst e;ext r;calc assignInOrder_nil ⟨Y,H,I,h⟩
def X8 {e:Expr} {es:Yi} {t:TG} {u:TGs} (h1:PG X e t) (h2:PGs X es u)
  (hs:(assignEach (e::es) X.env).map (·.2)=assign e X.env::(assignEach es X.env).map (·.2):=by rfl):PGs X (e::es) (Mg t u):=by
 intro zB s Y H vs us Q I r h;let⟨v,vr,e1,h⟩:=h;subst e1;cases r with
 |cons r rr=>
  rw[hs];refine assignInOrder_cons (thn (h1 zB s Y H _ _ _ I r h) λ_ s1 ⟨σ1,H1,I1,q1⟩=>?_);calc h2 zB s1 σ1 H1 _ _ Q I1 rr q1
def Nv (K:Yb) (n:Nat) (t:TGs):TG:=λv Y H Q=>∃ a xs,v=.ref a/\SqT K H a xs/\xs.length=n/\t xs Y H Q
def Vs {es:Yi} {k:Nat} {t:TGs} {n:Nat} (hc:X.calm=true) (h:PGs X es t)
  (hn:(assignEach es X.env).length=n:=by rfl) (hst:(assignEach es X.env).findIdx? (·.1)=none:=by rfl):PG X (.Tuple es k pos) (Nv X.K n t):=by
 intro zB s Y H v u Q I r hw;let⟨a,xs,e1,hq,hl,hw⟩:=hw;subst e1;ext r;let⟨its,rv,ht,hz⟩:=I.tuple hq;refine assign_Tuple_tuple (I.ok.hd hc) ht (by simp[hn,<-hl,rv.length]) hst λh' hx=>?_;let I1:Inv X zB Y H { s with heap:=h' }:=I.kept (t':=s.toks) λb o e=>hx b o (Ad (AH e)) e;calc h zB _ Y H xs _ Q I1 (~~~rv) hw
def lJ (to ti:TE) (t:Lq):TG:=λv Y H Q=>to Y H λo H1=>ti Y H1 λi H2=>t o i v H2 λH3=>Q Y H3
def Zi {o i:Expr} {to ti:TE} {t:Lq} (ho:PE X o to) (hi:PE X i ti) (hs:Nz X t)
  (ha:∀ v,assign (.Subscript o i pos) X.env v=(do
   let ov <- holding [v] (eval o X.env);let iv <- holding [v,ov] (eval i X.env);standAt pos;holding [v,ov,iv] (setItem ov iv v);release [v,ov,iv] []):=by intro _;rfl):PG X (.Subscript o i pos) (lJ to ti t):=by
 intro zB s Y H v u Q I r h;rw[ha];refine AA (CD (thn (ho zB s Y H _ I h) λov s1 ⟨x,H1,I1,r1,q1⟩=>?_));refine AA (CD (thn (hi zB s1 Y H1 _ I1 q1) λiv s2 ⟨y,H2,I2,r2,q2⟩=>?_));refine AA (C3 (AA (CD (thn (hs zB s2 Y H2 x y v ov iv u _ I2 r1 r2 r q2) λ_ s3 ⟨H3,I3,q3⟩=>?_))));calc wpAny_release ⟨Y,H3,I3,q3⟩
def JF (te:TE) (g:TG):TS:=λD Y H=>te Y H λx H1=>g x Y H1 D.nx
def Wl {tg e:Expr} {te:TE} {g:TG} (he:PE X e te) (hg:PG X tg g) (hs:swapsWithSole [tg] e pos.line X.env=pure false:=by rfl) (hw:swappedStores [tg] e X.env=pure none:=by rfl)
  (h1:(assignEach [tg] X.env).map (·.2)=[assign tg X.env]:=by rfl):PS X (.Assign [tg] e pos) (JF te g):=by
 intro zB s Y H D I h;refine wpAny_Assign_stores (thn (he zB s Y H _ I h) λv s1 ⟨x,H1,I1,r1,q1⟩=>?_) hs hw;rw[h1];calc thn (hg zB s1 Y H1 x v _ I1 r1 q1) λ_ s2 q=>q
def fE {i:Nat} {x:Str} {e:Expr} {te:TE} {pos':Pos} (hN:X.N.Nodup) (hi:X.N[i]?=some x) (hx:Loc X.env.scope x) (he:PE X e te) (hs:swapsWith e (some (.Name x pos')) pos.line X.env=pure false:=by rfl) (hf:X.fn x=true\/X.env.scope.names.lookup x=some .local:=by first|exact .inl rfl|exact .inr rfl|assumption) :
  PS X (.Assign [.Name x pos'] e pos) (JF te (Ed i)):=by
 intro zB s Y H D I h;refine wpAny_Assign_Name (thn (he zB s Y H _ I h) λv s1 ⟨y,H1,I1,r1,q1⟩=>?_) hs;calc QM I1 hN hi hx r1 (λs2 I2=>⟨_,H1,I2,q1⟩) hf
def Ru (c:TT) (tb:TS):TS:=λD Y H=>∃ W:Nat->St->Hp->Prop,(∃ m,W m Y H) /\ ∀ m Y H,W m Y H ->
 c Y H λb H1=>if b=true then ∃ N:St->Hp->Prop,(∀ Y' H',N Y' H' -> ∃ m',m'<m/\W m' Y' H')/\tb { D with nx:=N,ct:=N,bk:=D.nx } Y H1 else D.nx Y H1
def jB {c:Expr} {body:Yy} {tc:TT} {tb:TS} (hp:PassesOwn (model X.prog X.w) X.A X.env X.xe) (hc:PT X c tc) (hb:PSs X body tb):PS X (.While c body [] pos) (Ru tc tb):=by
 intro zB s Y H D I h;let⟨W,⟨m0,w0⟩,turn⟩:=h;refine wpAny_While (codeAny_whileLoop (λn s'=>∃ Y' H',Inv X zB Y' H' s'/\W n Y' H') ?_ m0 ⟨Y,H,I,w0⟩);rintro n s1 ⟨σ1,H1,I1,w1⟩;refine wpAny_passesOwn hp (thn (hc zB s1 σ1 H1 _ I1 (turn n σ1 H1 w1)) λb s2 ⟨H2,I2,q2⟩=>?_);cases b with
 |true=>
  let⟨N,hN,q2⟩:=q2;rw[AD rfl];refine wpAny_passesOwn hp (thn (hb zB s2 σ1 H2 _ I2 q2) λf s3 q3=>?_);cases f with
  |next=>
   let⟨σ3,H3,I3,n3⟩:=q3;let⟨m',hm,w3⟩:=hN σ3 H3 n3;calc ⟨m',hm,σ3,H3,I3,w3⟩
  |cont=>
   let⟨σ3,H3,I3,n3⟩:=q3;let⟨m',hm,w3⟩:=hN σ3 H3 n3;calc ⟨m',hm,σ3,H3,I3,w3⟩
  |brk=>calc q3
  |ret v=>calc q3
 |false=>
  rw[AE Ab];calc wpAny_execs_nil ⟨σ1,H2,I2,q2⟩
end
structure It where
 go:Nat->Hp->Prop
 yld:Nat->Hp->V->Hp->Prop
 stop:Nat->Hp->Prop
def Bd (X:Cx) (zB:Yd) (H:Hp) (b:Yt):Prop :=
 H b=none/\b≠X.env.locals/\b∉X.fs/\(b∈X.ex\/⇑X.s₀<=b)/\(∀ x c,X.env.cells.lookup x=some c->c≠b) /\ ∀ p∈X.pn++zB,p.1≠b
def Inv.fpOk {X:Cx} {zB:Yd} {Y:St} {H H':Hp} {s:Yl} {b:Yt} (I:Inv X zB Y H s) (hb:⇑s<=b) (hn:H' b=none):Bd X zB H' b:=by
 refine ⟨hn,Cz (A0 I.lt hb),I.nofs hb,.inr (Ar I.sz hb),λx c e z=>?_,λp hp z=>?_⟩
 .obtain ⟨v,q⟩:=I.cell x c e;exact absurd (A0 q.lt (by rw[z];calc hb)) (BY _)
 .exact absurd (A0 (AH (I.pin p hp).1) (by rw[z];calc hb)) (BY _)
structure Turn (P:Ym) (w:Yo) (K:Yb) (tg:Expr) (J:It) (fp:Yg) (it:Yt) (tn:Nat->Heap->Prop):Prop where
 mem:it∈fp
 obj:∀ i h,tn i h -> ∀ b∈fp,∃ o,h.get? b=some o /\ ∀ v,o.data≠.cell v
 keep:∀ i h h',tn i h->(∀ b∈fp,∀ o,h.get? b=some o->h'.get? b=some o)->tn i h'
 item:∀ (X:Cx),X.prog=P->X.w=w->X.K=K->X.calm=true -> ∀ (i:Nat) (zB:Yd) (s:Yl) (Y:St) (H:Hp) (E:Yc),Inv X zB Y H s->(∀ b∈fp,Bd X zB H b)->tn i s.heap->J.go i H ->
  wpAny (model P w) X.A (pyNext (.ref it)) (λr s1=>∃ u,r=some u /\
   wpAny (model P w) X.A (letOwnedTupleGo tg (.ref it) u) (λ_ s2=>∃ x H',Inv X zB Y H' s2/\zk x u/\J.yld i H x H'/\tn (i+1) s2.heap /\ ∀ b∈fp,H' b=none) E s1) E s
 done:∀ (X:Cx),X.prog=P->X.w=w->X.K=K->X.calm=true -> ∀ (i:Nat) (zB:Yd) (s:Yl) (Y:St) (H:Hp) (E:Yc),Inv X zB Y H s->(∀ b∈fp,Bd X zB H b)->tn i s.heap->J.stop i H ->
  wpAny (model P w) X.A (pyNext (.ref it)) (λr s1=>r=none/\Inv X zB Y H s1) E s
 self:∀ (A:Yn) (i:Nat) (s:Yl) (Q:Yc) (E:Yc),tn i s.heap->Q (.ref it) s->wpAny (model P w) A (pyIter (.ref it)) Q E s
abbrev TI:=St->Hp->(It->Hp->Prop)->Prop
def PIE (X:Cx) (zB:Yd) (Y:St) (tg:Expr) (R:It->Hp->Prop) (itv:Yu) (s2:Yl):Prop :=
 ∃ (it:Yt) (fp:Yg) (tn:Nat->Heap->Prop) (J:It) (H':Hp),itv=.ref it/\Inv X zB Y H' s2/\Turn X.prog X.w X.K tg J fp it tn/\tn 0 s2.heap/\(∀ b∈fp,Bd X zB H' b)/\R J H'
def PI (X:Cx) (tg iter:Expr) (wi:TI):Prop :=
  ∀ (zB:Yd) (s:Yl) (Y:St) (H:Hp) (R:It->Hp->Prop),Inv X zB Y H s->wi Y H R ->
    wpAny (model X.prog X.w) X.A (eval iter X.env) (λv s1=>wpAny (model X.prog X.w) X.A (pyIter v) (PIE X zB Y tg R) X.xe s1) X.xe s
def Hy {M:Model} {A:Yn} {E:Yc} {s:Yl} {tg:Expr} {it:Yt} {u:Yu} {o:Obj} {n:String} {vs:Yp} {Q:Unit->Shared->Prop} (ho:s.heap.get? it=some o) (hc:o.cls=.type n) (hd:o.data=.fields vs)
    (hn:["enumerate", "zip", "dict_itemiterator", "dict_reverseitemiterator", "odict_iterator", "itertools.zip_longest", "itertools.pairwise"].contains n=false) (hQ:Q Unit.unit s):wpAny M A (letOwnedTupleGo tg (.ref it) u) Q E s:=by
  erw[letOwnedTupleGo]
  cases tg <;> first
    |calc AB hQ
    | (cases u <;> first
        |calc AB hQ
        | (refine AA (wpAny_load ho ?_)
           rw[hc,hd];show wpAny M A (if (["enumerate", "zip", "dict_itemiterator", "dict_reverseitemiterator", "odict_iterator", "itertools.zip_longest", "itertools.pairwise"].contains n&&vs[0]?==some (rawInt _))=true then _ else _) Q E s;rw[AE (by intro h;rw[hn,Bool.false_and]at h;ext h)];calc AB hQ))
def Itl (K:Yb) (a:Yt):It :=
 ⟨λi H=>∃ xs x,SqL K H a xs/\xs[i]?=some x,λi H x H'=>H'=H /\ ∀ xs,SqL K H a xs->xs[i]?=some x,λi H=>∃ xs,SqL K H a xs/\xs.length<=i⟩
def Itt (K:Yb) (a:Yt):It :=
 ⟨λi H=>∃ xs x,SqT K H a xs/\xs[i]?=some x,λi H x H'=>H'=H /\ ∀ xs,SqT K H a xs->xs[i]?=some x,λi H=>∃ xs,SqT K H a xs/\xs.length<=i⟩
def Itr (lo:Int) (n:Nat):It:=⟨λi _=>i<n,λi H x H'=>H'=H/\x=.int (lo+i),λi _=>n<=i⟩
def VU {P:Ym} {w:Yo} {K:Yb} {tg:Expr} (a it:Yt):Turn P w K tg (Itl K a) [it] it (λi h=>h.IsListIter it a i) where
 mem:=by simp
 obj:=λi h st b hb=>by
  let e:b=it:=by simpa using hb
  subst e;let⟨o,e,c,d⟩:=st;exact ⟨o,e,λv z=>by rw[d]at z;ext z⟩
 keep:=λi h h' st k=>st.at λo e=>k it (by simp) o e;item:=by
  intro X hP hw hK hc i zB s Y H E I hf st hg;subst hP hw hK;let⟨xs,x,hq,hx⟩:=hg;let⟨its,rv,p,hz⟩:=I.list hq;let⟨u,hu,ru⟩:=rv.get hx;let⟨f0,f1,f2,f3,f4,f5⟩:=hf it (by simp);refine wpAny_pyNext_list_item st p.isList (x:=u) (~~~hu) λh' st' sb=>?_;let I1:Inv X zB Y H { s with heap:=h' }:=I.turned (t':=s.toks) (λb o hb e=>(sb.2 b hb).trans e) f0 f1 f3 f4 f5;let⟨o,e,c,d⟩:=id st';exact ⟨u,rfl,Hy (s:={ s with heap:=h' }) e c d () ⟨x,H,I1,ru,⟨rfl,λys hy=>by rw[I.list_inj hy hq];calc hx⟩,st',λb hb=>(hf b hb).1⟩⟩
 done:=by
  intro X hP hw hK hc i zB s Y H E I hf st hg;subst hP hw hK;let⟨xs,hq,hx⟩:=hg;let⟨its,rv,p,hz⟩:=I.list hq;let⟨f0,f1,f2,f3,f4,f5⟩:=hf it (by simp);let hl:=rv.length;exact wpAny_pyNext_list_end (I.ok.hd hc) st p.isList (by simp;omega) λh' eb=>⟨rfl,I.turned (t':=s.toks) (λb o hb e=>eb b o hb e) f0 f1 f3 f4 f5⟩
 self:=λ_ _ _ _ _ st h=>wpAny_pyIter_listiter st h
def YG {P:Ym} {w:Yo} {K:Yb} {tg:Expr} (a it:Yt):Turn P w K tg (Itt K a) [it] it (λi h=>h.IsTupleIter it a i) where
 mem:=by simp
 obj:=λi h st b hb=>by
  let e:b=it:=by simpa using hb
  subst e;let⟨o,e,c,d⟩:=st;exact ⟨o,e,λv z=>by rw[d]at z;ext z⟩
 keep:=λi h h' st k=>st.at λo e=>k it (by simp) o e;item:=by
  intro X hP hw hK hc i zB s Y H E I hf st hg;subst hP hw hK;let⟨xs,x,hq,hx⟩:=hg;let⟨its,rv,p,hz⟩:=I.tuple hq;let⟨u,hu,ru⟩:=rv.get hx;let⟨f0,f1,f2,f3,f4,f5⟩:=hf it (by simp);refine wpAny_pyNext_tuple_item st (show s.heap.IsTuple a its.toArray from p) (x:=u) (~~~hu) λh' st' sb=>?_;let I1:Inv X zB Y H { s with heap:=h' }:=I.turned (t':=s.toks) (λb o hb e=>(sb.2 b hb).trans e) f0 f1 f3 f4 f5;let⟨o,e,c,d⟩:=id st';exact ⟨u,rfl,Hy (s:={ s with heap:=h' }) e c d () ⟨x,H,I1,ru,⟨rfl,λys hy=>by rw[I.tuple_inj hy hq];calc hx⟩,st',λb hb=>(hf b hb).1⟩⟩
 done:=by
  intro X hP hw hK hc i zB s Y H E I hf st hg;subst hP hw hK;let⟨xs,hq,hx⟩:=hg;let⟨its,rv,p,hz⟩:=I.tuple hq;let⟨f0,f1,f2,f3,f4,f5⟩:=hf it (by simp);let hl:=rv.length;exact wpAny_pyNext_tuple_end (I.ok.hd hc) st (show s.heap.IsTuple a its.toArray from p) (by simp;omega) λh' eb=>⟨rfl,I.turned (t':=s.toks) (λb o hb e=>eb b o hb e) f0 f1 f3 f4 f5⟩
 self:=λ_ _ _ _ _ st h=>wpAny_pyIter_tupleiter st h
def iR {P:Ym} {w:Yo} {K:Yb} {tg:Expr} (it:Yt) (lo:Int) (n:Nat):Turn P w K tg (Itr lo n) [it] it (λi h=>IsRangeIter h it (lo+(i:Nat)*1) ((n:Int)-(i:Nat)) 1) where
 mem:=by simp
 obj:=λi h st b hb=>by
  let e:b=it:=by simpa using hb
  subst e;exact ⟨_,st,λv z=>by
   let z':Data.fields _=Data.cell v:=z;ext z'⟩
 keep:=λi h h' st k=>k it (by simp) _ st;item:=by
  intro X hP hw hK hc i zB s Y H E I hf st hg;subst hP hw hK;let⟨f0,f1,f2,f3,f4,f5⟩:=hf it (by simp);let W:=Walks.range (prog:=X.prog) (w:=X.w) (I.ok.hd hc) it lo 1 n;refine W.item i s _ _ hg st λv h' tk hv st' kk=>?_;let⟨t,rfl⟩:=hv;let I1:Inv X zB Y H { s with heap:=h',toks:=tk }:=I.turned (λb o hb e=>kk b o (~~~hb) e) f0 f1 f3 f4 f5;refine ⟨_,rfl,Hy (s:={ s with heap:=h',toks:=tk }) (n := "range_iterator") st' rfl rfl () ⟨.int (lo+i),H,I1,⟨t,?_⟩,⟨rfl,rfl⟩,st',λb hb=>(hf b hb).1⟩⟩;rw[Int.mul_one]
 done:=by
  intro X hP hw hK hc i zB s Y H E I hf st hg;subst hP hw hK;let⟨f0,f1,f2,f3,f4,f5⟩:=hf it (by simp);exact wpAny_pyNext_range_end (I.ok.hd hc) st (by have:n<=i:=hg;omega) λh' eb=>⟨rfl,I.turned (t':=s.toks) (λb o hb e=>eb b o hb e) f0 f1 f3 f4 f5⟩
 self:=λ_ _ _ _ _ st h=>wpAny_pyIter_rangeiter st h
section
variable {X:Cx} {tg:Expr}
def TR {zB:Yd} {Y:St} {H:Hp} {s:Yl} {R:It->Hp->Prop} {E:Yc} {lo hi:Int} {t u v:Tok} {tk:Nat} (I:Inv X zB Y H s) (h1 : -(2 ^ 62)<=lo) (h2:lo<2 ^ 62) (h3 : -(2 ^ 62)<=hi) (h4:hi<2 ^ 62)
  (q:R (Itr lo (hi-lo).toNat) H):wpAny (model X.prog X.w) X.A (pyIter (.ref ⇑s)) (PIE X zB Y tg R) E { s with heap:=s.heap.push { cls:=.type "range", data:=.fields #[.int lo t,.int hi u,.int 1 v] },toks:=tk }:=by
 calc wpAny_pyIter_range (IsRange.new ..) (small_one h1 h2 h3 h4) ?_;let I1:Inv X zB Y H { s with heap:=s.heap.push { cls:=.type "range", data:=.fields #[.int lo t,.int hi u,.int 1 v] },toks:=tk }:=I.kept λb o e=>AG _ e
 refine ⟨(s.heap.push { cls:=.type "range", data:=.fields #[.int lo t,.int hi u,.int 1 v] }).objs.size,[(s.heap.push { cls:=.type "range", data:=.fields #[.int lo t,.int hi u,.int 1 v] }).objs.size],_,_,H,rfl,
  I1.kept (t':=tk) λb o e=>AG _ e,iR _ lo (hi-lo).toNat,?_,λb hb=>?_,q⟩
 .have e1:lo+((0:Nat):Int)*1=lo:=by simp
  let e2:(((hi-lo).toNat:Nat):Int)-((0:Nat):Int)=Builtin.Range.rangeSize lo hi 1:=by rw[rangeSize_one];split <;> omega
  show IsRangeIter _ _ (lo+((0:Nat):Int)*1) ((((hi-lo).toNat:Nat):Int)-((0:Nat):Int)) 1;rw[e1,e2];exact AM _ rfl
 .have e:b=(s.heap.push { cls:=.type "range", data:=.fields #[.int lo t,.int hi u,.int 1 v] }).objs.size:=by simpa using hb
  subst e;calc I1.fpOk (AF _) (I1.hok.fresh (AF _))
def lT (ta:TA):TI:=λY H R=>ta Y H λvs H1=>∃ j:Int,vs=[.int j] /\ -(2 ^ 62)<=j/\j<2 ^ 62/\R (Itr 0 j.toNat) H1
def lQ {a:Expr} {ta:TA} {p pos:Pos} (hg:Gl X "range") (hm:X.mg "range" = none) (ha:PA X [a] ta) (hs:starEach [a] X.env=[(false,eval a X.env)]:=by rfl):PI X tg (.Call (.Name "range" p) [a] [] pos) (lT ta):=by
 intro zB s Y H R I h;refine Call_ (E5 I hg hm boot_range (PyProof.Rows.callWith_type1 (thn (ha pos zB s Y H _ I h) λus s1 ⟨vs,H1,I1,r1,q1⟩=>?_) hs rfl));let⟨j,e,q1,q2,q⟩:=q1;subst e;cases r1 with
 |cons r rr=>
  ext rr;let⟨t,rfl⟩:=r;calc call_range_1 (TR I1 () () q1 q2 (~~~q))
def Pc (wi:TI) (g:TG) (tb:TS):TS:=λD Y H=>wi Y H λJ H1=>∃ W:Nat->Nat->St->Hp->Prop,(∃ m,W 0 m Y H1) /\ ∀ i m Y H,W i m Y H ->
 (J.stop i H/\D.nx Y H)\/(J.go i H /\ ∃ N:St->Hp->Prop,(∀ Y' H',N Y' H' -> ∃ m',m'<m/\W (i+1) m' Y' H') /\ ∀ x H',J.yld i H x H'->g x Y H' λσ2 H2=>tb { D with nx:=N,ct:=N,bk:=D.nx } σ2 H2)
def Ew (fp:Yg) (h:Heap):List (Addr × Obj):=fp.filterMap λb=>(h.get? b).map λo=>(b,o)
def EM {fp:Yg} {h:Heap} {b:Yt} {o:Obj} (hb:b∈fp) (e:h.get? b=some o):(b,o)∈Ew fp h:=List.mem_filterMap.mpr ⟨b,hb,by rw[e];rfl⟩
def QJ {fp:Yg} {h:Heap} {p:Addr × Obj} (hp:p∈Ew fp h):p.1∈fp/\h.get? p.1=some p.2:=by
 let⟨b,hb,e⟩:=List.mem_filterMap.mp hp;cases q:h.get? b with
 |none=>rw[q]at e;ext e
 |some o=>
  rw[q]at e;let e':(b,o)=p:=Bh e;subst e';calc ⟨hb,q⟩
def Inv.pinned {zB:Yd} {Y:St} {H:Hp} {s:Yl} {fp:Yg} (I:Inv X zB Y H s) (hf:∀ b∈fp,Bd X zB H b) (ho:∀ b∈fp,∃ o,s.heap.get? b=some o /\ ∀ v,o.data≠.cell v):Inv X (zB++Ew fp s.heap) Y H s :=
 I.pins_of λp hp=>(AO.mp hp).elim (λz=>I.pin p (Ax _ z)) λz=>by
  let⟨hb,e⟩:=QJ z;let⟨f0,f1,f2,_⟩:=hf p.1 hb;let⟨o,e',d⟩:=ho p.1 hb;rw[e]at e';ext e';calc ⟨e,f0,f1,f2,d⟩
def Inv.unpinned {zB pl:Yd} {Y:St} {H:Hp} {s:Yl} (I:Inv X (zB++pl) Y H s):Inv X zB Y H s:=I.pins_of λp hp=>I.pin p (Ax _ (Cm _ hp))
def VW {iter:Expr} {body:Yy} {wi:TI} {g:TG} {tb:TS} {pos:Pos} (hp:PassesOwn (model X.prog X.w) X.A X.env X.xe) (hc:X.calm=true) (hi:PI X tg iter wi) (hg:PG X tg g) (hb:PSs X body tb)
  (hs:∀ x,foldedSetIterable iter X.env x=pure x:=by intro _;rfl):PS X (.For tg iter body [] pos) (Pc wi g tb):=by
 intro zB s Y H D I h;refine wpAny_For (thn (hi zB s Y H _ I h) λv s1 h1=>thn h1 λitv s2 h2=>?_) hs;let⟨it,fp,tn,J,H2,e,I2,T,st2,f2,W,⟨m0,w0⟩,turn⟩:=h2;subst e;let stat:∀ {H':Hp},(∀ b∈fp,H' b=none) -> ∀ b∈fp,Bd X zB H' b:=λhn b hb=>⟨hn b hb,(f2 b hb).2⟩;refine codeAny_forLoop_any (λn s'=>∃ i Y' H',Inv X zB Y' H' s'/\tn i s'.heap/\(∀ b∈fp,H' b=none)/\W i n Y' H') ?_ m0 ⟨0,Y,H2,I2,st2,λb hb=>(f2 b hb).1,w0⟩;rintro n s3 ⟨i,σ3,H3,I3,st3,fr3,w3⟩;rcases turn i n σ3 H3 w3 with ⟨stop,qn⟩|⟨go,N,hN,step⟩
 .refine wpAny_passesOwn hp (thn (T.done X rfl rfl rfl hc i zB s3 σ3 H3 X.xe I3 (stat fr3) st3 stop) λr s4 ⟨hr,I4⟩=>?_);subst hr;exact wpAny_execs_nil ⟨σ3,H3,I4,qn⟩
 .refine wpAny_passesOwn hp (thn (T.item X rfl rfl rfl hc i zB s3 σ3 H3 X.xe I3 (stat fr3) st3 go) λr s4 ⟨u,hr,h4⟩=>?_);subst hr;refine wpAny_passesOwn hp (thn h4 λ_ s5 ⟨x,H5,I5,r5,y5,st5,fr5⟩=>?_);let I5':=I5.pinned (stat fr5) (T.obj _ _ st5);refine wpAny_passesOwn hp (thn (hg _ s5 σ3 H5 x u _ I5' r5 (step x H5 y5)) λ_ s6 ⟨σ6,H6,I6,q6⟩=>?_);refine wpAny_passesOwn hp (thn (hb _ s6 σ6 H6 _ I6 q6) λf s7 q7=>?_);let again:∀ {σ7:St} {H7:Hp},Inv X (zB++Ew fp s5.heap) σ7 H7 s7->N σ7 H7 -> ∃ m,m<n /\ ∃ i Y' H',Inv X zB Y' H' s7/\tn i s7.heap/\(∀ b∈fp,H' b=none)/\W i m Y' H':=λ{σ7 H7} I7 n7=>by
   let⟨m',hm,w7⟩:=hN σ7 H7 n7;refine ⟨m',hm,i+1,σ7,H7,I7.unpinned,T.keep _ _ _ st5 λb hb o e=>(I7.pin (b,o) (Ax _ (Ax _ (EM hb e)))).1,λb hb=>?_,w7⟩;let⟨o,e,d⟩:=T.obj _ _ st5 b hb;exact (I7.pin (b,o) (Ax _ (Ax _ (EM hb e)))).2.1
  cases f with
  |next=>let⟨σ7,H7,I7,n7⟩:=q7;calc again I7 n7
  |cont=>let⟨σ7,H7,I7,n7⟩:=q7;calc again I7 n7
  |brk=>let⟨σ7,H7,I7,q7⟩:=q7;calc ⟨σ7,H7,I7.unpinned,q7⟩
  |ret v=>let⟨x7,σ7,H7,I7,r7,q7⟩:=q7;calc ⟨x7,σ7,H7,I7.unpinned,r7,q7⟩
end
abbrev R2:=V->V->Hp->VK->Prop
def OpR (X:Cx) (f:Y2) (r:R2):Prop :=
 ∀ (zB:Yd) (s:Yl) (Y:St) (H:Hp) (x y:V) (v u:Yu) (Q:VK),Inv X zB Y H s->zk x v->zk y u->r x y H Q ->
  wpAny (model X.prog X.w) X.A (f v u) (EP X zB Y Q) X.xe s
def UnR (X:Cx) (f:Value->Sem Value) (r:V->Hp->VK->Prop):Prop :=
 ∀ (zB:Yd) (s:Yl) (Y:St) (H:Hp) (x:V) (v:Yu) (Q:VK),Inv X zB Y H s->zk x v->r x H Q ->
  wpAny (model X.prog X.w) X.A (f v) (EP X zB Y Q) X.xe s
def CY (X:Cx) (f:Yu) (r:List V->Hp->VK->Prop):Prop :=
 ∀ (zB:Yd) (s:Yl) (Y:St) (H:Hp) (xs:List V) (us:Yf) (Q:VK),Inv X zB Y H s->za xs us->r xs H Q ->
  wpAny (model X.prog X.w) X.A (call f us) (EP X zB Y Q) X.xe s
def tOp (r:R2) (ta tb:TE):TE:=λY H Q=>ta Y H λx H1=>tb Y H1 λy H2=>r x y H2 Q
def tUn (r:V->Hp->VK->Prop) (ta:TE):TE:=λY H Q=>ta Y H λx H1=>r x H1 Q
def rI (C:Int->Int->Prop) (g:Int->Int->V):R2:=λx y H Q=>∃ i j,x=.int i/\y=.int j/\C i j/\Q (g i j) H
def rI0 (g:Int->Int->V):R2:=λx y H Q=>∃ i j,x=.int i/\y=.int j/\Q (g i j) H
def rU (g:Int->V):V->Hp->VK->Prop:=λx H Q=>∃ i,x=.int i/\Q (g i) H
section
variable {X:Cx} {a b c:Expr} {ta tb tc:TE} {pos:Pos}
def Ks (ha:PE X a ta) (hb:PE X b tb) {zB:Yd} {s:Yl} {Y:St} {H:Hp} {R:V->V->Hp->Prop} (I:Inv X zB Y H s)
  (h:ta Y H λx H1=>tb Y H1 λy H2=>R x y H2) {Q:Yc} {f:Y2}
  (hf:∀ v u s2 x y H2,Inv X zB Y H2 s2->zk x v->zk y u->R x y H2->wpAny (model X.prog X.w) X.A (f v u) Q X.xe s2) :
  wpAny (model X.prog X.w) X.A (eval a X.env) (λv s₁=>wpAny (model X.prog X.w) X.A (eval b X.env) (λu s₂=>wpAny (model X.prog X.w) X.A (f v u) Q X.xe s₂) X.xe s₁) X.xe s:=by
 refine thn (ha zB s Y H _ I h) λv s1 ⟨x,H1,I1,r1,q1⟩=>?_;refine thn (hb zB s1 Y H1 _ I1 q1) λu s2 ⟨y,H2,I2,r2,q2⟩=>?_;calc hf v u s2 x y H2 I2 r1 r2 q2
def ZZ {op:Operator} {r:R2} (ho:OpR X (binaryOp op) r) (ha:PE X a ta) (hb:PE X b tb):PE X (.BinOp a op b pos) (tOp r ta tb):=by
 intro zB s Y H Q I h;calc wpAny_BinOp (Ks ha hb I h λv u s2 x y H2 I2 rx ry q=>ho zB s2 Y H2 x y v u Q I2 rx ry q)
def ZQ {op:UnaryOp} {r:V->Hp->VK->Prop} (ho:UnR X (unaryOp op) r) (ha:PE X a ta):PE X (.UnaryOp op a pos) (tUn r ta):=by
 intro zB s Y H Q I h;calc UnaryOp_ (thn (ha zB s Y H _ I h) λv s1 ⟨x,H1,I1,r1,q1⟩=>ho zB s1 Y H1 x v Q I1 r1 q1)
def opI {f:Y2} {C:Int->Int->Prop} {g:Int->Int->Int}
  (rule:∀ (i j:Int) (t u:Tok) (s:Yl) (Q:Yc) (E:Yc),C i j->Q (.int (g i j) s.toks) { s with toks:=s.toks+1 }->wpAny (model X.prog X.w) X.A (f (.int i t) (.int j u)) Q E s) :
  OpR X f (rI C λi j=> .int (g i j)):=by
 intro zB s Y H x y v u Q I rx ry h;let⟨i,j,rfl,rfl,hc,q⟩:=h;let⟨t,rfl⟩:=rx;let⟨t',rfl⟩:=ry;calc rule i j t t' s _ _ hc ⟨.int (g i j),H,I.tok _,⟨_,rfl⟩,q⟩
def QN {f:Y2} {g:Int->Int->Int}
  (rule:∀ (i j:Int) (t u:Tok) (s:Yl) (Q:Yc) (E:Yc),Q (.int (g i j) s.toks) { s with toks:=s.toks+1 }->wpAny (model X.prog X.w) X.A (f (.int i t) (.int j u)) Q E s) :
  OpR X f (rI0 λi j=> .int (g i j)):=by
 intro zB s Y H x y v u Q I rx ry h;let⟨i,j,rfl,rfl,q⟩:=h;let⟨t,rfl⟩:=rx;let⟨t',rfl⟩:=ry;calc rule i j t t' s _ _ ⟨.int (g i j),H,I.tok _,⟨_,rfl⟩,q⟩
def MC {f:Y2} {g:Int->Int->Bool}
  (rule:∀ (i j:Int) (t u:Tok) (s:Yl) (Q:Yc) (E:Yc),Q (.bool (g i j)) s->wpAny (model X.prog X.w) X.A (f (.int i t) (.int j u)) Q E s) :
  OpR X f (rI0 λi j=> .bl (g i j)):=by
 intro zB s Y H x y v u Q I rx ry h;let⟨i,j,rfl,rfl,q⟩:=h;let⟨t,rfl⟩:=rx;let⟨t',rfl⟩:=ry;calc rule i j t t' s _ _ ⟨.bl (g i j),H,I,rfl,q⟩
def aL (i j:Int):Prop:=0<j/\j<1073741824
def b9 (i j:Int):Prop:=0<=j/\j<=1000000/\i.natAbs<2 ^ 64
def L9 (i j:Int):Prop:=(-(2 ^ 64)<i/\i<2 ^ 64)\/(-(2 ^ 64)<j/\j<2 ^ 64)
def L9.ok {i j:Int} (h:L9 i j):IntMulOk i j:=by
 rcases h with ⟨h1,h2⟩|⟨h1,h2⟩
 .exact .of_left (intBits_le_64 h1 h2)
 .exact .of_right (intBits_le_64 h1 h2)
def TJ:OpR X (binaryOp .Add) (rI0 λi j=> .int (i+j)):=QN λ_ _ _ _ _ _ _ q=>add_int q
def V9:OpR X (binaryOp .Sub) (rI0 λi j=> .int (i-j)):=QN λ_ _ _ _ _ _ _ q=>sub_int q
def W5:OpR X (binaryOp .Mult) (rI L9 λi j=> .int (i*j)):=opI λ_ _ _ _ _ _ _ hc q=>mul_int q hc.ok
def Z9:OpR X (binaryOp .FloorDiv) (rI aL λi j=> .int (i / j)):=opI λi j _ _ _ _ _ hc q=>by
 let h1:(0:Int)<j:=hc.1;let h2:j<1073741824:=hc.2;calc floordiv_int () (by rw[Int.fdiv_eq_ediv_of_nonneg i ()];calc q) (.inl (PyProof.noPylong_small ()))
def W8:OpR X (binaryOp .Mod) (rI (λ_ j=>0<j) λi j=> .int (i % j)):=opI λi j _ _ _ _ _ hc q=>by
 let h1:(0:Int)<j:=hc;calc mod_int' () (by rw[Int.fmod_eq_emod_of_nonneg i ()];calc q)
def eT:OpR X (binaryOp .Pow) (rI b9 λi j=> .int (i ^ j.toNat)):=opI λ_ _ _ _ _ _ _ hc q=>pow_int_small hc.1 hc.2.1 hc.2.2 q
def unI {f:Value->Sem Value} {g:Int->Int}
  (rule:∀ (i:Int) (t:Tok) (s:Yl) (Q:Yc) (E:Yc),Q (.int (g i) s.toks) { s with toks:=s.toks+1 }->wpAny (model X.prog X.w) X.A (f (.int i t)) Q E s) :
  UnR X f (rU λi=> .int (g i)):=by
 intro zB s Y H x v Q I rx h;let⟨i,rfl,q⟩:=h;let⟨t,rfl⟩:=rx;calc rule i t s _ _ ⟨.int (g i),H,I.tok _,⟨_,rfl⟩,q⟩
def Xs:UnR X (unaryOp .USub) (rU λi=> .int (-i)):=unI λ_ _ _ _ _ q=>neg_int q
end
def JI:V->V->Bool
 |.non,.non=>true|.non,.int _=>true|.int _,.non=>true|.non,.bl _=>true|.bl _,.non=>true|.non,.str _=>true|.str _,.non=>true
 |.int _,.int _=>true|.bl _,.bl _=>true|.str _,.str _=>true|.byt _,.byt _=>true
 |.int _,.str _=>true|.str _,.int _=>true|.bl _,.str _=>true|.str _,.bl _=>true
 |_,_=>false
def rEq:R2:=λx y H Q=>JI x y=true/\Q (.bl (decide (x=y))) H
def rNe:R2:=λx y H Q=>JI x y=true/\Q (.bl (!decide (x=y))) H
def Qs {i j:Int}:decide (V.int i=V.int j)=(i==j):=by
 rw[Ex];simp
def Q0 {i j:Bool}:decide (V.bl i=V.bl j)=(i==j):=by
 rw[Ex];simp
def Og {i j:Str}:decide (V.str i=V.str j)=(i==j):=by
 rw[Ex];simp
def Px {i j:Array UInt8}:decide (V.byt i=V.byt j)=(i.toList==j.toList):=by
 rw[Ex];ext i;ext j;simp
section
variable {X:Cx} {a b c:Expr} {ta tb tc:TE} {pos:Pos}
def zn {zB:Yd} {Y:St} {H:Hp} {s:Yl} {Q:VK} {k k':Bool} (I:Inv X zB Y H s) (q:Q (.bl k) H) (e:k=k'):EP X zB Y Q (.bool k') s:=by
 subst e;calc ⟨.bl k,H,I,rfl,q⟩
def RA:OpR X (compareOp .Eq) rEq:=by
 intro zB s Y H x y v u Q I rx ry h;let⟨hs,q⟩:=h;cases x with
 |non=>
  ext rx;cases y with
  |non=>ext ry;calc PySem.EqNone.eq_none_none (zn I q (by simp))
  |bl j=>ext ry;calc PySem.EqNone.eq_none_bool (zn I q (by simp))
  |int j=>let⟨t',rfl⟩:=ry;calc PySem.EqNone.eq_none_int (zn I q (by simp))
  |str j=>let⟨t',rfl⟩:=ry;calc PySem.EqNone.eq_none_str (zn I q (by simp))
  |_=>calc absurd (show false=true from hs) Ab
 |bl i=>
  ext rx;cases y with
  |non=>ext ry;calc PySem.EqNone.eq_bool_none (zn I q (by simp))
  |bl j=>ext ry;calc eq_bool (zn I q Q0)
  |str j=>let⟨t',rfl⟩:=ry;calc PySem.EqMixed.eq_bool_str (zn I q (by simp))
  |_=>calc absurd (show false=true from hs) Ab
 |int i=>
  let⟨t,rfl⟩:=rx;cases y with
  |non=>ext ry;calc PySem.EqNone.eq_int_none (zn I q (by simp))
  |int j=>let⟨t',rfl⟩:=ry;calc eq_int (zn I q Qs)
  |str j=>let⟨t',rfl⟩:=ry;calc PySem.EqMixed.eq_int_str (zn I q (by simp))
  |_=>calc absurd (show false=true from hs) Ab
 |str i=>
  let⟨t,rfl⟩:=rx;cases y with
  |non=>ext ry;calc PySem.EqNone.eq_str_none (zn I q (by simp))
  |bl j=>ext ry;calc PySem.EqMixed.eq_str_bool (zn I q (by simp))
  |int j=>let⟨t',rfl⟩:=ry;calc PySem.EqMixed.eq_str_int (zn I q (by simp))
  |str j=>let⟨t',rfl⟩:=ry;calc eq_str (zn I q Og)
  |_=>calc absurd (show false=true from hs) Ab
 |byt i=>
  let⟨t,rfl⟩:=rx;cases y with
  |byt j=>let⟨t',rfl⟩:=ry;calc PySem.W.eq_bytes (zn I q Px)
  |_=>calc absurd (show false=true from hs) Ab
 |_=>cases y <;> calc absurd (show false=true from hs) Ab
def W9:OpR X (compareOp .NotEq) rNe:=by
 intro zB s Y H x y v u Q I rx ry h;let⟨hs,q⟩:=h;cases x with
 |non=>
  ext rx;cases y with
  |non=>ext ry;calc PySem.EqNone.ne_none_none (zn I q (by simp))
  |bl j=>ext ry;calc PySem.EqNone.ne_none_bool (zn I q (by simp))
  |int j=>let⟨t',rfl⟩:=ry;calc PySem.EqNone.ne_none_int (zn I q (by simp))
  |str j=>let⟨t',rfl⟩:=ry;calc PySem.EqNone.ne_none_str (zn I q (by simp))
  |_=>calc absurd (show false=true from hs) Ab
 |bl i=>
  ext rx;cases y with
  |non=>ext ry;calc PySem.EqNone.ne_bool_none (zn I q (by simp))
  |bl j=>ext ry;calc ne_bool (zn I q (Bo not Q0))
  |str j=>let⟨t',rfl⟩:=ry;calc PySem.EqMixed.ne_bool_str (zn I q (by simp))
  |_=>calc absurd (show false=true from hs) Ab
 |int i=>
  let⟨t,rfl⟩:=rx;cases y with
  |non=>ext ry;calc PySem.EqNone.ne_int_none (zn I q (by simp))
  |int j=>let⟨t',rfl⟩:=ry;calc ne_int (zn I q (Bo not Qs))
  |str j=>let⟨t',rfl⟩:=ry;calc PySem.EqMixed.ne_int_str (zn I q (by simp))
  |_=>calc absurd (show false=true from hs) Ab
 |str i=>
  let⟨t,rfl⟩:=rx;cases y with
  |non=>ext ry;calc PySem.EqNone.ne_str_none (zn I q (by simp))
  |bl j=>ext ry;calc PySem.EqMixed.ne_str_bool (zn I q (by simp))
  |int j=>let⟨t',rfl⟩:=ry;calc PySem.EqMixed.ne_str_int (zn I q (by simp))
  |str j=>let⟨t',rfl⟩:=ry;calc ne_str (zn I q (Bo not Og))
  |_=>calc absurd (show false=true from hs) Ab
 |byt i=>
  let⟨t,rfl⟩:=rx;cases y with
  |byt j=>let⟨t',rfl⟩:=ry;calc PySem.W.ne_bytes (zn I q (Bo not Px))
  |_=>calc absurd (show false=true from hs) Ab
 |_=>cases y <;> calc absurd (show false=true from hs) Ab
def Kc:OpR X (compareOp .Lt) (rI0 λi j=> .bl (decide (i<j))):=MC λ_ _ _ _ _ _ _ q=>lt_int q
def QU:OpR X (compareOp .LtE) (rI0 λi j=> .bl (decide (i<=j))):=MC λ_ _ _ _ _ _ _ q=>le_int q
def Sm:OpR X (compareOp .Gt) (rI0 λi j=> .bl (decide (j<i))):=MC λ_ _ _ _ _ _ _ q=>gt_int q
def OpR.or {f:Y2} {r r':R2} (h:OpR X f r) (h':OpR X f r'):OpR X f (λx y H Q=>r x y H Q\/r' x y H Q):=by
 intro zB s Y H x y v u Q I rx ry q;rcases q with q|q
 .exact h zB s Y H x y v u Q I rx ry q
 .exact h' zB s Y H x y v u Q I rx ry q
def De (b:Expr) {op:CmpOp} (h:op≠.In:=by decide) (h2:op≠.NotIn:=by decide):behindInMarks op b=false:=by
 let e1:(op==CmpOp.In)=false:=by cases op <;> first|rfl|exact absurd rfl h
 let e2:(op==CmpOp.NotIn)=false:=by cases op <;> first|rfl|exact absurd rfl h2
 cases b <;> simp[behindInMarks,e1,e2]
def ZJ {op:CmpOp} {r:R2} (ho:OpR X (compareOp op) r) (ha:PE X a ta) (hb:PE X b tb) (hm:behindInMarks op b=false):PE X (.Compare a [op] [b] pos) (tOp r ta tb):=by
 intro zB s Y H Q I h;calc wpAny_Compare1 (Ks ha hb I h λv u s2 x y H2 I2 rx ry q=>ho zB s2 Y H2 x y v u Q I2 rx ry q) hm
def KO (t:TE):TT:=λY H Q=>t Y H λx H'=>∃ k,x=.bl k/\Q k H'
def XI {op:CmpOp} {r:R2} (ho:OpR X (compareOp op) r) (ha:PE X a ta) (hb:PE X b tb) (hm:behindInMarks op b=false):PT X (.Compare a [op] [b] pos) (KO (tOp r ta tb)):=by
 intro zB s Y H Q I h;refine wpAny_isTrue_Compare1 (thn (ha zB s Y H _ I h) λv s1 ⟨x,H1,I1,r1,q1⟩=>thn (hb zB s1 Y H1 _ I1 q1) λu s2 ⟨y,H2,I2,r2,q2⟩=>
  thn (ho zB s2 Y H2 x y v u _ I2 r1 r2 q2) λc s3 ⟨z,H3,I3,r3,k,e,q3⟩=>?_) hm
 subst e;ext r3;calc E3 ⟨H3,I3,q3⟩
def Rp (r r':R2) (ta tb tc:TE):TE:=λY H Q=>ta Y H λx H1=>tb Y H1 λy H2=>r x y H2 λz H3=>∃ k,z=.bl k /\
 (if k=true then tc Y H3 λw' H4=>r' y w' H4 Q else Q (.bl false) H3)
def YE {op op':CmpOp} {r r':R2} (ho:OpR X (compareOp op) r) (ho':OpR X (compareOp op') r') (ha:PE X a ta) (hb:PE X b tb) (hc:PE X c tc)
  (hm:lastMarks [op,op'] [b,c]=false:=by with_unfolding_all rfl):PE X (.Compare a [op,op'] [b,c] pos) (Rp r r' ta tb tc):=by
 intro zB s Y H Q I h;refine Compare_chain (thn (ha zB s Y H _ I h) λv s1 ⟨x,H1,I1,r1,q1⟩=>chain_link (thn (hb zB s1 Y H1 _ I1 q1) λu s2 ⟨y,H2,I2,r2,q2⟩=>
  thn (ho zB s2 Y H2 x y v u _ I2 r1 r2 q2) λd s3 ⟨z,H3,I3,r3,k,e,q3⟩=>?_)) hm
 subst e;ext r3;calc E3 ?_;cases k with
 |false=>calc ite_ff ⟨.bl false,H3,I3,rfl,q3⟩
 |true=>calc ite_tt (chain_last (thn (hc zB s3 Y H3 _ I3 q3) λw' s4 ⟨z',H4,I4,r4,q4⟩=>ho' zB s4 Y H4 y z' u w' Q I4 r2 r4 q4))
def Gz:(sizeLine:Nat)<2 ^ 63:=by rw[sizeLine_eq];decide
def EH {x:V} {us:Yf} (r:za [x] us):∃ u,us=[u]/\zk x u:=by
 cases r with
 |cons r1 r2=>ext r2;calc ⟨_,rfl,r1⟩
def XY:CY X (.type "int") (λxs H Q=>(∃ i,xs=[.int i]/\Q (.int i) H) \/ ∃ k,xs=[.bl k]/\Q (.int (if k then 1 else 0)) H):=by
 intro zB s Y H xs us Q I r h;rcases h with ⟨i,rfl,q⟩|⟨k,rfl,q⟩
 .obtain ⟨u,rfl,t,rfl⟩:=EH r;exact call_int_int ⟨.int i,H,I,⟨_,rfl⟩,q⟩
 .obtain ⟨u,rfl,r1⟩:=EH r;ext r1;calc call_int_bool ⟨.int (if k then 1 else 0),H,I.tok _,⟨_,rfl⟩,q⟩
end
structure ObjM (h:Heap) (x dx C:Yt) (mA:Yh):Prop where
 obj:h.get? x=some (PySem.W.instObj C dx)
 ns:h.Ns1 dx mA
 ne:dx≠x
def gD {h:Heap} {dx:Yt} {mA:Yh} (n:h.Ns1 dx mA):∃ od,h.get? dx=some od /\ ∀ name,PySem.W.lookIn name od=some (mA name):=by
 let⟨o,es,ep,ho,hd,hk,_,hm⟩:=n;refine ⟨o,ho,λname=>?_⟩;let e:=hm name;erw[nsFind,findBy]at e;rw[<-Array.find?_toList]at e;erw[PySem.W.lookIn];rw[hd];dsimp only;split
 .rename_i y q;rw[q]at e;exact Bo some e
 .rename_i q;rw[q]at e;let a:es.toList.any (·.refKey)=false:=by
   rw[List.any_eq_false];intro y hy;let⟨z,t,hkey⟩:=hk y (Array.mem_toList_iff.mp hy);simp[DictEntry.refKey,hkey]
  let a':¬ es.toList.any (·.refKey)=true:=by rw[a];exact Ab
  rw[AE a'];calc Bo some e
def ObjM.look {h:Heap} {x dx C:Yt} {mA:Yh} (I:ObjM h x dx C mA):∃ od,PySem.W.InstAt h x (PySem.W.instObj C dx) C (some od) /\ ∀ name,PySem.W.lookIn name od=some (mA name) :=
 let ⟨od,ho,hl⟩:=gD I.ns
 ⟨od,⟨I.obj,rfl,rfl,ho⟩,hl⟩
def Ds.some_of {v:V} {o:Option Value} (r:Ds (some v) o):∃ u,o=some u/\zk v u:=by
 cases o with
 |none=>calc (show False from r).elim
 |some u=>calc ⟨u,rfl,r⟩
section
variable {P:Ym} {w:Yo} {H H':Hp} {h h':Heap} {a C dx:Yt} {fs fs':List (Str × V)}
def X2 (hok:HOk P w H h) (e:H a=some (.ins C dx fs)):∃ mA,ObjM h a dx C mA/\(∀ f,Ds (fs.lookup f) (mA f))/\PySem.Within mA (fs.map (·.1))/\fs.length<=1000/\H dx=some (.own a):=by
 let⟨d,z,ne,ob,mA,n,r,q⟩:=(show Ag P w H h a (.ins C dx fs)from hok a _ e);calc ⟨mA,⟨ob,n,ne⟩,r,q,z,d⟩
end
structure Cls (K:Yb) (C:Yt):Prop where
 pg:PySem.W.plainGet K C Str.empty=true
 hd:PySem.W.hasDictIn K C=true
 po:PySem.W.plainOver K C=true
 sa:PySem.W.findIn K (.ref C) "__setattr__" = some (some (.builtin "object.__setattr__"))
def Cls.get {K:Yb} {C:Yt} (c:Cls K C) (f:Str):PySem.W.plainGet K C f=true:=c.pg
section
variable {X:Cx} {zB:Yd} {Y:St} {H:Hp} {s:Yl} {A:Yn} {E:Yc} {Q:Yc} {c:Yu} {b:Bool}
set_option genInjectivity true in
inductive TyOf (K:Yb) (H:Hp):V->Value->Prop where
 |non:TyOf K H .non (.type "NoneType")
 |bl (x:Bool):TyOf K H (.bl x) (.type "bool")
 |int (i:Int):TyOf K H (.int i) (.type "int")
 |str (x:Str):TyOf K H (.str x) (.type "str")
 |flt (x:UInt64):TyOf K H (.flt x) (.type "float")
 |lst {a:Addr} {xs:List V} (e:H a=some (.lst xs)):TyOf K H (.ref a) (.type "list")
 |frz {a:Addr} {o:Obj} {xs:List V} (e:H a=some (.frz o (.lst xs))):TyOf K H (.ref a) (.type "list")
 |tup {a:Addr} {xs:List V} (e:H a=some (.tup xs)):TyOf K H (.ref a) (.type "tuple")
 |dK {a:Addr} {kvs:List (Key × V)} (e:H a=some (.dK kvs)):TyOf K H (.ref a) (.type "dict")
 |dT {a:Addr} {kvs:List (List Key × V)} (e:H a=some (.dT kvs)):TyOf K H (.ref a) (.type "dict")
 |ins {a C dx:Addr} {fs:List (Str × V)} (e:H a=some (.ins C dx fs)) (cl:Cls K C) (ha:PySem.W.findIn K (.ref C) "__class__" = some (some (.builtin "object.__class__")))
   (hn:PySem.W.specialIn K (.builtin "object.__class__") "__get__" = some (some (.builtin "getset_descriptor.__get__"))) (htk:PySem.W.takesIn K (.builtin "object.__class__")=some true)
   (hm:PySem.W.mroIn K C (.type "object")=some true):TyOf K H (.ref a) (.ref C)
def j0 {x:V} {u t:Yu} (I:Inv X zB Y H s) (rx:zk x u) (ty:TyOf X.K H x t) (e:PySem.W.kitOne X.K t c=some b) (h:∀ tk,Q (.bool b) { s with toks:=tk }) :
  wpAny (model X.prog X.w) A (call (.builtin "isinstance") [u,c]) Q E s:=by
 cases ty with
 |non=>cases (show u=Value.none from rx);exact Dl PySem.W.kitx_none I.kIn True.intro e (λz=>nomatch z) h
 |bl y=>cases (show u=Value.bool y from rx);exact Dl PySem.W.kitx_bool I.kIn True.intro e (λz=>nomatch z) h
 |int i=>let⟨t,q⟩:=(show ∃ t,u=Value.int i t from rx);ext q;exact Dl PySem.W.kitx_int I.kIn True.intro e (λz=>nomatch z) h
 |str y=>let⟨t,q⟩:=(show ∃ t,u=Value.str y t from rx);ext q;exact Dl PySem.W.kitx_str I.kIn True.intro e (λz=>nomatch z) h
 |flt y=>let⟨t,q⟩:=(show ∃ t,u=Value.float y t from rx);ext q;exact Dl PySem.W.kitx_float I.kIn True.intro e (λz=>nomatch z) h
 | @lst a xs ea=>
  cases (show u=Value.ref a from rx);let⟨_,_,n,_,h1⟩:=(show Ag X.prog X.w H s.heap a (.lst xs)from I.hok a _ ea);exact Dl PySem.W.kitx_list I.kIn ⟨_,h1,rfl⟩ e (λz=>nomatch z) h
 | @frz a ob xs ea=>
  cases (show u=Value.ref a from rx);let⟨_,_,_,n,_,h1⟩:=(show Ag X.prog X.w H s.heap a (.frz ob (.lst xs))from I.hok a _ ea);exact Dl PySem.W.kitx_list I.kIn ⟨_,h1,rfl⟩ e (λz=>nomatch z) h
 | @tup a xs ea=>
  cases (show u=Value.ref a from rx);let⟨_,_,_,p⟩:=(show Ag X.prog X.w H s.heap a (.tup xs)from I.hok a _ ea);let⟨o,h1,h2,_⟩:=p;exact Dl PySem.W.kitx_tuple I.kIn ⟨o,h1,h2⟩ e (λz=>nomatch z) h
 | @dK a kvs ea=>
  cases (show u=Value.ref a from rx);let⟨_,_,vs,_,p⟩:=(show Ag X.prog X.w H s.heap a (.dK kvs)from I.hok a _ ea);let⟨o,es,ep,h1,h2,_⟩:=p;exact Dl PySem.W.kitx_dict I.kIn ⟨o,h1,h2.1⟩ e (λz=>nomatch z) h
 | @dT a kvs ea=>
  cases (show u=Value.ref a from rx);let⟨_,_,xs,_,o,es,ep,h1,h2,_⟩:=(show Ag X.prog X.w H s.heap a (.dT kvs)from I.hok a _ ea);exact Dl PySem.W.kitx_dict I.kIn ⟨o,h1,h2.1⟩ e (λz=>nomatch z) h
 | @ins a C dx fs ea cl ha hn htk hm=>
  cases (show u=Value.ref a from rx);let⟨mA,O,_⟩:=X2 I.hok ea;let⟨od,J,_⟩:=O.look;calc Dl (PySem.W.kitx_own (cl.get _) cl.hd ha hn htk hm) I.kIn J e (λz=>nomatch z) h
end
structure Room (k:Nat) (A:Yn):Prop where
 hd:A.handled=none
 dp:A.depth+3*k+5<recursionLimit
 un:A.units+16*k+200<cLine
def Room.mono {j k:Nat} {A:Yn} (r:Room k A) (h:j<=k):Room j A:=⟨r.hd,by have:=r.dp;omega,by have:=r.un;omega⟩
def Room.deeper {k:Nat} {A:Yn} (r:Room (k+1) A) (env:Env):Room k (A.deeper env) :=
 ⟨r.hd,by have:=r.dp;show A.depth+1+3*k+5<_;omega,by have:=r.un;show A.units+3+16*k+200<_;omega⟩
def Room.depth {k:Nat} {A:Yn} (r:Room k A):A.depth<recursionLimit:=by have:=r.dp;omega
def Room.units {k:Nat} {A:Yn} (r:Room k A):A.units+64<cLine:=by have:=r.un;omega
def Room.units0 {k:Nat} {A:Yn} (r:Room k A):A.units<cLine:=by have:=r.un;omega
def bF:TA:=λ_ H Q=>Q [] H
def Vh (ta:TE) (tr:TA):TA:=λY H Q=>ta Y H λx H1=>tr Y H1 λxs H2=>Q (x::xs) H2
section
variable {X:Cx} {e:Expr} {es:Yi} {te:TE} {t:TA} {pos:Pos}
def IK:PA X [] bF:=λ_ _ _ _ H Q I h=>Calls.spliced_nil ⟨[],H,I,.nil,h⟩
def E9 (ha:PE X e te) (hr:PA X es t) (hs:starEach (e::es) X.env=(false,eval e X.env)::starEach es X.env:=by rfl):PA X (e::es) (Vh te t):=by
 intro pos zB s Y H Q I h;rw[hs];show wpAny _ _ (spliced ((false,eval e X.env)::backTo pos (starEach es X.env))) _ _ s;refine Calls.spliced_cons (thn (ha zB s Y H _ I h) λu s1 ⟨x,H1,I1,r1,q1⟩=>?_);calc thn (hr pos zB s1 Y H1 _ I1 q1) λus s2 ⟨xs,H2,I2,r2,q2⟩=>⟨x::xs,H2,I2,.cons r1 r2,q2⟩
def ZT (t:TA):TE:=λY H Q=>t Y H λxs H1=>xs.length<=sizeLine /\ ∀ p,H1 p=none->Q (.ref p) (upd H1 p (.tup xs))
def lU (t:TA):TE:=λY H Q=>t Y H λxs H1=>xs.length<=sizeLine /\ ∀ p,H1 p=none->Q (.ref p) (upd H1 p (.lst xs))
def Wq {x1} (h:PA X es t):PE X (.Tuple es x1 pos) (ZT t):=by
 intro zB s Y H Q I hq;refine wpAny_Tuple_spliced (thn (h pos zB s Y H _ I hq) λus s1 ⟨xs,H1,I1,r,z,q⟩=>⟨by rw[<-r.length];calc z,?_⟩);let hf:H1 ⇑s1=none:=I1.hok.fresh (AF _);refine ⟨.ref ⇑s1,upd H1 ⇑s1 (.tup xs),I1.laid (t':=s1.toks) (λb u e=>AG _ e) (AF _) ?_,rfl,q _ hf⟩;calc ⟨z,us,r,⟨_,AM _ rfl,rfl,⟨_,rfl⟩,rfl⟩⟩
def dG (h:PA X es t):PE X (.List es pos) (lU t):=by
 intro zB s Y H Q I hq;refine wpAny_List_spliced (thn (h pos zB s Y H _ I hq) λus s1 ⟨xs,H1,I1,r,z,q⟩=>⟨by rw[<-r.length];calc z,?_⟩);let hf:H1 ⇑s1=none:=I1.hok.fresh (AF _);refine ⟨.ref ⇑s1,upd H1 ⇑s1 (.lst xs),I1.laid (t':=s1.toks) (λb u e=>AG _ e) (AF _) ?_,rfl,q _ hf⟩;calc ⟨z,us,0,r,AM _ rfl⟩
end
abbrev Sp:=List V->Hp->VK->XK->Prop
abbrev CXT:=List Env->Hp->Shared->XK->Value->Shared->Prop
structure Env0 (P:Ym) (w:Yo) (K:Yb) (mg:Yh) (base:Heap) (A:Yn) (outer:List Env) (s:Yl) (H:Hp):Prop where
 frames:A.frames=some outer
 mod:Mod K mg base
 bs:∀ b o,base.get? b=some o->s.heap.get? b=some o/\H b=none
 bsz:base.objs.size<=⇑s
 funs:s.heap.FunFrames base outer
 frf:∀ b∈frs outer,H b=none
 hok:HOk P w H s.heap
 bare:AllBare s.gens
def CE (outer:List Env) (P:Ym) (w:Yo) (H:Hp) (s:Yl) (Q:VK) (u:Yu) (s':Yl):Prop :=
 ∃ v H',s'.os=s.os/\AllBare s'.gens/\Un (frs outer) [] H H' s.heap s'.heap/\HOk P w H' s'.heap/\zk v u/\Q v H'
def CR (CX:CXT) (outer:List Env) (P:Ym) (w:Yo) (H:Hp) (s:Yl) (Q:VK) (E:XK) (r:Result) (s':Yl):Prop :=
 match r with
 |.ok (.ret u)=>CE outer P w H s Q u s'
 |.ok _=>False
 |.error e=>CX outer H s E e s'
structure FnOk (P:Ym) (w:Yo) (K:Yb) (mg:Yh) (base:Heap) (CX:CXT) (k:Nat) (f:Yt) (fd:Yz) (ps:Yk) (sp:Sp):Prop where
 len:∀ vs H Q E,sp vs H Q E->vs.length=ps.length
 run:∀ (A:Yn) (outer:List Env) (s:Yl) (H:Hp) (args:Args) (us:Yf) (vs:List V) (Q:VK) (E:XK),Room k A->Env0 P w K mg base A outer s H->BindsTo s fd args (ps.zip us)->za vs us->sp vs H Q E ->
  codeAny (model P w) A (.call (.ref f) args) (CR CX outer P w H s Q E) s
def FnOk.mono {P:Ym} {w:Yo} {K:Yb} {mg:Yh} {base:Heap} {CX:CXT} {j k:Nat} {f:Yt} {fd:Yz} {ps:Yk} {sp:Sp} (F:FnOk P w K mg base CX j f fd ps sp) (h:j<=k) :
  FnOk P w K mg base CX k f fd ps sp:=⟨F.len,λA outer s H args us vs Q E hr=>F.run A outer s H args us vs Q E (hr.mono h)⟩
def FnOk.imp {P:Ym} {w:Yo} {K:Yb} {mg:Yh} {base:Heap} {CX:CXT} {k:Nat} {f:Yt} {fd:Yz} {ps:Yk} {sp sp':Sp} (F:FnOk P w K mg base CX k f fd ps sp)
  (h:∀ vs H Q E,sp' vs H Q E->sp vs H Q E):FnOk P w K mg base CX k f fd ps sp' :=
 ⟨λvs H Q E q=>F.len vs H Q E (h _ _ _ _ q),λA outer s H args us vs Q E hr he hb hv hs=>F.run A outer s H args us vs Q E hr he hb hv (h _ _ _ _ hs)⟩
section
variable {X:Cx} {zB:Yd} {Y:St} {H:Hp} {s s':Yl}
def Inv.env0 (I:Inv X zB Y H s):Env0 X.prog X.w X.K X.mg X.base X.A X.stack s H :=
 ⟨I.ok.frames,I.ok.mod,I.bs,Ar I.ok.bsz I.sz,I.stack,I.stkFree,I.hok,I.bare⟩
def Inv.after {Q:VK} {u:Yu} (I:Inv X zB Y H s) (h:CE X.stack X.prog X.w H s Q u s'):EP X zB Y Q u s':=by
 let⟨v,H',os,bare,un,hok,r,q⟩:=h;let⟨hh,g,d,t,os'⟩:=s';obtain rfl:os'=s.os:=os;calc ⟨v,H',I.call (h':=hh) (g':=g) (d':=d) (t':=t) (ch:=[]) un hok bare (λb z=>absurd z (by simp)),r,q⟩
end
def S8 (sp:Sp) (dvs:List V) (E:XK) (t:TA):TE:=λY H Q=>t Y H λvs H1=>sp (vs++dvs) H1 Q E
def D2 (K:Yb) (fd:Yz) (ps:Yk) (ds:Yf):Prop :=
 ∀ (s:Yl) (us:Yf),K.In s.heap->(us++ds).length=ps.length->BindsTo s fd ⟨us,[]⟩ (ps.zip (us++ds))
def D2.all {K:Yb} {fd:Yz} {ps:Yk} (h:∀ us:List Value,us.length=ps.length->bindArgs fd ⟨us,[]⟩=pure (ps.zip us)):D2 K fd ps []:=λs us _ hl=>by
 rw[CU]at hl ⊢;calc .of_eq (h us hl)
def MJ (CX:CXT) (X:Cx) (E:XK):Prop:=∀ (zB:Yd) (Y:St) (H:Hp) (s:Yl) (e:Yu) (s':Yl),Inv X zB Y H s->CX X.stack H s E e s'->X.xe e s'
section
variable {X:Cx} {CX:CXT} {k:Nat} {f C:Yt} {fd:Yz} {ps:Yk} {sp:Sp} {dvs:List V} {ds:Yf} {E:XK} {x m:Str} {p pos apos:Pos} {e o:Expr} {es:Yi} {ta:TE} {t:TA}
def ON {zB:Yd} {Y:St} {H:Hp} {s:Yl} {Q:VK} {us:Yf} {vs:List V} (F:FnOk X.prog X.w X.K X.mg X.base CX k f fd ps sp) (hr:Room k X.A) (hb:D2 X.K fd ps ds) (hd:za dvs ds) (hx:MJ CX X E)
  (I:Inv X zB Y H s) (r:za vs us) (h:sp (vs++dvs) H Q E):wpAny (model X.prog X.w) X.A (call (.ref f) us) (EP X zB Y Q) X.xe s:=by
 let r2:za (vs++dvs) (us++ds):=r.append hd;let hl:(us++ds).length=ps.length:=by rw[<-r2.length];exact F.len _ _ _ _ h
 refine wpAny_call (codeAny_mono (F.run X.A X.stack s H ⟨us,[]⟩ (us++ds) (vs++dvs) Q E hr I.env0 (hb s us I.kIn hl) r2 h) λr s' hq=>?_);cases r with
 |error e=>calc hx zB Y H s e s' I hq
 |ok fl=>
  cases fl with
  |ret u=>calc I.after hq
  |next=>calc False.elim hq
  |brk=>calc False.elim hq
  |cont=>calc False.elim hq
def iP (F:FnOk X.prog X.w X.K X.mg X.base CX k f fd ps sp) (hr:Room k X.A) (hg:Gl X x) (hm:X.mg x=some (.ref f)) (hk:PySem.W.keepIn X.K (.ref f)=true) (hb:D2 X.K fd ps ds) (hd:za dvs ds) (hx:MJ CX X E)
  (ha:PA X (e::es) t) (hdb:(x==("__debug__" : Str))=false:=by decide) (he:starEach (e::es) X.env=(false,eval e X.env)::starEach es X.env:=by rfl) (hpl:(backTo pos (starEach es X.env)).any (·.1)=false:=by rfl) :
  PE X (.Call (.Name x p) (e::es) [] pos) (S8 sp dvs E t):=by
 intro zB s Y H Q I h;calc wpAny_Call_Name_kw (RG I hg hm ?_ hdb);refine PySem.W.callWith_K (h₀:=X.base) I.ok.mod.kin hk (thn (ha pos zB s Y H _ I h) λus s1 ⟨vs,H1,I1,r,q⟩=>⟨I1.kIn,?_⟩) he hpl;calc ON F hr hb hd hx I1 r q
end
structure FnScope (N P:Yk) (sc:Y0):Prop where
 kind:sc.kind=.function
 co:sc.isCoroutine=false
 gen:sc.isGenerator=false
 nd:N.Nodup
 pre:N.take P.length=P
 par:∀ x∈P,sc.names.lookup x=some .local\/sc.names.lookup x=some .cell
 nofree:∀ y∈sc.names,y.2≠.free
theorem Qb {kindOf:Str->Option NameKind} {x:Str}:∀ {binds:List (Str × Value)} {m:Yh},(∀ v,(x,v)∉binds)->bindL kindOf binds m x=m x
 |[],_,_=>rfl
 | (n,v)::r,m,h=>by
  erw[bindL];rw[Qb λw hw=>h w (Aq _ hw)];split
  .have:x≠n:=by rintro rfl;exact h v AZ
   simp[this]
  .rfl
theorem N4 {kindOf:Str->Option NameKind} {x:Str}:∀ {binds:List (Str × Value)} {m:Yh},(∀ v,(x,v)∉binds)->bindC kindOf binds m x=m x
 |[],_,_=>rfl
 | (n,v)::r,m,h=>by
  erw[bindC];rw[N4 λw hw=>h w (Aq _ hw)];split
  .rfl
  .have:x≠n:=by rintro rfl;exact h v AZ
   simp[this]
theorem Oe {kindOf:Str->Option NameKind} {x:Str} {v:Yu}:∀ {P:Yk} {vs:Yf} {i:Nat} {m:Yh},P.Nodup->P[i]?=some x->vs[i]?=some v->kindOf x=some .local ->
  bindL kindOf (P.zip vs) m x=some v
 |[],_,_,_,_,h,_,_=>by simp at h
 |_::_,[],_,_,_,_,h,_=>by simp at h
 |p::P,w::vs,0,m,nd,h1,h2,hk=>by
  simp at h1 h2;subst h1;subst h2;show bindL kindOf ((p,w)::P.zip vs) m p=_;erw[bindL];rw[Qb λv hv=>(List.nodup_cons.mp nd).1 (List.of_mem_zip hv).1,AD hk];simp
 |p::P,w::vs,i+1,m,nd,h1,h2,hk=>by
  show bindL kindOf ((p,w)::P.zip vs) m x=_;erw[bindL];calc Oe (i:=i) (List.nodup_cons.mp nd).2 (~~~h1) (~~~h2) hk
theorem N6 {kindOf:Str->Option NameKind} {x:Str} {v:Yu}:∀ {P:Yk} {vs:Yf} {i:Nat} {m:Yh},P.Nodup->P[i]?=some x->vs[i]?=some v->kindOf x≠some .local ->
  bindC kindOf (P.zip vs) m x=some v
 |[],_,_,_,_,h,_,_=>by simp at h
 |_::_,[],_,_,_,_,h,_=>by simp at h
 |p::P,w::vs,0,m,nd,h1,h2,hk=>by
  simp at h1 h2;subst h1;subst h2;show bindC kindOf ((p,w)::P.zip vs) m p=_;erw[bindC];rw[N4 λv hv=>(List.nodup_cons.mp nd).1 (List.of_mem_zip hv).1,AE hk];simp
 |p::P,w::vs,i+1,m,nd,h1,h2,hk=>by
  show bindC kindOf ((p,w)::P.zip vs) m x=_;erw[bindC];calc N6 (i:=i) (List.nodup_cons.mp nd).2 (~~~h1) (~~~h2) hk
def D1 (N:Yk) (vs:List V):St:=vs.map some++List.replicate (N.length-vs.length) none
def FL (CX:CXT) (P:Ym) (w:Yo) (K:Yb) (mg:Yh) (base:Heap) (N:Yk) (qual:Str) (scope:Y0) (f:Yt) (cd:Yu) (A:Yn) (outer:List Env) (s:Yl) (H:Hp) (E:XK):Cx where
 prog:=P
 w:=w
 K:=K
 mg:=mg
 base:=base
 A:=A.deeper (envOfC qual scope ⇑s f cd)
 N:=N
 s₀:=s
 H₀:=H
 env:=envOfC qual scope ⇑s f cd
 outer:=outer
 stack:=envOfC qual scope ⇑s f cd::outer
 ex:=[]
 calm:=true
 fn:=λ_=>true
 pn:=[]
 xe:=λe s'=>wpAny (model P w) (A.deeper (envOfC qual scope ⇑s f cd)) (leaving (envOfC qual scope ⇑s f cd) e) (λ_ s''=>CX outer H s E e s'') (λe' s''=>CX outer H s E e' s'') s'
def K5 {sc:Y0} {n:Nat} {x:Str} (h:sc.names.lookup x=some .cell):∃ c,(cellsFrom n sc.names []).lookup x=some c:=by
 let q:=PySem.W.cellsFrom_some sc.names n [] (.inl h);calc Option.isSome_iff_exists.mp q
def U4 {CX:CXT} {P:Ym} {w:Yo} {K:Yb} {mg:Yh} {base:Heap} {N ps:Yk} {qual:Str} {scope:Y0} {f:Yt} {cd:Yu} {A:Yn} {outer:List Env} {s s1:Yl} {H:Hp} {E:XK} {us:Yf} {vs:List V}
  (S:FnScope N ps scope) (hd:A.handled=none) (e0:Env0 P w K mg base A outer s H) (hl:vs.length=ps.length) (r:za vs us)
  (x:InCallC s ⇑s (bindL (envOfC qual scope ⇑s f cd).kindOf (ps.zip us) λ_=>none) (cellsFrom (⇑s+1) scope.names []) (bindC (envOfC qual scope ⇑s f cd).kindOf (ps.zip us) λ_=>none) s1) :
  Inv (FL CX P w K mg base N qual scope f cd A outer s H E) [] (D1 N vs) H s1:=by
 let hpl:ps.length<=N.length:=by have:=Bo List.length S.pre;rw[Bp]at this;omega
 let⟨h1,tk,rfl,hk⟩:=x.done;let noA:∀ b:Addr,b∉(FL CX P w K mg base N qual scope f cd A outer s H E).ex:=λb z=>absurd (show b∈([]:List Addr)from z) (by simp)
 refine ⟨⟨e0.mod,S.kind,rfl,rfl,AF _,λy z c h1 h2=>?_,λy hy=>?_,λy c _ h=>?_,λ_=>hd,Around.frames_deeper e0.frames,.inr ⟨rfl,rfl⟩,λb z=>absurd z (noA b),e0.bs,e0.bsz,λb _ _=>noA b,λb z=>absurd z (noA b),e0.funs,e0.frf⟩,
  rfl,e0.bare,Un.kept hk,⟨_,x.toInCall.ns,λi y v h1 h2 h3=>?_⟩,λy c h=>⟨_,x.cell y c h⟩,e0.hok.fresh (AF _),λy c h=>?_,λp hp=>absurd (show p∈([]:List (Addr × Obj))from hp) (by simp),e0.hok.kept hk,?_⟩
 .exact name_of_addr x.apart (B8 h1) (B8 h2)
 .have hy:scope.names.lookup y=some .cell\/scope.names.lookup y=some .free:=hy;rcases hy with hy|hy
  .exact K5 hy
  .exact absurd rfl (S.nofree _ (B8 hy))
 .exact Ce (x.above y c (B8 h))
 .have hi:i<vs.length:=by
   erw[D1]at h2;by_cases hi:i<vs.length
   .exact hi
   .rw[CQ (~~~hi)]at h2;rw[List.getElem?_replicate]at h2;split at h2 <;> ext h2
  let ha:vs[i]?=some v:=by
   erw[D1]at h2;rw[AY (~~~hi),Ac]at h2;cases e:vs[i]? with
   |none=>rw[e]at h2;ext h2
   |some a=>rw[e]at h2;ext h2;rfl
  let⟨u,hu,rv⟩:=r.get ha;let hp:ps[i]?=some y:=by
   rw[<-S.pre,List.getElem?_take_of_lt ()];exact h1
  let ndP:ps.Nodup:=by rw[<-S.pre];exact S.nd.sublist (List.take_sublist _ _)
  calc ⟨u,rv,?_⟩;rcases S.par y (BD hp)with k|k
  .exact .inl ⟨k,Oe ndP hp hu k⟩
  .obtain ⟨c,e⟩:=K5 (n:=⇑s+1) k;calc .inr ⟨.inl k,c,e,?_⟩;let q:=x.cell y c e;rw[N6 ndP hp hu (by show scope.names.lookup y≠_;rw[k];decide)]at q;exact q
 .exact e0.hok.fresh (Ce (x.above y c (B8 h)))
 .unfold D1;show _=N.length;rw[AW,AI,List.length_replicate];omega
def Qc {CX:CXT} {P:Ym} {w:Yo} {K:Yb} {mg:Yh} {base:Heap} {k:Nat} {f:Yt} {name qual:Str} {params:Arguments} {body:Yy} {scope:Y0} {dV kV doc pm cdv ct oc:Yu} {an od:Option Addr}
  {osl:Array (Option Value)} {N ps:Yk} {sp:Sp} (lk:K.lookup f=some ⟨oc,od,.func (PySem.W.fnOf name qual params body scope dV kV doc pm an cdv ct),osl⟩) (hcd:PySem.W.codeIn K cdv qual=true) (S:FnScope N ps scope)
  (len:∀ vs H Q E,sp vs H Q E->vs.length=ps.length)
  (hbody:∀ (A:Yn) (outer:List Env) (s:Yl) (H:Hp) (vs:List V) (Q:VK) (E:XK),Room k (A.deeper (envOfC qual scope ⇑s f cdv))->sp vs H Q E ->
   ∃ t,PSs (FL CX P w K mg base N qual scope f cdv A outer s H E) body t/\t { nx:=λ_ H'=>Q .non H',rt:=Q } (D1 N vs) H) :
  FnOk P w K mg base CX (k+1) f (PySem.W.fnOf name qual params body scope dV kV doc pm an cdv ct) ps sp:=by
 refine ⟨len,λA outer s H args us vs Q E hr e0 hb r hsp=>?_⟩;let hl:=len _ _ _ _ hsp;let KX:K.In s.heap:=e0.mod.kin.keeps λb o e=>(e0.bs b o e).1;let lim:s.heap.NoLimit:=e0.mod.nolimit.keeps λb o e=>(e0.bs b o e).1;let hkind:∀ y∈ps.zip us,scope.names.lookup y.1=some .local\/(scope.names.lookup y.1=some .cell/\((cellsFrom (⇑s+1) scope.names []).lookup y.1).isSome=true):=λ⟨n,v⟩ hy=>by
  rcases S.par n (List.of_mem_zip hy).1 with q|q
  .exact .inl q
  .exact .inr ⟨q,PySem.W.cellsFrom_some _ _ _ (.inl q)⟩
 refine codeAny_call_function hr.depth (KX _ _ lk) rfl S.co S.gen rfl (PySem.W.codeRec_of KX hcd) (hb _ _ _ _ ?_);refine wpAny_newFunctionEnv_cells S.kind hkind λenv he s1 x=>?_;subst he;refine ⟨lim.keeps x.toInCall.keep,codeAny_func ?_⟩;let⟨t,ht,hq⟩:=hbody A outer s H vs Q E (hr.deeper _) hsp;let I:Inv (FL CX P w K mg base N qual scope f cdv A outer s H E) [] (D1 N vs) H s1:=U4 S hr.hd e0 hl r x;refine AX (ht [] s1 (D1 N vs) H _ I hq) (λfl s' hs=>?_) λe s' hs=>hs;let fin:∀ {Y':St} {H':Hp} {v:V} {u:Yu},Inv (FL CX P w K mg base N qual scope f cdv A outer s H E) [] Y' H' s'->zk v u->Q v H'->CE outer P w H s Q u s' :=
  λ{Y' H' v u} J rv q=>⟨v,H',J.os,J.bare,J.base,J.hok,rv,q⟩
 cases fl with
 |ret u=>
  let⟨v,Y',H',J,rv,q⟩:=hs;calc fin J rv q
 |next=>
  let⟨Y',H',J,q⟩:=hs;calc fin (v:=V.non) (u:=Value.none) J rfl q
 |brk=>
  let⟨_,_,_,q⟩:=hs;calc False.elim q
 |cont=>
  let⟨_,_,_,q⟩:=hs;calc False.elim q
section
variable {X:Cx} {x:Str} {p pos:Pos} {e:Expr} {es:Yi} {t:TA} {id T:String} {r:List V->Hp->VK->Prop}
def tCB (r:List V->Hp->VK->Prop) (t:TA):TE:=λY H Q=>t Y H λvs H1=>r vs H1 Q
def PV (hc:CY X (.builtin id) r) (hg:Gl X x) (hm:X.mg x=none) (hv:bootBuiltins x=some (.builtin id)) (ha:PA X (e::es) t) (hn:x ≠ "__name__" := by decide) (hdb:(x==("__debug__" : Str))=false:=by decide)
  (he:starEach (e::es) X.env=(false,eval e X.env)::starEach es X.env:=by rfl) (hpl:(backTo pos (starEach es X.env)).any (·.1)=false:=by rfl):PE X (.Call (.Name x p) (e::es) [] pos) (tCB r t):=by
 intro zB s Y H Q I h;calc wpAny_Call_Name_kw (E5 I hg hm hv ?_ hn hdb);calc PyProof.Rows.callWith_builtin1 (thn (ha pos zB s Y H _ I h) λus s1 ⟨vs,H1,I1,r1,q1⟩=>hc zB s1 Y H1 vs us Q I1 r1 q1) he hpl
def LK (hc:CY X (.type T) r) (hg:Gl X x) (hm:X.mg x=none) (hv:bootBuiltins x=some (.type T)) (ha:PA X (e::es) t) (hn:x ≠ "__name__" := by decide) (hdb:(x==("__debug__" : Str))=false:=by decide)
  (he:starEach (e::es) X.env=(false,eval e X.env)::starEach es X.env:=by rfl) (hpl:(backTo pos (starEach es X.env)).any (·.1)=false:=by rfl):PE X (.Call (.Name x p) (e::es) [] pos) (tCB r t):=by
 intro zB s Y H Q I h;calc wpAny_Call_Name_kw (E5 I hg hm hv ?_ hn hdb);calc PyProof.Rows.callWith_type1 (thn (ha pos zB s Y H _ I h) λus s1 ⟨vs,H1,I1,r1,q1⟩=>hc zB s1 Y H1 vs us Q I1 r1 q1) he hpl
end
end L2
namespace HT
open PySem PyProof.Rows
section
variable {prog:Ym} {w:Yo} {A:Yn} {E:Yc} {s:Yl}
def nA {t b:Yt} {vs ws:Yf} {Q:Yc} (ht:IsTup s.heap t vs.toArray) (hb:IsTup s.heap b ws.toArray) (hv:vs≠[])
  (h1:ws=[]->Q (.ref t) s) (h2:ws≠[]->Q (.ref ⇑s) { s with heap:=s.heap.push { cls:=.type "tuple", data:=.seq (vs++ws).toArray } })
  (hsz:vs.length+ws.length<=sizeLine):wpAny (model prog w) A (binaryOp .Add (.ref t) (.ref b)) Q E s:=by
 let⟨⟨cls,dd,data,sl⟩,ho,hc,n,hd⟩:=id ht;let⟨⟨cls2,dd2,data2,sl2⟩,ho2,hc2,n2,hd2⟩:=id hb;simp only at hc hd hc2 hd2;subst hc hd hc2 hd2;let e:vs.toArray++ws.toArray=(vs++ws).toArray:=by simp
 by_cases hw:ws=[]
 .exact concat_meets ⟨_,ho,rfl⟩ ⟨_,ho2,rfl⟩ noFill_tuple_add seq_tuple_add PySem.F.slot_tuple_add PySem.F.entry_tuple_add (PySem.F.args_tuple_add_2 _ _)
   (tuple_addW1 t b vs.toArray ws.toArray n n2 dd dd2 sl sl2 (~~~hv) (by simp[hw])) ⟨ho,ho2,h1 hw⟩
 .refine concat_meets ⟨_,ho,rfl⟩ ⟨_,ho2,rfl⟩ noFill_tuple_add seq_tuple_add PySem.F.slot_tuple_add PySem.F.entry_tuple_add (PySem.F.args_tuple_add_2 _ _)
   (tuple_addW2 t b vs.toArray ws.toArray n n2 dd dd2 sl sl2 (~~~hv) (~~~hw) (by rw[AU,AU];calc hsz)) ⟨ho,ho2,?_⟩
  rw[e];calc h2 hw
def sIx (n d:Nat):Option Int->Nat
 |none=>d
 |some v=>if v<0 then (v+(n:Int)).toNat else min v.toNat n
def QL (n d k:Nat):sIx n d (some (k:Int))=min k n:=by
 show (if (k:Int)<0 then ((k:Int)+(n:Int)).toNat else min (k:Int).toNat n)=min k n;rw[AE (),Bt]
def aM (n d:Nat) (hd:d<=n) (o:Ys):sIx n d o<=n:=by
 cases o with
 |none=>calc hd
 |some v=>
  show (if v<0 then (v+(n:Int)).toNat else min v.toNat n)<=n;by_cases hv:v<0
  .rw[AD hv];omega
  .rw[AE hv];calc Nat.min_le_right _ _
def RX (v:Int) (n d:Nat):(if v<0 then max (v+(n:Int)) 0 else min v (n:Int))=((sIx n d (some v):Nat):Int):=by
 show (if v<0 then max (v+(n:Int)) 0 else min v (n:Int))=(((if v<0 then (v+(n:Int)).toNat else min v.toNat n):Nat):Int);by_cases hv:v<0
 .simp only[AD hv];omega
 .simp only[AE hv];omega
def WE (lo hi:Ys) (n:Nat):Builtin.Slice.sliceAdjust lo hi 1 (n:Int)=(((sIx n 0 lo:Nat):Int),((sIx n n hi:Nat):Int)):=by
 let h1:¬ ((1:Int)<0):=()
 erw[Builtin.Slice.sliceAdjust];simp only[h1,if_false];refine Prod.ext ?_ ?_
 .cases lo with
  |none=>rfl
  |some v=>exact RX v n 0
 .cases hi with
  |none=>rfl
  |some v=>calc RX v n n
def lK (i j:Nat):Builtin.Slice.slicePlaces (i:Int) (j:Int) 1=j-i:=by
 erw[Builtin.Slice.slicePlaces];let h1:(1:Int)>0:=()
 simp only[h1,if_true,Int.ediv_one];split <;> omega
def Ob {v:Yu} {o:Ys} {Q:Option Int->Shared->Prop} (p:IsPart v o) (h:Q o s):wpAny (model prog w) A (Builtin.Slice.slicePartIndex v) Q E s:=by
 cases p with
 |none=>calc slicePart_none h
 |int i t=>calc slicePart_int h
def RS {sl:Yt} {vl vu:Yu} {lo hi:Ys} {n:Nat} {Q:Int × Int × Nat->Shared->Prop} (hs:s.heap.IsSliceOf sl vl vu .none) (pl:IsPart vl lo) (pu:IsPart vu hi)
  (h:Q (((sIx n 0 lo:Nat):Int),1,sIx n n hi-sIx n 0 lo) s):wpAny (model prog w) A (Builtin.Slice.sliceApplied (.ref sl) (pure (n:Int))) Q E s:=by
 let⟨os,hos,hcs,hds⟩:=id hs;erw[Builtin.Slice.sliceApplied,Builtin.Slice.sliceFields];calc AA (AA (Bg hos hds (x:=vl) rfl (AA (Bg hos hds (x:=vu) rfl (AA (Bg hos hds (x:=.none) rfl (AB ?_)))))));calc AA (slicePart_none ?_);show wpAny _ _ (if ((1:Int)==0)=true then _ else _) _ _ s;rw[AE ()];calc AA (Ob pl (AA (Ob pu (AA (AB ?_)))));show wpAny _ _ (match Builtin.Slice.sliceAdjust lo hi 1 (n:Int) with|(lo,hi)=>pure (lo,(1:Int),Builtin.Slice.slicePlaces lo hi 1)) _ _ s;rw[WE lo hi n];show wpAny _ _ (pure (((sIx n 0 lo:Nat):Int),(1:Int),Builtin.Slice.slicePlaces ((sIx n 0 lo:Nat):Int) ((sIx n n hi:Nat):Int) 1)) _ _ s;rw[lK];calc AB h
def eU (xs:Yp) (i k:Nat):((List.range k).filterMap λ(m:Nat)=>xs[((i:Int)+(m:Int)*1).toNat]?).toArray=((xs.toList.drop i).take k).toArray:=by
 let e:(λ(m:Nat)=>xs[((i:Int)+(m:Int)*1).toNat]?)=λm=>xs[i+m]?:=by
  funext m;have:((i:Int)+(m:Int)*1).toNat=i+m:=()
  rw[this]
 rw[e];have:=pick_run xs i k;rw[List.filterMap_map]at this;let e2:((λx=>xs[x]?)∘λx=>i+x)=λm=>xs[i+m]?:=rfl;rw[e2]at this;rw[this]
def Sq {t sl:Yt} {items:Yp} {vl vu:Yu} {lo hi:Ys} {Q:Yc} (ht:IsTup s.heap t items) (hs:s.heap.IsSliceOf sl vl vu .none) (pl:IsPart vl lo) (pu:IsPart vu hi)
  (hw:¬ (sIx items.size 0 lo=0/\sIx items.size items.size hi=items.size))
  (h:Q (.ref ⇑s) { s with heap:=s.heap.push { cls:=.type "tuple", data:=.seq ((items.toList.drop (sIx items.size 0 lo)).take (sIx items.size items.size hi-sIx items.size 0 lo)).toArray } })
  (hsz:items.size<=sizeLine):wpAny (model prog w) A (getItem (.ref t) (.ref sl)) Q E s:=by
 let htake:sizeOk (.seq ((items.toList.drop (sIx items.size 0 lo)).take (sIx items.size items.size hi-sIx items.size 0 lo)).toArray):=by
  show ((items.toList.drop (sIx items.size 0 lo)).take (sIx items.size items.size hi-sIx items.size 0 lo)).toArray.size<=sizeLine;rw[AU,Bp,List.length_drop,BM];omega
 let hj:sIx items.size items.size hi<=items.size:=aM _ _ (AF _) hi;let⟨os,hos,hcs,hds⟩:=id hs;let hTs:s.TypeIs (.ref sl) "slice" := ⟨os,hos,hcs⟩;erw[getItem];try with_reducible refine CD ?_
 first|refine AA (AB ?_)|skip
 refine AA (wpAny_sequenceKey ht.typeIs () ?_)
 refine AA (CG (name:=Str.ofString "__getitem__") ht.typeIs Gu
  (BQ Gu ht.typeIs entry_tuple_getitem ?_ (args_tuple_getitem _ _)))
 show wpAny _ _ (Builtin.Tuple.tupleItemsOf (.ref t) >>= _) _ _ s;refine AA (tupleItemsOf_ ht ?_);refine AA (wpAny_typeOf hTs ?_);rw[AD ()];refine AA (RS hs pl pu ?_);let hno:¬ ((((sIx items.size 0 lo:Nat):Int)==0&&(1:Int)==1&&(sIx items.size items.size hi-sIx items.size 0 lo)==items.size)=true):=by
  intro q;rw[Au,Au]at q;let q1:((sIx items.size 0 lo:Nat):Int)=0:=eq_of_beq q.1.1;let q2:sIx items.size items.size hi-sIx items.size 0 lo=items.size:=eq_of_beq q.2;exact hw ⟨(),()⟩
 show wpAny _ _ (if (((sIx items.size 0 lo:Nat):Int)==0&&(1:Int)==1&&(sIx items.size items.size hi-sIx items.size 0 lo)==items.size)=true then _ else _) _ _ s;rw[AE hno,eU]
 first
  |calc AA (m:=Builtin.Tuple.tupleExact _) (BI (AB ⟨_,rfl,AB h⟩) htake)
  |calc AA (m:=Builtin.Tuple.tupleExact _) (BI (AA (AB (AB ⟨_,rfl,AB h⟩))) htake)
  |calc AA (AA (m:=Builtin.Tuple.tupleExact _) (BI (AB (AB ⟨_,rfl,AB h⟩)) htake))
  |calc AA (AA (m:=Builtin.Tuple.tupleExact _) (BI (AB ⟨_,rfl,AB h⟩) htake))
end
end HT
namespace L2
abbrev TO:=St->Hp->(Option Int->Hp->Prop)->Prop
def PO (X:Cx) (e:Option Expr) (t:TO):Prop :=
 ∀ (zB:Yd) (s:Yl) (Y:St) (H:Hp) (Q:Option Int->Hp->Prop),Inv X zB Y H s->t Y H Q ->
  wpAny (model X.prog X.w) X.A (evalPart e X.env) (λu s'=>∃ o H',Inv X zB Y H' s'/\IsPart u o/\Q o H') X.xe s
def VZ:TO:=λ_ H Q=>Q none H
def cU (t:TE):TO:=λY H Q=>t Y H λx H1=>∃ i,x=.int i/\Q (some i) H1
section
variable {X:Cx} {e:Expr} {te:TE} {lo hi:Option Expr} {tl th:TO} {pos p2:Pos}
def Vz:PO X none VZ:=by
 intro zB s Y H Q I h;rw[evalPart_none];calc AB ⟨none,H,I,.none,h⟩
def Vv (h:PE X e te):PO X (some e) (cU te):=by
 intro zB s Y H Q I hw;rw[evalPart_some];refine thn (h zB s Y H _ I hw) λu s1 ⟨x,H1,I1,r1,q1⟩=>?_;let⟨i,rfl,q⟩:=q1;let⟨t,rfl⟩:=r1;calc ⟨some i,H1,I1,.int i t,q⟩
def SlR (X:Cx) (r:V->Option Int->Option Int->Hp->VK->Prop):Prop :=
 ∀ (zB:Yd) (s:Yl) (Y:St) (H:Hp) (x:V) (v vl vu:Yu) (lo hi:Ys) (sl:Yt) (Q:VK),Inv X zB Y H s->zk x v->s.heap.IsSliceOf sl vl vu .none->IsPart vl lo->IsPart vu hi->r x lo hi H Q ->
  ∃ T id,typeLookup (.type T) "__getitem__" = pure (some (.builtin id))/\s.TypeIs v T/\wpAny (model X.prog X.w) X.A (getItem v (.ref sl)) (EP X zB Y Q) X.xe s
def SlR.or {r r':V->Option Int->Option Int->Hp->VK->Prop} (h:SlR X r) (h':SlR X r'):SlR X (λx lo hi H Q=>r x lo hi H Q\/r' x lo hi H Q):=by
 intro zB s Y H x v vl vu lo hi sl Q I rx hs pl pu q;rcases q with q|q
 .exact h zB s Y H x v vl vu lo hi sl Q I rx hs pl pu q
 .exact h' zB s Y H x v vl vu lo hi sl Q I rx hs pl pu q
def tSl (r:V->Option Int->Option Int->Hp->VK->Prop) (te:TE) (tl th:TO):TE:=λY H Q=>te Y H λx H1=>tl Y H1 λl H2=>th Y H2 λu H3=>r x l u H3 Q
def Vk {r:V->Option Int->Option Int->Hp->VK->Prop} (hr:SlR X r) (he:PE X e te) (hl:PO X lo tl) (hu:PO X hi th):PE X (.Subscript e (.Slice lo hi none p2) pos) (tSl r te tl th):=by
 intro zB s Y H Q I h;refine Subscript_ (thn (he zB s Y H _ I h) λv s1 ⟨x,H1,I1,r1,q1⟩=>?_);refine wpAny_Slice (thn (hl zB s1 Y H1 _ I1 q1) λvl s2 ⟨l,H2,I2,pl,q2⟩=>thn (hu zB s2 Y H2 _ I2 q2) λvu s3 ⟨u,H3,I3,pu,q3⟩=>?_);rw[evalPart_none];calc AB ?_;let I4:Inv X zB Y H3 { s3 with heap:=s3.heap.push { cls:=.type "slice", data:=.fields #[vl,vu,.none] } }:=I3.kept (t':=s3.toks) λb ob q=>AG _ q;let⟨T,id,hT,ht,hg⟩:=hr zB { s3 with heap:=s3.heap.push { cls:=.type "slice", data:=.fields #[vl,vu,.none] } } Y H3 x v vl vu l u ⇑s3 Q I4 r1 (Heap.IsSliceOf.new ..) pl pu q3;show wpAny (model X.prog X.w) X.A (subscriptTail e (.Slice lo hi none p2) v (.ref ⇑s3)) (EP X zB Y Q) X.xe { s3 with heap:=s3.heap.push { cls:=.type "slice", data:=.fields #[vl,vu,.none] } };calc tail_any (ops:=[.ref ⇑s3,v]) ht hT hg (by with_unfolding_all rfl)
def FK (xs:List V) (lo hi:Ys):List V:=(xs.drop (HT.sIx xs.length 0 lo)).take (HT.sIx xs.length xs.length hi-HT.sIx xs.length 0 lo)
def SJ (xs:List V) (lo hi:Ys):(FK xs lo hi).length<=xs.length:=by
 erw[FK];rw[Bp,List.length_drop];omega
def TY (K:Yb):V->Option Int->Option Int->Hp->VK->Prop:=λx lo hi H Q=>∃ a xs,x=.ref a/\SqT K H a xs /\
 ¬ (HT.sIx xs.length 0 lo=0/\HT.sIx xs.length xs.length hi=xs.length) /\ ∀ p,H p=none->Q (.ref p) (upd H p (.tup (FK xs lo hi)))
def Xy:SlR X (TY X.K):=by
 intro zB s Y H x v vl vu lo hi sl Q I rx hs pl pu h;let⟨a,xs,rfl,hx,hw,q⟩:=h;ext rx;let⟨its,r,ht,hz⟩:=I.tuple hx;let hlen:its.toArray.size=xs.length:=by rw[AU];exact r.length.symm
 calc ⟨"tuple", _,Gu.lookup,ht.typeIs,?_⟩;calc HT.Sq ht hs pl pu (by rw[hlen];calc hw) ?_ (by rw[hlen];calc hz);rw[hlen];refine ⟨.ref ⇑s,_,I.laid (t':=s.toks) (o:=.tup (FK xs lo hi)) (λb ob q=>AG _ q) (AF _) ?_,rfl,q _ (I.hok.fresh (AF _))⟩;calc ⟨Ar (SJ xs lo hi) hz,_,(r.drop (HT.sIx xs.length 0 lo)).take (HT.sIx xs.length xs.length hi-HT.sIx xs.length 0 lo),DW.new _ _⟩
def Ry (K:Yb):R2:=λx y H Q=>∃ a b xs ys,x=.ref a/\y=.ref b/\SqT K H a xs/\SqT K H b ys/\xs≠[]/\xs.length+ys.length<=sizeLine /\
 (ys=[]->Q (.ref a) H)/\(ys≠[] -> ∀ p,H p=none->Q (.ref p) (upd H p (.tup (xs++ys))))
def za.nil_iff {xs:List V} {us:Yf} (r:za xs us):us=[] ↔ xs=[]:=by
 cases r with
 |nil=>simp
 |cons _ _=>simp
def Sz:OpR X (binaryOp .Add) (Ry X.K):=by
 intro zB s Y H x y v u Q I rx ry h;let⟨a,b,xs,ys,rfl,rfl,ha,hb,hx,hz,q1,q2⟩:=h;ext rx;ext ry;let⟨its,r1,p1,_⟩:=I.tuple ha;let⟨its2,r2,p2,_⟩:=I.tuple hb;refine HT.nA p1 p2 (λz=>hx (r1.nil_iff.mp z)) (λz=>⟨.ref a,H,I,rfl,q1 (r2.nil_iff.mp z)⟩) (λz=>?_) (by rw[<-r1.length,<-r2.length];calc hz);refine ⟨.ref ⇑s,_,I.laid (t':=s.toks) (o:=.tup (xs++ys)) (λb ob q=>AG _ q) (AF _) ?_,rfl,q2 (λw=>z (r2.nil_iff.mpr w)) _ (I.hok.fresh (AF _))⟩;calc ⟨by rw[AW];calc hz,_,r1.append r2,DW.new _ _⟩
end
def ixN (n:Nat) (i:Int):Option Nat:=if 0<=i then (if i<n then some i.toNat else none) else if -(n:Int)<=i then some (i+n).toNat else none
def atI {α:Type} (xs:List α) (i:Int):Option α:=(ixN xs.length i).bind λj=>xs[j]?
def PU {n:Nat} {i:Int} {j:Nat} (h:ixN n i=some j):seqIndex? i n=some j/\j<n /\ -(n:Int)<=i/\i<n:=by
 erw[ixN]at h;by_cases h0:0<=i
 .rw[AD h0]at h;by_cases h1:i<n
  .rw[AD h1]at h;let e:i.toNat=j:=Bh h;exact ⟨by rw[seqIndex_of h0 h1,e],(),(),h1⟩
  .rw[AE h1]at h;ext h
 .rw[AE h0]at h;by_cases h1 : -(n:Int)<=i
  .rw[AD h1]at h;let e:(i+n).toNat=j:=Bh h;exact ⟨by rw[seqIndex_neg () h1,e],(),h1,()⟩
  .rw[AE h1]at h;ext h
def KW {α:Type} {xs:List α} {i:Int} {v:α} (h:atI xs i=some v):∃ j,seqIndex? i xs.length=some j/\xs[j]?=some v/\j<xs.length /\ -(xs.length:Int)<=i/\i<xs.length:=by
 erw[atI]at h;cases e:ixN xs.length i with
 |none=>rw[e]at h;ext h
 |some j=>
  rw[e]at h;let⟨h1,h2,h3,h4⟩:=PU e;calc ⟨j,h1,h,h2,h3,h4⟩
def Ca {α:Type} {xs:List α} {j:Nat} {v:α} (h:xs[j]?=some v):atI xs (j:Int)=some v:=by
 let hj:j<xs.length:=(AK.mp h).1;let e:ixN xs.length (j:Int)=some j:=by
  erw[ixN];rw[AD (),AD ()];simp
 erw[atI];rw[e];calc h
def SV (b:Expr):Prop:=∀ o i,subscripted b false o i=operate [o,i] (getItem o i)
def IxR (X:Cx) (r:R2):Prop :=
 ∀ (value slice:Expr) (zB:Yd) (s:Yl) (Y:St) (H:Hp) (x y:V) (v u:Yu) (Q:VK),Inv X zB Y H s->zk x v->zk y u->r x y H Q ->
  subscripted slice false v u=operate [v,u] (getItem v u)->wpAny (model X.prog X.w) X.A (subscriptTail value slice v u) (EP X zB Y Q) X.xe s
def MtR (X:Cx) (id:String) (r:V->List V->Hp->VK->Prop):Prop :=
 ∀ (zB:Yd) (s:Yl) (Y:St) (H:Hp) (x:V) (xs:List V) (v:Yu) (us:Yf) (Q:VK),Inv X zB Y H s->zk x v->za xs us->r x xs H Q ->
  wpAny (model X.prog X.w) X.A (call (.builtin id) (v::us)) (EP X zB Y Q) X.xe s
section
variable {X:Cx} {a b:Expr} {ta tb:TE} {pos:Pos}
def IxR.or {r r':R2} (h:IxR X r) (h':IxR X r'):IxR X (λx y H Q=>r x y H Q\/r' x y H Q):=by
 intro value slice zB s Y H x y v u Q I rx ry q hs;rcases q with q|q
 .exact h value slice zB s Y H x y v u Q I rx ry q hs
 .exact h' value slice zB s Y H x y v u Q I rx ry q hs
def Zd {r:R2} (hr:IxR X r) (ha:PE X a ta) (hb:PE X b tb) (hs:SV b):PE X (.Subscript a b pos) (tOp r ta tb):=by
 intro zB s Y H Q I h;calc Subscript_ (Ks ha hb I h λv u s2 x y H2 I2 rx ry q=>hr a b zB s2 Y H2 x y v u Q I2 rx ry q (hs _ _))
def Pu (K:Yb):R2:=λx y H Q=>∃ p xs i v,x=.ref p/\y=.int i/\SqL K H p xs/\atI xs i=some v/\Q v H
def RY (K:Yb):R2:=λx y H Q=>∃ p xs i v,x=.ref p/\y=.int i/\SqT K H p xs/\atI xs i=some v/\Q v H
def SX:R2:=λx y H Q=>∃ z i c,x=.str z/\y=.int i/\z.length<=sizeLine/\atI z.cps.toList i=some c/\Q (.str ⟨#[c]⟩) H
def XU:IxR X (Pu X.K):=by
 intro value slice zB s Y H x y v u Q I rx ry h hs;let⟨p,xs,i,z,rfl,rfl,hq,he,q⟩:=h;ext rx;let⟨t,rfl⟩:=ry;let⟨its,r,pl,hz⟩:=I.list hq;let⟨j,h1,h2,h3,h4,h5⟩:=KW he;let⟨w,ew,rw'⟩:=r.get h2;let hl:=r.length;let hn:=Gz;let fin:EP X zB Y Q w s:=⟨z,H,I,rw',q⟩;by_cases h0:0<=i
 .have hj:i.toNat=j:=by
   rw[seqIndex_of h0 h5]at h1;exact Bh h1
  exact item_listR pl.isList h0 () (by rw[hj];simpa using ew) fin hs
 .have hj:(i+(its.toArray.size:Int)).toNat=j:=by
   rw[seqIndex_neg () h4]at h1;rw[AU,<-hl];exact Bh h1
  exact subscriptTail_builtinR (x:=w) pl.isList.typeIs slot_list_getitem.lookup
   (wpAny_getItem_list_neg (Q:=λr s'=>r=w/\EP X zB Y Q r s') pl.isList () (by rw[AU] <;> omega) () (by rw[hj];simpa using ew) ⟨rfl,fin⟩) hs
def gZ:IxR X (RY X.K):=by
 intro value slice zB s Y H x y v u Q I rx ry h hs;let⟨p,xs,i,z,rfl,rfl,hq,he,q⟩:=h;ext rx;let⟨t,rfl⟩:=ry;let⟨its,r,pl,hz⟩:=I.tuple hq;let⟨j,h1,h2,h3,h4,h5⟩:=KW he;let⟨w,ew,rw'⟩:=r.get h2;let hl:=r.length;let hn:=Gz;let fin:EP X zB Y Q w s:=⟨z,H,I,rw',q⟩
 exact subscriptTail_builtinR (x:=w) pl.typeIs slot_tuple_getitem.lookup
  (getItem_tuple (j:=j) (Q:=λr s'=>r=w/\EP X zB Y Q r s') pl () () (by rw[AU,<-hl];calc h1) (~~~ew) ⟨rfl,fin⟩) hs
def U6:IxR X SX:=by
 intro value slice zB s Y H x y v u Q I rx ry h hs;let⟨z,i,c,rfl,rfl,hz,he,q⟩:=h;let⟨t,rfl⟩:=rx;let⟨t',rfl⟩:=ry;let⟨j,h1,h2,h3,h4,h5⟩:=KW he;let hl:z.cps.toList.length=z.length:=by simp[Str.length]
 rw[hl]at h1 h4 h5;let hn:=Gz;exact tail_any (typeIs_str s z t) slot_str_getitem.lookup (getItem_str (c:=c) (by
  let e1:decide (i < -(2 ^ 63:Int))=false:=Aa ();let e2:decide (i≥2 ^ 63)=false:=Aa ();rw[e1,e2,Bool.or_false]) (by rw[h1];simpa using h2) ⟨.str ⟨#[c]⟩,H,I.tok _,⟨_,rfl⟩,q⟩) hs
def rIx (K:Yb):R2:=λx y H Q=>Pu K x y H Q\/RY K x y H Q\/SX x y H Q
def gO:IxR X (rIx X.K):=XU.or (gZ.or U6)
def Ws (its:List Value) (n j:Nat) (u:Value):Obj.mapSeq (·.setIfInBounds j u) { cls:=.type "list", data:=.seq its.toArray n }={ cls:=.type "list", data:=.seq (its.set j u).toArray n }:=by
 simp[Obj.mapSeq]
def Inv.lst {zB:Yd} {Y:St} {H:Hp} {s:Yl} {p:Yt} {xs:List V} (I:Inv X zB Y H s) (h:H p=some (.lst xs)) :
  ∃ (its:List Value) (n:Nat),za xs its/\s.heap.get? p=some { cls:=.type "list", data:=.seq its.toArray n }/\xs.length<=sizeLine:=by
 let⟨z,its,n,r,e⟩:=I.hok p _ h;calc ⟨its,n,r,e,z⟩
def Inv.lstUpd {zB:Yd} {Y:St} {H:Hp} {s:Yl} {p:Yt} {xs ys:List V} {its its':Yf} {n n':Nat} {f:Obj->Obj} (I:Inv X zB Y H s) (h:H p=some (.lst xs))
  (ho:s.heap.get? p=some { cls:=.type "list", data:=.seq its.toArray n }) (hf:f { cls:=.type "list", data:=.seq its.toArray n }={ cls:=.type "list", data:=.seq its'.toArray n' }) (r:za ys its') (hz:ys.length<=sizeLine) (t:Nat) :
  Inv X zB Y (upd H p (.lst ys)) { s with heap:=s.heap.update p f,toks:=t }:=by
 let e:(s.heap.update p f).get? p=some { cls:=.type "list", data:=.seq its'.toArray n' }:=by
  rw[EN f ho (by rw[hf] <;> rfl),hf]
 refine I.write (x:=p) (e:=p) (by rw[h];trivial) (.inl rfl) (λb u hb q=>(EF _ _ (Ne.symm hb)).trans q) ⟨_,e⟩ ?_;calc ⟨hz,its',n',r,e⟩
def fW:V->V->V->Hp->(Hp->Prop)->Prop:=λo i v H Q=>∃ p xs k j,o=.ref p/\i=.int k/\H p=some (.lst xs)/\ixN xs.length k=some j/\Q (upd H p (.lst (xs.set j v)))
def aR:Nz X fW:=by
 intro zB s Y H o i v ov iv u Q I ro ri rv h;let⟨p,xs,k,j,rfl,rfl,hp,hj,q⟩:=h;ext ro;let⟨t,rfl⟩:=ri;let⟨its,n,r,ho,hz⟩:=I.lst hp;let⟨h1,h2,h3,h4⟩:=PU hj;let hl:=r.length;let hn:=Gz;let I':Inv X zB Y (upd H p (.lst (xs.set j v))) { s with heap:=s.heap.update p (Obj.mapSeq (·.setIfInBounds j u)) } :=
  I.lstUpd hp ho (Ws its n j u) (r.set rv j) (by rw[Cf];calc hz) s.toks
 by_cases h0:0<=k
 .have hk:k.toNat=j:=by
   rw[seqIndex_of h0 h4]at h1;exact Bh h1
  exact PySem.W.ki_setAt ho h0 () (by rw[AU,<-hl];calc h4) (by rw[hk];calc ⟨_,I',q⟩)
 .have hk:(k+(its.toArray.size:Int)).toNat=j:=by
   rw[seqIndex_neg () h3]at h1;rw[AU,<-hl];exact Bh h1
  calc PySem.W.ki_setBack ho () (by rw[AU,<-hl];calc h3) () (by rw[hk];calc ⟨_,I',q⟩)
def S7 (lo hi:Ys) (n:Nat):(sliceBounds lo hi none n).1=((HT.sIx n 0 lo:Nat):Int)/\(sliceBounds lo hi none n).2.1=((HT.sIx n n hi:Nat):Int)/\(sliceBounds lo hi none n).2.2=1:=by
 refine ⟨?_,?_,rfl⟩
 .cases lo with
  |none=>simp[sliceBounds,HT.sIx]
  |some i=>
   simp only[sliceBounds,HT.sIx,Option.getD_none,show (1:Int)>0 by decide,if_true];by_cases h:i<0
   .simp only[h,if_true] <;> omega
   .simp only[h,if_false] <;> omega
 .cases hi with
  |none=>simp[sliceBounds,HT.sIx]
  |some i=>
   simp only[sliceBounds,HT.sIx,Option.getD_none,show (1:Int)>0 by decide,if_true];by_cases h:i<0
   .simp only[h,if_true] <;> omega
   .simp only[h,if_false] <;> omega
def ZW (its:Yf) (lo hi:Ys):slicePick its.toArray lo hi none=((its.drop (HT.sIx its.length 0 lo)).take (HT.sIx its.length its.length hi-HT.sIx its.length 0 lo)).toArray:=by
 let⟨h1,h2,h3⟩:=S7 lo hi its.toArray.size;erw[slicePick];rw[h1,h2,h3];simp only[sliceRange_one,pick_run,AU] <;> rfl
def jX (K:Yb):V->Option Int->Option Int->Hp->VK->Prop:=λx lo hi H Q=>∃ a xs,x=.ref a/\SqL K H a xs /\ ∀ p,H p=none->Q (.ref p) (upd H p (.lst (FK xs lo hi)))
def eW:SlR X (jX X.K):=by
 intro zB s Y H x v vl vu lo hi sl Q I rx hs pl pu h;let⟨a,xs,rfl,hx,q⟩:=h;ext rx;let⟨its,r,ht,hz⟩:=I.list hx;let hlen:=r.length;calc ⟨"list", _,slot_list_getitem.lookup,ht.isList.typeIs,?_⟩;refine wpAny_getItem_list_slice ht.isList hs pl pu .none (by simp) ?_ (by rw[AU] <;> omega);rw[ZW,<-hlen];refine ⟨.ref ⇑s,_,I.laid (t':=s.toks) (o:=.lst (FK xs lo hi)) (λb ob q=>AG _ q) (AF _) ?_,rfl,q _ (I.hok.fresh (AF _))⟩;calc ⟨Ar (SJ xs lo hi) hz,_,0,(r.drop (HT.sIx xs.length 0 lo)).take (HT.sIx xs.length xs.length hi-HT.sIx xs.length 0 lo),AM _ rfl⟩
def Ej:V->Bool
 |.non=>true
 |.bl _=>true
 |.int _=>true
 |.str _=>true
 |_=>false
def eqV:V->V->Bool
 |.non,.non=>true
 |.bl a,.bl b=>a==b
 |.bl a,.int b=>(if a then 1 else 0)==b
 |.int a,.bl b=>a==(if b then 1 else 0)
 |.int a,.int b=>a==b
 |.str a,.str b=>a==b
 |_,_=>false
def fY {A:Yn} {s:Yl} {y x:V} {u v:Yu} (ry:zk y u) (rx:zk x v) (fy:Ej y=true) (fx:Ej x=true):SeqAt.EqAt A s u v (eqV y x):=by
 cases y with
 |non=>
  ext ry;cases x with
  |non=>ext rx;calc SeqAt.EqAt.same _
  |bl b=>ext rx;calc SeqAt.EqAt.none_bool b
  |int b=>let⟨t,rfl⟩:=rx;calc SeqAt.EqAt.none_int b t
  |str b=>let⟨t,rfl⟩:=rx;calc SeqAt.EqAt.none_str b t
  |_=>calc absurd (show false=true from fx) Ab
 |bl a=>
  ext ry;cases x with
  |non=>ext rx;calc SeqAt.EqAt.bool_none a
  |bl b=>ext rx;calc SeqAt.EqAt.bool_bool a b
  |int b=>let⟨t,rfl⟩:=rx;calc SeqAt.EqAt.bool_int a b t
  |str b=>let⟨t,rfl⟩:=rx;calc SeqAt.EqAt.bool_str a b t
  |_=>calc absurd (show false=true from fx) Ab
 |int a=>
  let⟨t',rfl⟩:=ry;cases x with
  |non=>ext rx;calc SeqAt.EqAt.int_none a t'
  |bl b=>ext rx;calc SeqAt.EqAt.int_bool a t' b
  |int b=>let⟨t,rfl⟩:=rx;calc SeqAt.EqAt.int_int a t' b t
  |str b=>let⟨t,rfl⟩:=rx;calc SeqAt.EqAt.int_str a t' b t
  |_=>calc absurd (show false=true from fx) Ab
 |str a=>
  let⟨t',rfl⟩:=ry;cases x with
  |non=>ext rx;calc SeqAt.EqAt.str_none a t'
  |bl b=>ext rx;calc SeqAt.EqAt.str_bool a t' b
  |int b=>let⟨t,rfl⟩:=rx;calc SeqAt.EqAt.str_int a t' b t
  |str b=>let⟨t,rfl⟩:=rx;calc SeqAt.EqAt.str_str a t' b t
  |_=>calc absurd (show false=true from fx) Ab
 |_=>calc absurd (show false=true from fy) Ab
def eqU (x:V) (u:Yu):Bool:=match u with
 |.none=>eqV .non x
 |.bool b=>eqV (.bl b) x
 |.int i _=>eqV (.int i) x
 |.str z _=>eqV (.str z) x
 |_=>false
def RH {x y:V} {u:Yu} (r:zk y u) (f:Ej y=true):eqU x u=eqV y x:=by
 cases y with
 |non=>ext r;rfl
 |bl b=>ext r;rfl
 |int i=>let⟨t,rfl⟩:=r;rfl
 |str z=>let⟨t,rfl⟩:=r;rfl
 |_=>calc absurd (show false=true from f) Ab
theorem IV {x:V}:∀ {xs:List V} {us:Yf},za xs us->xs.all Ej=true->us.any (eqU x)=xs.any λy=>eqV y x
 |_,_,.nil,_=>rfl
 |y::xs,u::us,.cons r t,f=>by
  rw[List.all_cons,Au]at f;rw[List.any_cons,List.any_cons,RH r f.1,IV t f.2]
theorem JB {A:Yn} {s:Yl} {x:V} {v:Yu} (rx:zk x v) (fx:Ej x=true):∀ {xs:List V} {us:Yf},za xs us->xs.all Ej=true -> ∀ u∈us,SeqAt.EqAt A s u v (eqU x u)
 |_,_,.nil,_=>λu hu=>by ext hu
 |y::xs,u::us,.cons r t,f=>λu' hu=>by
  rw[List.all_cons,Au]at f;rcases AJ.mp hu with rfl|hu
  .rw[RH r f.1];exact fY r rx f.1 fx
  .exact JB rx fx t f.2 u' hu
def inV (x:V) (xs:List V):Bool:=xs.any λy=>eqV y x
def rIn (K:Yb) (neg:Bool):R2:=λx y H Q=>∃ p xs,y=.ref p/\(SqL K H p xs\/SqT K H p xs)/\Ej x=true/\xs.all Ej=true/\Q (.bl (if neg then !inV x xs else inV x xs)) H
def gQ:OpR X (compareOp .In) (rIn X.K false):=by
 intro zB s Y H x y v u Q I rx ry h;let⟨p,xs,rfl,hq,fx,fs,q⟩:=h;ext ry;rcases hq with hq|hq
 .obtain ⟨its,r,pl,hz⟩:=I.list hq;refine SeqAt.in_listAt (eqU x) pl.isList (λw hw=>JB rx fx r fs w (~~~hw)) ⟨.bl _,H,I,rfl,?_⟩;rw[show its.toArray.any (eqU x)=its.any (eqU x) by simp,IV r fs];exact q
 .obtain ⟨its,r,pl,hz⟩:=I.tuple hq;refine SeqAt.in_tupleAt (eqU x) pl (λw hw=>JB rx fx r fs w (~~~hw)) ⟨.bl _,H,I,rfl,?_⟩;rw[show its.toArray.any (eqU x)=its.any (eqU x) by simp,IV r fs];calc q
def mJ:OpR X (compareOp .NotIn) (rIn X.K true):=by
 intro zB s Y H x y v u Q I rx ry h;let⟨p,xs,rfl,hq,fx,fs,q⟩:=h;ext ry;rcases hq with hq|hq
 .obtain ⟨its,r,pl,hz⟩:=I.list hq;refine SeqAt.notIn_listAt (eqU x) pl.isList (λw hw=>JB rx fx r fs w (~~~hw)) ⟨.bl _,H,I,rfl,?_⟩;rw[show its.toArray.any (eqU x)=its.any (eqU x) by simp,IV r fs];exact q
 .obtain ⟨its,r,pl,hz⟩:=I.tuple hq;refine SeqAt.notIn_tupleAt (eqU x) pl (λw hw=>JB rx fx r fs w (~~~hw)) ⟨.bl _,H,I,rfl,?_⟩;rw[show its.toArray.any (eqU x)=its.any (eqU x) by simp,IV r fs];calc q
def dA:CY X (.builtin "len") (λxs H Q=>∃ p ys,xs=[.ref p]/\(SqL X.K H p ys\/SqT X.K H p ys)/\Q (.int ys.length) H):=by
 intro zB s Y H xs us Q I r h;let⟨p,ys,rfl,hq,q⟩:=h;let⟨u,rfl,rx⟩:=EH r;ext rx;let hn:=Gz;rcases hq with hq|hq
 .obtain ⟨its,r',pl,hz⟩:=I.list hq;let hlen:=r'.length;exact Calls.call_len_list pl.isList (by simp only[AU] <;> omega) ⟨.int ys.length,H,I.tok _,⟨s.toks+1,by rw[AU,hlen]⟩,q⟩
 .obtain ⟨its,r',pl,hz⟩:=I.tuple hq;let hlen:=r'.length;exact len_tuple pl (by simp only[AU] <;> omega) ⟨.int ys.length,H,I.tok _,⟨s.toks+1,by rw[AU,hlen]⟩,q⟩
def TM:CY X (.type "list") (λxs H Q=>∃ p ys,xs=[.ref p]/\(SqL X.K H p ys\/SqT X.K H p ys) /\ ∀ l,H l=none->Q (.ref l) (upd H l (.lst ys))):=by
 intro zB s Y H xs us Q I r h;let⟨p,ys,rfl,hq,q⟩:=h;let⟨u,rfl,rx⟩:=EH r;ext rx
 let fin:∀ (its:Yf),za ys its->ys.length<=sizeLine -> ∀ (h':Heap) (c':Nat),(∀ b o',s.heap.get? b=some o'->h'.get? b=some o') ->
   h'.get? ⇑s=some { cls:=.type "list", dict:=none,data:=.seq its.toArray c',slots:=#[] }->EP X zB Y Q (.ref ⇑s) { s with heap:=h' }:=λits r' hz h' c' kp e=>
  ⟨.ref ⇑s,_,I.laid (t':=s.toks) kp (AF _) (show Ag X.prog X.w _ h' _ (.lst ys)from ⟨hz,its,c',r',e⟩),rfl,q _ (I.hok.fresh (AF _))⟩
 rcases hq with hq|hq
 .obtain ⟨its,r',pl,hz⟩:=I.list hq;let hlen:=r'.length;let⟨o,ho,hc,n,hd⟩:=pl.isList;exact call_list_seq p (.inl rfl) ho hc hd (λh' c' kp e=>fin its r' hz h' c' kp e) (by simp only[AU] <;> omega)
 .obtain ⟨its,r',pl,hz⟩:=I.tuple hq;let hlen:=r'.length;let⟨o,ho,hc,n,hd⟩:=pl;exact call_list_seq p (.inr rfl) ho hc hd (λh' c' kp e=>fin its r' hz h' c' kp e) (by simp only[AU] <;> omega)
def Um:CY X (.type "tuple") (λxs H Q=>∃ p ys,xs=[.ref p]/\((SqL X.K H p ys /\ ∀ l,H l=none->Q (.ref l) (upd H l (.tup ys)))\/(SqT X.K H p ys/\Q (.ref p) H))):=by
 intro zB s Y H xs us Q I r h;let⟨p,ys,rfl,h⟩:=h;let⟨u,rfl,rx⟩:=EH r;ext rx;rcases h with ⟨hq,q⟩|⟨hq,q⟩
 .obtain ⟨its,r',pl,hz⟩:=I.list hq;let hlen:=r'.length;refine call_tuple_list pl.isList (λh' kp=>?_) (by simp only[AU] <;> omega);let I1:Inv X zB Y H { s with heap:=h' }:=I.kept (t':=s.toks) kp;let I2:Inv X zB Y (upd H h'.objs.size (.tup ys)) { s with heap:=h'.push { cls:=.type "tuple", data:=.seq its.toArray } } :=
   I1.laid (t':=s.toks) (λb o e=>AG _ e) (AF _) (show Ag X.prog X.w _ _ _ (.tup ys)from ⟨hz,its,r',DW.new _ _⟩)
  exact ⟨.ref h'.objs.size,_,I2,rfl,q _ (I1.hok.fresh (AF _))⟩
 .obtain ⟨its,r',pl,hz⟩:=I.tuple hq;calc call_tuple_same pl ⟨.ref p,H,I,rfl,q⟩
def tyV (K:Yb) (T:String) (x:V) (H:Hp):Prop:=match x with
 |.str _=>T = "str"
 |.int _=>T = "int"
 |.ref p=>(T = "list" /\ ∃ xs,SqL K H p xs)\/(T = "tuple" /\ ((∃ o,K.lookup p=some o/\o.cls=.type "tuple" /\ o.dict=none) \/ ∃ xs,H p=some (.tup xs))) \/
   (T = "dict" /\ ((∃ kvs,H p=some (.dK kvs)) \/ ∃ kvs,H p=some (.dT kvs)))\/(T = "set" /\ ∃ S n,H p=some (.set S n))
 |_=>False
def V0 {zB:Yd} {Y:St} {H:Hp} {s:Yl} {T:String} {x:V} {v:Yu} (I:Inv X zB Y H s) (r:zk x v) (ty:tyV X.K T x H) :
  s.TypeIs v T /\ ∀ a,v=.ref a -> ∃ ob,s.heap.get? a=some ob/\ob.dict=none:=by
 cases x with
 |str z=>
  let⟨t,rfl⟩:=r;cases (show T = "str" from ty);exact ⟨typeIs_str s z t,λ_ e=>nomatch e⟩
 |int i=>
  let⟨t,rfl⟩:=r;cases (show T = "int" from ty);exact ⟨typeIs_int s i t,λ_ e=>nomatch e⟩
 |ref p=>
  ext r;rcases ty with ⟨rfl,xs,hq⟩|⟨rfl,⟨o,hk,hc,hd⟩|⟨xs,hq⟩⟩|⟨rfl,hk⟩|⟨rfl,S,n,hk⟩
  .obtain ⟨its,_,pl,_⟩:=I.list hq;refine ⟨pl.isList.typeIs,λa e=>?_⟩;ext e;let⟨o,n,e,c,hd,_⟩:=pl;exact ⟨o,e,hd⟩
  .refine ⟨⟨o,I.kIn p o hk,hc⟩,λa e=>?_⟩;ext e;exact ⟨o,I.kIn _ o hk,hd⟩
  .obtain ⟨_,its,_,o,e,c,_,hd⟩:=I.hok p _ hq;refine ⟨⟨o,e,c⟩,λa e2=>?_⟩;ext e2;exact ⟨o,e,hd⟩
  .have z:∃ o,s.heap.get? p=some o/\o.ExactDict:=by
    rcases hk with ⟨kvs,hk⟩|⟨kvs,hk⟩
    .obtain ⟨_,_,_,_,o,_,_,e,ex,_⟩:=I.hok p _ hk;exact ⟨o,e,ex⟩
    .obtain ⟨_,_,_,_,o,_,_,e,ex,_⟩:=I.hok p _ hk;exact ⟨o,e,ex⟩
   let⟨o,e,ex⟩:=z;refine ⟨⟨o,e,ex.1⟩,λa e2=>?_⟩;ext e2;exact ⟨o,e,ex.2.1⟩
  .obtain ⟨o,_,_,_,e,ex,_⟩:=I.hok p _ hk;refine ⟨⟨o,e,ex.1⟩,λa e2=>?_⟩;ext e2;calc ⟨o,e,ex.2.1⟩
 |_=>calc False.elim ty
def tBM (K:Yb) (T:String) (r:V->List V->Hp->VK->Prop) (to:TE) (t:TA):TE:=λY H Q=>to Y H λx H1=>tyV K T x H1/\t Y H1 λxs H2=>r x xs H2 Q
variable {o e:Expr} {es:Yi} {to:TE} {t:TA} {name:Str} {apos cpos:Pos} {T id:String} {r:V->List V->Hp->VK->Prop}
def Q2 (pa:PlainAttrs T) (slot:Slot T name id) (hty:typeOf (.builtin id)=pure (.type "method_descriptor")) (hm:MtR X id r) (ho:PE X o to) (ha:PA X (e::es) t)
  (hbase:attributeBase o name X.env (eval o X.env)=eval o X.env:=by rfl)
  (hfew:((backTo cpos (starEach (e::es) X.env)).all (λx=> !x.1)&&(backToKw cpos (keywordEach [] X.env)).all (λx=>x.1.isSome)
   && decide ((e::es).length+([]:List Keyword).length+(if ([]:List Keyword).isEmpty then 0 else 1)<30))=true:=by rfl)
  (hline:(apos.endLine==cpos.line)=true:=by rfl) (hs:starEach (e::es) X.env=(false,eval e X.env)::starEach es X.env:=by rfl) (hplain:(backTo cpos (starEach es X.env)).any (·.1)=false:=by rfl) :
  PE X (.Call (.Attribute o name apos) (e::es) [] cpos) (tBM X.K T r to t):=by
 intro zB s Y H Q I h;refine wpAny_Call_method_late hbase hfew hline rfl (thn (ho zB s Y H _ I h) λv s1 ⟨x,H1,I1,r1,ty,q1⟩=>?_);let⟨h1,h2⟩:=V0 I1 r1 ty;calc ⟨T,id,pa,slot,hty,h1,h2,?_⟩;let hA:=ha cpos zB s1 Y H1 _ I1 q1;rw[hs]at hA ⊢;refine Calls.callWith_builtin (by show (false||(backTo cpos (starEach es X.env)).any (·.1))=false;rw[hplain] <;> rfl) (Calls.evalArgs_plain ?_);calc thn hA λus s2 ⟨vs,H2,I2,r2,q2⟩=>hm zB s2 Y H2 x vs v us Q I2 r1 r2 q2
end
def MtM (X:Cx) (id:String) (r:V->List V->Hp->VK->Prop):Prop :=
 ∀ (zB:Yd) (s:Yl) (Y:St) (H:Hp) (x:V) (xs:List V) (v:Yu) (us:Yf) (Q:VK),Inv X zB Y H s->zk x v->za xs us->r x xs H Q ->
  wpAny (model X.prog X.w) X.A (call (.builtin id) (v::us)) (EP X zB Y Q) X.xe s
def za.one:∀ {x:V} {us:Yf},za [x] us -> ∃ u,us=[u]/\zk x u:=by rintro x _ (_|⟨r,_|_⟩);exact⟨_,rfl,r⟩
def za.two:∀ {x y:V} {us:Yf},za [x,y] us -> ∃ u v,us=[u,v]/\zk x u/\zk y v:=by rintro x y _ (_|⟨r,_|⟨q,_|_⟩⟩);exact⟨_,_,rfl,r,q⟩
def za.rep {xs:List V} {us:Yf} (h:za xs us):∀ k:Nat,za (List.replicate k xs).flatten (List.replicate k us).flatten
 |0=> .nil
 |k+1=>by
  rw[GI,GI,D6,D6];calc za.append h (za.rep h k)
theorem MF (its:Yf):∀ (k:Nat) (acc:Yf),
  List.foldl (λx1 x2=>x1++x2) acc.toArray (List.replicate k its.toArray)=(acc++(List.replicate k its).flatten).toArray
 |0,acc=>by simp
 |k+1,acc=>by
  let e:acc.toArray++its.toArray=(acc++its).toArray:=by simp
  let e2:(acc++its)++(List.replicate k its).flatten=acc++(List.replicate (k+1) its).flatten:=by
   rw[GI,D6,B7]
  rw[<-e2,<-MF its k (acc++its),<-e,GI,List.foldl_cons]
section
variable {X:Cx} {zB:Yd} {Y:St} {H:Hp} {s:Yl} {l b:Yt} {xs ys zs:List V}
def Inv.lset {its its':Yf} {n:Nat} {f:Array Value->Array Value} {t':Nat} (I:Inv X zB Y H s) (hH:H l=some (.lst xs))
  (e:s.heap.get? l=some { cls:=.type "list", data:=.seq its.toArray n }) (hf:f its.toArray=its'.toArray) (hv:za ys its') (hz:ys.length<=sizeLine) :
  Inv X zB Y (upd H l (.lst ys)) { s with heap:=s.heap.update l (Obj.mapSeq f),toks:=t' }:=by
 let q:=PySem.IsL.update e f;rw[hf]at q;refine I.write (x:=l) (e:=l) (by rw[hH];calc trivial) (.inl rfl) (λb' u hb hu=>(EF s.heap (Obj.mapSeq f) (Ne.symm hb)).trans hu) ⟨_,q⟩ ?_;calc ⟨hz,its',_,hv,q⟩
def Inv.lnew {its:Yf} {t':Nat} (I:Inv X zB Y H s) (hv:za ys its) (hz:ys.length<=sizeLine) :
  Inv X zB Y (upd H ⇑s (.lst ys)) { s with heap:=s.heap.push { cls:=.type "list", data:=.seq its.toArray },toks:=t' } :=
 I.laid (λ_ _ q=>AG _ q) (AF _) ⟨hz,its,0,hv,AM _ rfl⟩
def Inv.fresh (I:Inv X zB Y H s):H ⇑s=none:=I.hok.fresh (AF _)
def Inv.lstM (I:Inv X zB Y H s) (hH:H l=some (.lst xs)):xs.length<=sizeLine /\ ∃ (its:List Value) (n:Nat),za xs its/\xs.length=its.length/\s.heap.get? l=some { cls:=.type "list", data:=.seq its.toArray n }:=by
 let⟨z,its,n,r,e⟩:=I.hok l _ hH;calc ⟨z,its,n,r,r.length,e⟩
def jH {n:Nat} (h:n<=sizeLine):Builtin.List.listTooLong n=false:=by
 erw[Builtin.List.listTooLong];calc Aa ()
end
section
variable {X:Cx}
def RO:V->List V->Hp->VK->Prop:=λx vs H Q=>∃ l xs y,x=.ref l/\vs=[y]/\H l=some (.lst xs)/\xs.length<sizeLine/\Q .non (upd H l (.lst (xs++[y])))
def S2:MtM X "list.append" RO:=by
 intro zB s Y H x vs v us Q I rx rv h;let⟨l,xs,y,rfl,rfl,hH,hz,q⟩:=h;ext rx;let⟨u,rfl,ru⟩:=rv.one;let⟨z,its,n,r,hl,e⟩:=I.lstM hH;calc call_meets F.slot_list_append ⟨_,e,rfl⟩ F.entry_list_append (F.args_list_append_2 _ _) (PySem.list_append l its.toArray n u (by rw[AU];omega)) ⟨e,?_⟩;calc ⟨.non,_,I.lset (its':=its++[u]) hH e (by simp) (r.append (.cons ru .nil)) ?_,rfl,q⟩;rw[AW,Eb];omega
def P7:R2:=λx y H Q=>∃ l b xs zs,x=.ref l/\y=.ref b/\H l=some (.lst xs)/\H b=some (.lst zs)/\xs.length+zs.length<=sizeLine /\ ∀ p,H p=none->Q (.ref p) (upd H p (.lst (xs++zs)))
def j4:OpR X (binaryOp .Add) P7:=by
 intro zB s Y H x y v u Q I rx ry h;let⟨l,b,xs,zs,rfl,rfl,hH,hB,hz,q⟩:=h;ext rx;ext ry;let⟨z,its,n,r,hl,e⟩:=I.lstM hH;let⟨z2,its2,n2,r2,hl2,e2⟩:=I.lstM hB;calc PySem.P.add_list e e2 ?_ (by rw[AU,AU];omega);let ea:its.toArray++its2.toArray=(its++its2).toArray:=by simp
 rw[ea];calc ⟨.ref _,_,I.lnew (t':=s.toks) (r.append r2) (by rw[AW];omega),rfl,q _ I.fresh⟩
def RD:R2:=λx y H Q=>∃ l k xs,x=.ref l/\y=.int k/\H l=some (.lst xs) /\ -(2 ^ 63)<=k/\k<2 ^ 63/\xs.length*k.toNat<=sizeLine /\
 ∀ p,H p=none->Q (.ref p) (upd H p (.lst (List.replicate k.toNat xs).flatten))
def Kl {α:Type} (xs:List α) (k:Nat):(List.replicate k xs).flatten.length=k*xs.length:=by
 induction k with
 |zero=>simp
 |succ k ih=>rw[GI,D6,AW,ih,Nat.succ_mul,Nat.add_comm]
def U7:OpR X (binaryOp .Mult) RD:=by
 intro zB s Y H x y v u Q I rx ry h;let⟨l,k,xs,rfl,rfl,hH,h1,h2,hz,q⟩:=h;ext rx;let⟨t,rfl⟩:=ry;let⟨z,its,n,r,hl,e⟩:=I.lstM hH;let hlen:its.toArray.size*k.toNat<=sizeLine:=by rw[AU,<-hl];exact hz
 let hcap:¬ its.toArray.size*k.toNat>(2 ^ 63-1) / 8:=by
  have:(sizeLine:Nat)<=(2 ^ 63-1) / 8:=()
  omega
 let hfit:¬ (!Builtin.List.listFitsIndex k)=true:=by
  rw[fitsIndex_both h1 h2];exact Ab
 let hlong:¬ Builtin.List.listTooLong (its.toArray.size*k.toNat)=true:=by
  rw[jH hlen];exact Ab
 let hnew:List.foldl (λx1 x2=>x1++x2) #[] (List.replicate (if its.toArray.isEmpty=true then 0 else k.toNat) its.toArray)=(List.replicate k.toNat its).flatten.toArray:=by
  let f0:∀ m:Nat,List.foldl (λx1 x2=>x1++x2) #[] (List.replicate m its.toArray)=(List.replicate m its).flatten.toArray:=λm=>by
   have:=MF its m [];rw[List.nil_append]at this;exact this
  rw[f0];cases its with
  |nil=>simp
  |cons a r'=>rw[AE (by simp)]
 refine wpAny_binaryOp_repeat_ref (T := "list") (U := "int") () ⟨_,e,rfl⟩ (λs'=>typeIs_int s' k t) noFill_list_mul F.fills_int_mul F.slot_int_rmul repeat_list F.slot_int_index.lookup
  (call_meets F.slot_int_rmul (typeIs_int s k t) F.entry_int_rmul (F.args_int_rmul_2 _ _) (int___rmul___int_list k t l its.toArray n)
   ⟨e,rfl,⟨_,e,rfl⟩,call_meets F.slot_list_mul ⟨_,e,rfl⟩ F.entry_list_mul (F.args_list_mul_2 _ _) (AutoListH.list___mul___list_int_3 l its.toArray n k t hfit hcap hlong) ⟨e,?_⟩⟩)
 rw[hnew];calc ⟨.ref _,_,I.lnew (t':=s.toks) (r.rep k.toNat) (by rw[Kl,Nat.mul_comm];calc hz),rfl,q _ I.fresh⟩
end
end L2
namespace Att
open PySem PySem.W PySem.Calls PyProof.Rows
def eO {P:Params} {h:Heap}:∀ (ns:Ye) (vs:Yf),WellAll P h vs (ns.map WData.int)->IntsAre vs ns:=by
 intro ns;induction ns with
 |nil=>
  intro vs w;rw[List.map_nil]at w;ext w;calc .nil
 |cons n ns ih=>
  intro vs w;rw[Af]at w;cases w with
  |cons a b=>
   ext a;calc .cons _ _ (ih _ b)
def j6 {l:OpenLaw} {n:Nat} (hn:l.most=some n) {P:Params} {h:Heap} {args:List WData} {vals:Yf}
  (hpre:l.row.toRowW.claim.pre args=true) (hwl:WellAll P h vals args) :
  ∃ a vs ns,vals=[Value.ref a]/\args=[WData.list (ns.map WData.int)]/\h.get? a=some { cls:=.type "list", data:=.seq vs.toArray }/\IntsAre vs ns/\ns.length<=n:=by
 let hsh:WShape.hasAll [] args [.list .int]=true:=(pre_splitW hpre).1;let hc:l.pre.holds [] { args:=args }=true:=(pre_splitW hpre).2;let⟨d,r,rfl,h1,h2⟩:=hasAllW_cons hsh;obtain rfl:=hasAllW_nil h2;let⟨xs,rfl,h3⟩:=hasW_list h1;let⟨ns,rfl⟩:=items_int h3;let hlen:ns.length<=n:=by
  erw[OpenLaw.pre]at hc;let h4:(WTm.not (.lt (.lit (.int (n:Int))) (.len (.arg 0)))).holds [] { args:=[.list (ns.map .int)] }=true:=by
   let h4:=(holds_andW hc).1;rw[hn]at h4;exact h4
  let h5:=condW_of h4 (w_not (w_lt w_lit (w_len_list (w_arg rfl))));rw[AI]at h5;refine Nat.le_of_not_lt λq=>?_;let q':(n:Int)<((ns.length:Nat):Int):=()
  first
   | (rw[Ap q']at h5;calc absurd h5 ())
   | (simp at h5;omega)
 cases hwl with
 |cons w1 w2=>
  ext w2;cases w1 with
  |list ho hall=>calc ⟨_,_,ns,rfl,rfl,ho,eO ns _ hall,hlen⟩
def aY (l:OpenLaw) (args:List WData):l.row.toRowW.claim.post args (.bool true) args=true :=
 postW_of (r:=l.row.toRowW) (X:=(true==true))
  (show WShape.has [] (.bool true) .bool=true by first|rfl|decide|simp[WShape.has,WShape.arms,WShape.armsAll])
  (show (WTm.eq .res (.lit (.bool true))).value [] { args:=args,res:=some (.bool true),after:=args }=some (.bool (true==true))from w_eq_bool (w_res rfl) w_lit) rfl
def XH {l:OpenLaw} {n:Nat} {q:Ym} {loose:Yk} {XP:(Str->Option Value)->Heap->Prop} {YP:World->Heap->Prop} {d:DefRec}
  (hn:l.most=some n) (hdf:d.params.defaults=[])
  (call:∀ (w:Yo) (s₀ s₁:Yl) (mg mb:Yh) (fa:Yt) (o:Obj) (pm cd doc:Yu) (a:Yt) (vs:Yf) (ns:Ye),
   Ground q loose [] XP w s₀ mg mb s₁.heap->YP w s₁.heap ->
   s₁.heap.get? fa=some o->o.data=.func (docDef d.name d.params d.body d.scope pm cd doc)->s₁.heap.CodeRec cd d.name->mg d.name=some (.ref fa) ->
   s₁.heap.get? a=some { cls:=.type "list", data:=.seq vs.toArray }->IntsAre vs ns->ns.length<=n->s₁.gens = #[] ->
   codeAny (model l.prog w) callerA (.call (.ref fa) ⟨[.ref a],[]⟩) (λr s'=>r=.ok (.ret (.bool true))/\OldK s₁.heap s'.heap/\s'.os=s₁.os/\AllBare s'.gens) s₁) :
  WalkO q loose XP YP l.row.toRowW d [] (λf vs=>PySem.call f vs):=by
 intro w s₀ s₁ mg mb G YY fa o pm cd doc dV kV ho hd hcd hD hmg hg args vals as hpre hlay hrd hwl hlo;obtain rfl:dV=.none:=Dflts.none hD hdf;obtain rfl:kV=.none:=Dflts.noKw hD;let⟨a,vs,ns,rfl,rfl,hobj,hints,hlen⟩:=j6 hn hpre hwl;refine enter_call (codeAny_mono (call w s₀ s₁ mg mb fa o pm cd doc a vs ns G YY ho (fd_plain hd) hcd hmg hobj hints hlen hg) λr s' hq=>?_);let⟨rfl,h2,h3,h4⟩:=hq;calc ⟨.inl ⟨.bool true,.bool true,[],rfl,λ_=>rfl,.bool true,aY l _,λ_=>⟨List.Pairwise.nil,λ_ hm=>(nomatch hm)⟩⟩,h2,h3,h4⟩
end Att
namespace L2
theorem Nx:∀ {vs:Yf} {ns:Ye},IntsAre vs ns->za (ns.map V.int) vs
 |_,_,.nil=> .nil
 |_,_,.cons n t h=> .cons ⟨t,rfl⟩ (Nx h)
def Fv (s:Stmt):Arguments:=match s with
 |.FunctionDef _ a _ _ _ _ _ _ _ _=>a
 |_=>{ posonlyargs:=[],args:=[],vararg:=none,kwonlyargs:=[],kw_defaults:=[],kwarg:=none,defaults:=[] }
def EB (s:Stmt):List Stmt:=match s with
 |.FunctionDef _ _ b _ _ _ _ _ _ _=>b
 |_=>[]
def zJ (s:Stmt):Scope:=match s with
 |.FunctionDef _ _ _ _ _ _ sc _ _ _=>sc
 |_=>{ kind:=.function,names:=[],isGenerator:=false,isCoroutine:=false }
abbrev CX0:CXT:=λ_ _ _ _ _ _=>False
abbrev E0:XK:=λ_ _ _=>False
def SF {X:Cx}:MJ CX0 X E0:=λ_ _ _ _ _ _ _ h=>h.elim
structure Fun (K:Yb) (x qual:Str) (st:Stmt) (f:Yt) (fd:Yz):Prop where
 ex:∃ (oc:Yu) (od:Option Addr) (kV doc pm:Yu) (an:Option Addr) (cdv ct:Yu) (osl:Array (Option Value)),
  fd=PySem.W.fnOf x qual (Fv st) (EB st) (zJ st) .none kV doc pm an cdv ct/\K.lookup f=some ⟨oc,od,.func fd,osl⟩/\PySem.W.codeIn K cdv qual=true
 kp:PySem.W.keepIn K (.ref f)=true
section
variable {P:Ym} {w:Yo} {K:Yb} {mg:Yh} {base:Heap}
def Fun.ok {x qual:Str} {st:Stmt} {f:Yt} {fd:Yz} {N ps:Yk} {k:Nat} {sp:Sp} (F:Fun K x qual st f fd) (S:FnScope N ps (zJ st)) (len:∀ vs H Q E,sp vs H Q E->vs.length=ps.length)
  (hbody:∀ (cdv:Yu) (A:Yn) (outer:List Env) (s:Yl) (H:Hp) (vs:List V) (Q:VK) (E:XK),Room k (A.deeper (envOfC qual (zJ st) ⇑s f cdv))->sp vs H Q E ->
   ∃ t,PSs (FL CX0 P w K mg base N qual (zJ st) f cdv A outer s H E).nox (EB st) t/\t { nx:=λ_ H'=>Q .non H',rt:=Q } (D1 N vs) H):FnOk P w K mg base CX0 (k+1) f fd ps sp:=by
 let⟨oc,od,kV,doc,pm,an,cdv,ct,osl,rfl,lk,hcd⟩:=F.ex;refine Qc lk hcd S len λA outer s H vs Q E hr hsp=>?_;let⟨t,h,q⟩:=hbody cdv A outer s H vs Q E hr hsp;calc ⟨t,h.nox,q⟩
def Fun.binds {x qual:Str} {st:Stmt} {f:Yt} {fd:Yz} {ps:Yk} (F:Fun K x qual st f fd)
  (h:∀ (kV doc pm:Yu) (an:Option Addr) (cdv ct:Yu) (us:Yf),us.length=ps.length->bindArgs (PySem.W.fnOf x qual (Fv st) (EB st) (zJ st) .none kV doc pm an cdv ct) ⟨us,[]⟩=pure (ps.zip us)):D2 K fd ps []:=by
 let⟨oc,od,kV,doc,pm,an,cdv,ct,osl,rfl,lk,hcd⟩:=F.ex;calc .all (h kV doc pm an cdv ct)
def OY {x qual:Str} {st:Stmt} {f:Yt} {oc:Yu} {od an:Option Addr} {osl:Array (Option Value)} {kV doc pm cdv ct:Yu} (l:K.lookup f=some ⟨oc,od,.func (PySem.W.fnOf x qual (Fv st) (EB st) (zJ st) .none kV doc pm an cdv ct),osl⟩)
  (c:PySem.W.codeIn K cdv qual=true) (k:PySem.W.keepIn K (.ref f)=true):Fun K x qual st f (PySem.W.fnOf x qual (Fv st) (EB st) (zJ st) .none kV doc pm an cdv ct):=⟨⟨oc,od,kV,doc,pm,an,cdv,ct,osl,rfl,l,c⟩,k⟩
end
def HR {A:Yn} {k:Nat} (hr:Room k A):A.units+1<cLine:=Nat.lt_of_le_of_lt (Nat.add_le_add_left (by decide:1<=64) _) hr.units
section
variable {X:Cx}
def pv (i:Nat) {x:Str} {pos:Pos} (hN:X.N[i]?=some x:=by rfl) (hv:Vis X.env.scope x:=by first|exact Or.inl rfl|exact Or.inr (Or.inl rfl)|exact Or.inr (Or.inr rfl)) (hd:(x==("__debug__" : Str))=false:=by decide)
  (hcd:(x==("__classdict__" : Str))=false:=by decide):PE X (.Name x pos) (Li i):=OJ hN hv hd hcd
end
def Dc {A B:Prop} (h:B):if false=true then A else B:=by
 rw[AE Ab];calc h
def Dv {A B:Prop} (h:A):if true=true then A else B:=by
 rw[AD rfl];calc h
section
variable {κ:Type} [DecidableEq κ]
def By (kvs:List (κ × V)) (k:κ):Option V:=(kvs.find? λkv=>decide (kv.1=k)).map (·.2)
def BL (kvs:List (κ × V)) (k:κ) (v:V):List (κ × V) :=
 if (kvs.any λkv=>decide (kv.1=k))=true then kvs.map (λkv=>if kv.1=k then (kv.1,v) else kv) else kvs++[(k,v)]
def Jy {p:κ × V} {r:List (κ × V)} {k:κ} (e:p.1=k):By (p::r) k=some p.2:=by simp[By,EZ,e]
def JG {p:κ × V} {r:List (κ × V)} {k:κ} (e:¬ p.1=k):By (p::r) k=By r k:=by simp[By,EZ,e]
theorem SS (k:κ):∀ kvs:List (κ × V),(kvs.any λkv=>decide (kv.1=k))=(By kvs k).isSome
 |[]=>rfl
 |p::r=>by
  rw[List.any_cons];by_cases e:p.1=k
  .simp only[Jy e,Ap e,Bool.true_or,Option.isSome_some]
  .rw[JG e,Aa e,Bool.false_or];calc SS k r
def Hk (kvs:List (κ × V)) (k:κ) (v:V):(BL kvs k v).length<=kvs.length+1:=by
 erw[BL];split
 .rw[AI];omega
 .rw[AW,B4,DV];omega
def Ds.isSome_eq (r:Ds o u):o.isSome=u.isSome:=by
 cases o with
 |none=>cases u with
  |none=>rfl
  |some _=>calc (show False from r).elim
 |some _=>cases u with
  |none=>calc (show False from r).elim
  |some _=>rfl
def KV.val {kvs:List (κ × V)} {vs:List (κ × Value)} (r:KV kvs vs) (k:κ):Ds (By kvs k) (valueAt vs k):=by
 erw[KV]at r;induction r with
 |nil=>calc True.intro
 | @cons p q ps qs h t ih=>
  let⟨h1,h2⟩:=h;by_cases e:p.1=k
  .have e':q.1=k:=h1.symm.trans e;let b:valueAt (q::qs) k=some q.2:=by simp[valueAt,EZ,e']
   rw[Jy e,b];exact h2
  .have e':¬ q.1=k:=λz=>e (h1.trans z);let b:valueAt (q::qs) k=valueAt qs k:=by simp[valueAt,EZ,e']
   rw[JG e,b];calc ih
def KV.any (r:KV kvs vs) (k:κ):(kvs.any λkv=>decide (kv.1=k))=vs.any λkv=>decide (kv.1=k):=by
 erw[KV]at r;induction r with
 |nil=>rfl
 |cons h t ih=>rw[List.any_cons,List.any_cons,ih,h.1]
def KV.repl (r:KV kvs vs) (k:κ) (ry:zk y u) :
  KV (kvs.map λkv=>if kv.1=k then (kv.1,y) else kv) (vs.map λkv=>if kv.1=k then (kv.1,u) else kv):=by
 unfold KV at r ⊢;induction r with
 |nil=>calc .nil
 | @cons p q ps qs h t ih=>
  rw[Af,Af];calc .cons ?_ ih;let⟨h1,h2⟩:=h;by_cases e:p.1=k
  .rw[AD e,AD (h1.symm.trans e)];exact ⟨h1,ry⟩
  .rw[AE e,AE (λz=>e (h1.trans z))];calc ⟨h1,h2⟩
def KV.put (r:KV kvs vs) (k:κ) (ry:zk y u):KV (BL kvs k y) (stored vs k u):=by
 erw[BL,stored];rw[r.any k];by_cases e:(vs.any λkv=>decide (kv.1=k))=true
 .rw[AD e,AD e];exact r.repl k ry
 .rw[AE e,AE e];calc Paired.snoc r ⟨rfl,ry⟩
def KV.length (r:KV kvs vs):kvs.length=vs.length:=Paired.length r
end
def Fx (r:zk (kV k) u):(Bl P w).is k u=true:=by
 cases k with
 |inl i=>let⟨t,e⟩:=(show ∃ t,u=Value.int i t from r);subst e;calc Ww P w i t
 |inr x=>let⟨t,e⟩:=(show ∃ t,u=Value.str x t from r);subst e;calc TV P w x t
theorem Q7:∀ {ks:List Key} {us:Yf},za (ks.map kV) us->ItemsAre (Bl P w) ks us
 |[],_,r=>by rw[List.map_nil]at r;ext r;calc .nil
 |k::ks,_,r=>by
  rw[Af]at r;cases r with
  |cons h t=>calc .cons (Fx h) (Q7 t)
abbrev KT (H:Hp):List (List Key × V)->List (List Key × Addr × Value)->Prop:=Paired λp q=>p.1=q.1/\H q.2.1=some (.tup (p.1.map kV))/\zk p.2 q.2.2
def KT.val {H:Hp} {kvs:List (List Key × V)} {xs:List (List Key × Addr × Value)} (r:KT H kvs xs) (k:List Key):Ds (By kvs k) ((atKey xs k).map (·.2)):=by
 induction r with
 |nil=>calc True.intro
 | @cons p q ps qs h t ih=>
  let⟨h1,_,h2⟩:=h;by_cases e:p.1=k
  .have e':q.1=k:=h1.symm.trans e;let b:atKey (q::qs) k=some q.2:=by simp[atKey,EZ,e']
   rw[Jy e,b];exact h2
  .have e':¬ q.1=k:=λz=>e (h1.trans z);let b:atKey (q::qs) k=atKey qs k:=by simp[atKey,EZ,e']
   rw[JG e,b];calc ih
def KT.repl (r:KT H kvs xs) (k:List Key) (ry:zk y u) :
  KT H (kvs.map λkv=>if kv.1=k then (kv.1,y) else kv) (xs.map (putAt k u)):=by
 induction r with
 |nil=>calc .nil
 | @cons p q ps qs h t ih=>
  rw[Af,Af];calc .cons ?_ ih;let⟨h1,h2,h3⟩:=h;erw[putAt];by_cases e:p.1=k
  .rw[AD e,AD (h1.symm.trans e)];exact ⟨h1,h2,ry⟩
  .rw[AE e,AE (λz=>e (h1.trans z))];calc ⟨h1,h2,h3⟩
def KT.put (r:KT H kvs xs) (k:List Key) (hb:H b=some (.tup (k.map kV))) (ry:zk y u) :
  KT H (BL kvs k y) (storedH xs k b u):=by
 let e:(kvs.any λkv=>decide (kv.1=k))=(atKey xs k).isSome:=by
  rw[SS,(r.val k).isSome_eq,Option.isSome_map]
 erw[BL,storedH];rw[e];by_cases q:(atKey xs k).isSome=true
 .rw[AD q,AD q];exact r.repl k ry
 .rw[AE q,AE q];calc Paired.snoc r ⟨rfl,hb,ry⟩
def KT.keeps (r:KT H kvs xs) (ht:∀ b ys,H b=some (.tup ys)->H' b=some (.tup ys)):KT H' kvs xs :=
 Paired.mapP r λ_ _ z=>⟨z.1,ht _ _ z.2.1,z.2.2⟩
section
variable {P:Ym} {w:Yo} {H:Hp} {h:Heap} {a:Yt}
def OA (ok:HOk P w H h) (e:Rd H a u):Ag P w H h a u:=e.ok ok
def HB (ok:HOk P w H h) (e:Rd H a (.dK kvs)):kvs.length<=sizeLine/\(a==sysModules)=false /\ ∃ vs,KV kvs vs/\h.DictOf (Bl P w) a vs :=
 show Ag P w H h a (.dK kvs)from OA ok e
def Kz (ok:HOk P w H h) (e:H a=some (.dK kvs)):kvs.length<=sizeLine/\(a==sysModules)=false /\ ∃ vs,KV kvs vs/\h.DictOf (Bl P w) a vs:=HB ok (.inl e)
def Gb (ok:HOk P w H h) (e:H a=some (.tup (ks.map kV))):(tupleKind (Bl P w)).is h ks a:=by
 let⟨_,its,r,o,h1,h2,⟨n,h3⟩,_⟩:=(show Ag P w H h a (.tup (ks.map kV))from ok a _ e);calc ⟨o,its.toArray,n,h1,h2,h3,by simpa using Q7 r⟩
def G9 (ok:HOk P w H h) (e:Rd H a (.dT kvs)):kvs.length<=sizeLine/\(a==sysModules)=false /\
  ∃ xs,KT H kvs xs/\h.DictOfH (tupleKind (Bl P w)) a xs:=by
 let⟨z,y,xs,r,o,es,ep,h1,h2,h3,h4,h5⟩:=(show Ag P w H h a (.dT kvs)from OA ok e);refine ⟨z,y,xs,r,o,es,ep,h1,h2,h3,h4,λx hx=>?_,h5⟩;let all:∀ {l:List (List Key × V)} {m:List (List Key × Addr × Value)},KT H l m -> ∀ x∈m,(tupleKind (Bl P w)).is h x.1 x.2.1:=by
  intro l m q;induction q with
  |nil=>intro x hx;calc nomatch hx
  | @cons p q ps qs hq t ih=>
   intro x hx;rcases AJ.mp hx with e|hx
   .subst e;exact Gb ok (by rw[<-hq.1];calc hq.2.1)
   .exact ih x hx
 calc all r x hx
def SO (ok:HOk P w H h) (e:H a=some (.dT kvs)):kvs.length<=sizeLine/\(a==sysModules)=false /\
  ∃ xs,KT H kvs xs/\h.DictOfH (tupleKind (Bl P w)) a xs:=G9 ok (.inl e)
end
def B9 (H:Hp) (a:Yt) (y:V) (r:Option V):Prop :=
 (∃ kvs k,Rd H a (.dK kvs)/\y=kV k/\r=By kvs k) \/ ∃ kvs k b,Rd H a (.dT kvs)/\y=.ref b/\H b=some (.tup (k.map kV))/\r=By kvs k
def DL (H:Hp) (a:Yt) (y v:V) (H':Hp):Prop :=
 (∃ kvs k,H a=some (.dK kvs)/\y=kV k/\kvs.length<sizeLine/\H'=upd H a (.dK (BL kvs k v))) \/
 ∃ kvs k b,H a=some (.dT kvs)/\y=.ref b/\H b=some (.tup (k.map kV))/\kvs.length<sizeLine/\H'=upd H a (.dT (BL kvs k v))
theorem B9.k {H:Hp} {a:Yt} {kvs:List (Key × V)} {k:Key} (e:H a=some (.dK kvs)):B9 H a (kV k) (By kvs k):=.inl ⟨kvs,k,.inl e,rfl,rfl⟩
def B9.t {k:List Key} (e:H a=some (.dT kvs)) (eb:H b=some (.tup (k.map kV))):B9 H a (.ref b) (By kvs k):=.inr ⟨kvs,k,b,.inl e,rfl,eb,rfl⟩
theorem DL.k {H:Hp} {a:Yt} {kvs:List (Key × V)} {k:Key} {v:V} (e:H a=some (.dK kvs)) (hl:kvs.length<sizeLine):DL H a (kV k) v (upd H a (.dK (BL kvs k v))):=.inl ⟨kvs,k,e,rfl,hl,rfl⟩
def DL.t {kvs:List (List Key × V)} {k:List Key} (e:H a=some (.dT kvs)) (eb:H b=some (.tup (k.map kV))) (hl:kvs.length<sizeLine) :
  DL H a (.ref b) v (upd H a (.dT (BL kvs k v))):=.inr ⟨kvs,k,b,e,rfl,eb,hl,rfl⟩
section
variable {X:Cx} {zB:Yd} {Y:St} {H:Hp} {s:Yl} {a:Yt} {y v:V} {u r:Yu} {o:Option V} {A:Yn} {E:Yc}
def Inv.big (I:Inv X zB Y H s):sysModules<⇑s:=by
 let h:mainGlobals<⇑s:=(I.mod.glob.keeps I.bk).lt;calc Nat.lt_trans () h
def UC (hu:A.units+1<cLine) (I:Inv X zB Y H s) (g:B9 H a y (some v)) (ry:zk y u) (h:∀ w' s',Inv X zB Y H s'->zk v w'->Q w' s') :
  wpAny (model X.prog X.w) A (getItem (.ref a) u) Q E s:=by
 rcases g with ⟨kvs,k,e,ey,l⟩|⟨kvs,k,b,e,ey,eb,l⟩
 .subst ey;let⟨z,hd,vs,rel,dd⟩:=HB I.hok e;let⟨w',hw,rw'⟩:=Ds.some_of (by rw[l];calc rel.val k);exact wpAny_getItem_of (Fx ry) dd.mapOf hw (h w' _ (I.tok _) rw')
 .subst ey;cases (show u=Value.ref b from ry);let⟨z,hd,xs,rel,dd⟩:=G9 I.hok e;let⟨w',hw,rw'⟩:=Ds.some_of (by rw[l];calc rel.val k);let⟨p,hp,hp2⟩:=Option.map_eq_some_iff.mp hw;calc wpAny_getItem_heap (tupleKind_room_in1 hu) (Gb I.hok eb) dd hp ?_;rw[hp2];calc h w' _ (I.tok _) rw'
def m8 (hu:A.units+1<cLine) (I:Inv X zB Y H s) (g:B9 H a y o) (ry:zk y u) (h:∀ s',Inv X zB Y H s'->Q (.bool o.isSome) s') :
  wpAny (model X.prog X.w) A (compareOp .In u (.ref a)) Q E s:=by
 rcases g with ⟨kvs,k,e,ey,l⟩|⟨kvs,k,b,e,ey,eb,l⟩
 .subst ey;let⟨z,hd,vs,rel,dd⟩:=HB I.hok e;calc wpAny_in_of (Fx ry) hd dd.mapOf ?_;rw[<-(rel.val k).isSome_eq,<-l];exact h _ (I.tok _)
 .subst ey;cases (show u=Value.ref b from ry);let⟨z,hd,xs,rel,dd⟩:=G9 I.hok e;calc wpAny_in_heap (tupleKind_room_in1 hu) (Gb I.hok eb) hd dd ?_;let q:=(rel.val k).isSome_eq;rw[Option.isSome_map]at q;rw[<-q,<-l];calc h _ (I.tok _)
def Ss (hu:A.units+1<cLine) (I:Inv X zB Y H s) (g:B9 H a y o) (ry:zk y u) (h:∀ s',Inv X zB Y H s'->Q (.bool (!o.isSome)) s') :
  wpAny (model X.prog X.w) A (compareOp .NotIn u (.ref a)) Q E s:=by
 rcases g with ⟨kvs,k,e,ey,l⟩|⟨kvs,k,b,e,ey,eb,l⟩
 .subst ey;let⟨z,hd,vs,rel,dd⟩:=HB I.hok e;calc wpAny_notIn_of (Fx ry) hd dd.mapOf ?_;rw[<-(rel.val k).isSome_eq,<-l];exact h _ (I.tok _)
 .subst ey;cases (show u=Value.ref b from ry);let⟨z,hd,xs,rel,dd⟩:=G9 I.hok e;calc wpAny_notIn_heap (tupleKind_room_in1 hu) (Gb I.hok eb) hd dd ?_;let q:=(rel.val k).isSome_eq;rw[Option.isSome_map]at q;rw[<-q,<-l];calc h _ (I.tok _)
def HH (I:Inv X zB Y H s) (mu:Mut (H a)) (hs:Heap.SameBut a s.heap h') (he:∃ q,h'.get? a=some q) (new:Ag X.prog X.w (upd H a ob) h' a ob) :
  Inv X zB Y (upd H a ob) { s with heap:=h',toks:=t' } :=
 I.write mu (.inl rfl) (λb q hb z=>(hs.2 b hb).trans z) he new
def MD (z:kvs.length<=sizeLine) (hd:(a==sysModules)=false) (rel:KV kvs vs) (dd:h'.DictOf (Bl P w) a vs) :
  Ag P w H' h' a (.dK kvs):=⟨z,hd,vs,rel,dd⟩
def lS (hu:A.units+1<cLine) (I:Inv X zB Y H s) (g:DL H a y v H') (ry:zk y u) (rv:zk v r) (h:∀ s',Inv X zB Y H' s'->Q Unit.unit s') :
  wpAny (model X.prog X.w) A (setItem (.ref a) u r) Q E s:=by
 rcases g with ⟨kvs,k,e,ey,l,eH⟩|⟨kvs,k,b,e,ey,eb,l,eH⟩
 .subst ey eH;let⟨z,hd,vs,rel,dd⟩:=Kz I.hok e;let hz:vs.length<=sizeLine:=by rw[<-rel.length];exact z
  let hl:(BL kvs k v).length<=sizeLine:=by have:=Hk kvs k v;omega
  refine wpAny_setItem_pairs (Fx ry) dd λh' dd' hs=>h _ ?_;let he:∃ q,h'.get? a=some q:=let ⟨q,_,_,hq,_⟩:=dd';⟨q,hq⟩;exact HH I (by rw[e];calc True.intro) hs he (MD hl hd (rel.put k rv) dd')
 .subst ey eH;cases (show u=Value.ref b from ry);let⟨z,hd,xs,rel,dd⟩:=SO I.hok e;let hz:xs.length<=sizeLine:=by rw[<-Paired.length rel];exact z
  let hl:(BL kvs k v).length<=sizeLine:=by have:=Hk kvs k v;omega
  refine wpAny_setItem_heap (tupleKind_room_in1 hu) (Gb I.hok eb) dd λh' dd' hs=>h _ ?_;let⟨q,es,ep,hq,h2,h3,h4,_,h5⟩:=dd';refine HH I (by rw[e];calc True.intro) hs ⟨q,hq⟩ ⟨hl,hd,_,(rel.put k eb rv).keeps λc ys ec=>?_,q,es,ep,hq,h2,h3,h4,h5⟩;rw[zU (DT ec e (λz=>nomatch z))];calc ec
end
def Lo (i:Expr):Prop:=∀ ov iv,subscripted i false ov iv=operate [ov,iv] (getItem ov iv)
def Y4 {prog:Ym} {w:Yo} {A:Yn} {E:Yc} {s:Yl} {env:Env} {value slice:Expr} {pos:Pos} {T id:String} {Q:Yc}
  (hl:typeLookup (.type T) "__getitem__" = pure (some (.builtin id))) (hs:Lo slice)
  (h:wpAny (model prog w) A (eval value env) (λo s₁=>wpAny (model prog w) A (eval slice env) (λi s₂=>s₂.TypeIs o T/\wpAny (model prog w) A (getItem o i) Q E s₂) E s₁) E s) :
  wpAny (model prog w) A (eval (.Subscript value slice pos) env) Q E s:=by
 refine Subscript_ (AX h (λo s₁ h₁=>AX h₁ (λi s₂ h₂=>?_) λ_ _ x=>x) λ_ _ x=>x);let⟨hT,h₂⟩:=h₂;erw[subscriptTail];refine AA ?_;rw[getitemInPython_of_ne hT.not_modules];refine AA (wpAny_specialOf hT hl ?_);let fin:wpAny (model prog w) A (subscripted slice false o i) (λr s₃=>wpAny (model prog w) A (letTemporaryGo value o r >>= λ_=>pure r) Q E s₃) E s₂:=by
  rw[hs o i];exact wpAny_operating (AX h₂ (λr s₃ h₃=>AA (wpAny_letTemporaryGo (AB h₃))) λ_ _ x=>x)
 first
  |calc AB (AA fin)
  |calc AA (AB (AA fin))
  |calc AA fin
def Tc (I:Inv X zB Y H s) (g:B9 H a y o):s.TypeIs (.ref a) "dict" := by
 rcases g with ⟨kvs,k,e,_,_⟩|⟨kvs,k,b,e,_,_,_⟩
 .obtain ⟨_,_,vs,_,dd⟩:=HB I.hok e;exact dd.typeIs
 .obtain ⟨_,_,xs,_,dd⟩:=G9 I.hok e;calc dd.typeIs
def Zg (td ty:TE):TE:=λY H Q=>td Y H λx H1=>ty Y H1 λy H2=>∃ a v,x=.ref a/\B9 H2 a y (some v)/\Q v H2
def j7 (ty td:TE):TE:=λY H Q=>ty Y H λy H1=>td Y H1 λx H2=>∃ a o,x=.ref a/\B9 H2 a y o/\Q (.bl o.isSome) H2
def WR (ty td:TE):TE:=λY H Q=>ty Y H λy H1=>td Y H1 λx H2=>∃ a o,x=.ref a/\B9 H2 a y o/\Q (.bl (!o.isSome)) H2
def lA (td ty tv:TE):TS:=λD Y H=>tv Y H λv H1=>td Y H1 λx H2=>ty Y H2 λy H3=>∃ a H4,x=.ref a/\DL H3 a y v H4/\D.nx Y H4
section
variable {X:Cx} {o i e value:Expr} {pos pos' tpos:Pos} {td ty tv:TE}
def U8 (hu:X.A.units+1<cLine) (ho:PE X o td) (hi:PE X i ty) (hs:Lo i):PE X (.Subscript o i pos) (Zg td ty):=by
 intro zB s Y H Q I h;refine Y4 PySem.F.slot_dict_getitem.lookup hs (thn (ho zB s Y H _ I h) λu s1 ⟨x,H1,I1,rx,q1⟩=>thn (hi zB s1 Y H1 _ I1 q1) λiv s2 ⟨y,H2,I2,ry,a,v,ex,g,q2⟩=>?_);subst ex;obtain rfl:u=Value.ref a:=rx;calc ⟨Tc I2 g,UC hu I2 g ry λw' s3 I3 rw'=>⟨v,H2,I3,rw',q2⟩⟩
def ZK (hu:X.A.units+1<cLine) (hi:PE X i ty) (ho:PE X o td):PC X .In i o (j7 ty td):=by
 intro zB s Y H Q I h;refine thn (hi zB s Y H _ I h) λiv s1 ⟨y,H1,I1,ry,q1⟩=>thn (ho zB s1 Y H1 _ I1 q1) λu s2 ⟨x,H2,I2,rx,a,ov,ex,g,q2⟩=>?_;subst ex;obtain rfl:u=Value.ref a:=rx;calc m8 hu I2 g ry λs3 I3=>⟨.bl ov.isSome,H2,I3,rfl,q2⟩
def WJ (hu:X.A.units+1<cLine) (hi:PE X i ty) (ho:PE X o td):PC X .NotIn i o (WR ty td):=by
 intro zB s Y H Q I h;refine thn (hi zB s Y H _ I h) λiv s1 ⟨y,H1,I1,ry,q1⟩=>thn (ho zB s1 Y H1 _ I1 q1) λu s2 ⟨x,H2,I2,rx,a,ov,ex,g,q2⟩=>?_;subst ex;obtain rfl:u=Value.ref a:=rx;calc Ss hu I2 g ry λs3 I3=>⟨.bl (!ov.isSome),H2,I3,rfl,q2⟩
def jF (hu:X.A.units+1<cLine) (ho:PE X o td) (hi:PE X i ty) (hv:PE X value tv) (hs:swapsWith value (some (.Subscript o i pos')) pos.line X.env=pure false) :
  PS X (.Assign [.Subscript o i pos'] value pos) (lA td ty tv):=by
 intro zB s Y H D I h;refine wpAny_Assign_Subscript (thn (hv zB s Y H _ I h) λr s1 ⟨v,H1,I1,rv,q1⟩=>thn (ho zB s1 Y H1 _ I1 q1) λu s2 ⟨x,H2,I2,rx,q2⟩=>thn (hi zB s2 Y H2 _ I2 q2) λiv s3 ⟨y,H3,I3,ry,a,H4,ex,g,q3⟩=>?_) hs;subst ex;obtain rfl:u=Value.ref a:=rx;calc lS hu I3 g ry rv λs4 I4=>⟨Y,H4,I4,q3⟩
end
def eQ (h:Heap) (hb:sysModules<h.objs.size):Ag P w H (h.push { cls:=.type "dict", data:=.dict #[] }) h.objs.size (.dK []) :=
 ⟨Bv _,beq_eq_false_iff_ne.mpr (Ne.symm (Ad hb)),[],.nil,Heap.DictOf.new h⟩
def PN (h:Heap) (hb:sysModules<h.objs.size):Ag P w H (h.push { cls:=.type "dict", data:=.dict #[] }) h.objs.size (.dT []) :=
 ⟨Bv _,beq_eq_false_iff_ne.mpr (Ne.symm (Ad hb)),[],.nil,_,#[],0,AM _ rfl,⟨rfl,rfl,rfl⟩,rfl,rfl,List.nodup_nil⟩
def TL:TE:=λ_ H Q=>∀ p,H p=none->Q (.ref p) (upd H p (.dT []))
section
variable {X:Cx} {pos:Pos}
def iI:PE X (.Dict [] [] pos) TL:=λzB s Y H Q I h=>
 wpAny_Dict_empty ⟨.ref ⇑s,_,I.laid (λ_ _ q=>AG _ q) (AF _) (PN s.heap I.big),rfl,h _ (I.hok.fresh (AF _))⟩
end
def Lu:List (TE × TE)->St->Hp->(List (V × V)->Hp->Prop)->Prop
 |[],_,H,Q=>Q [] H
 | (tk,tv)::r,Y,H,Q=>tk Y H λx H1=>tv Y H1 λy H2=>Lu r Y H2 λps H3=>Q ((x,y)::ps) H3
abbrev VV:List (V × V)->List (Value × Value)->Prop:=Paired λp q=>zk p.1 q.1/\zk p.2 q.2
def PPs (X:Cx) (pos:Pos) (keys:List (Option Expr)) (values:Yi) (trs:List (TE × TE)):Prop :=
 ∀ (zB:Yd) (s:Yl) (Y:St) (H:Hp) (Q:List (V × V)->Hp->Prop),Inv X zB Y H s->Lu trs Y H Q ->
  wpAny (model X.prog X.w) X.A (evalPairs (pairTrees keys values X.env pos)) (λvs s'=>∃ ps H',Inv X zB Y H' s'/\VV ps vs/\Q ps H') X.xe s
def Nr:PPs X pos [] [] []:=λzB s Y H Q I h=>pairTrees_nil_walk ⟨[],H,I,.nil,h⟩
def JP (hk:PE X k tk) (hv:PE X v tv) (hr:PPs X pos ks vs trs) :
  PPs X pos (some k::ks) (v::vs) ((tk,tv)::trs):=λzB s Y H Q I h=>
 pairTrees_cons_walk (thn (hk zB s Y H _ I h) λu s1 ⟨x,H1,I1,rx,q1⟩=>thn (hv zB s1 Y H1 _ I1 q1) λw2 s2 ⟨y,H2,I2,ry,q2⟩=>
  thn (hr zB s2 Y H2 _ I2 q2) λws s3 ⟨ps,H3,I3,rel,q3⟩=>⟨(x,y)::ps,H3,I3,.cons ⟨rx,ry⟩ rel,q3⟩)
def GN (kvs more:List (Key × V)):List (Key × V):=more.foldl (λacc kv=>BL acc kv.1 kv.2) kvs
def KV.merge:∀ {more:List (Key × V)} {rs:List (Key × Value)} {kvs:List (Key × V)} {vs:List (Key × Value)},KV more rs->KV kvs vs->KV (GN kvs more) (merged vs rs):=by
 intro more rs kvs vs r;erw[KV]at r;induction r generalizing kvs vs with
 |nil=>intro q;calc q
 | @cons p q ps qs h t ih=>
  intro r0;let e:KV (BL kvs p.1 p.2) (stored vs q.1 q.2):=by
   have:=r0.put p.1 h.2;rw[<-h.1];exact this
  calc ih e
theorem Oi:∀ (more kvs:List (Key × V)),(GN kvs more).length<=kvs.length+more.length
 |[],kvs=>by show kvs.length<=kvs.length+0;omega
 |p::r,kvs=>by
  let h1:=Oi r (BL kvs p.1 p.2);let h2:=Hk kvs p.1 p.2;show (GN (BL kvs p.1 p.2) r).length<=_;rw[B4];omega
theorem Qp:∀ {kvs:List (Key × V)} {ws:List (Value × Value)},VV (kvs.map λkv=>(kV kv.1,kv.2)) ws -> ∃ rs,Carries (Bl P w) ws rs/\KV kvs rs
 |[],_,r=>by rw[List.map_nil]at r;ext r;calc ⟨[],True.intro,.nil⟩
 |p::kvs,_,r=>by
  rw[Af]at r;cases r with
  | @cons a b as bs h t=>
   let⟨rs,c,q⟩:=Qp t;let⟨b1,b2⟩:=b;calc ⟨(p.1,b2)::rs,⟨Fx h.1,rfl,c⟩,.cons ⟨rfl,h.2⟩ q⟩
def VJ (trs:List (TE × TE)):TE:=λY H Q=>∀ p,H p=none->Lu trs Y (upd H p (.dK [])) λps H2=>H2 p=some (.dK []) /\ ∃ kvs:List (Key × V),ps=kvs.map (λkv=>(kV kv.1,kv.2))/\kvs.length<=15/\Q (.ref p) (upd H2 p (.dK (GN [] kvs)))
def fK (h:PPs X pos keys values trs) (hall:keys.all (·.isSome)=true) (hl:keys.length=values.length) (h0:keys≠[])
  (h15:keys.length<=15):PE X (.Dict keys values pos) (VJ trs):=by
 intro zB s Y H Q I q;let hn:=I.hok.fresh (AF ⇑s);let I1:=I.laid (t':=s.toks) (λ_ _ q=>AG _ q) (AF _) (eQ s.heap I.big);refine wpAny_Dict_walk (knd:=Bl X.prog X.w) hall hl h0 h15 (thn (h zB _ Y _ _ I1 (q _ hn)) λws s2 ⟨ps,H2,I2,rel,e,kvs,ep,lk,q2⟩=>?_);subst ep;let⟨rs,c,rk⟩:=Qp rel;let⟨z,hd,vs0,r0,dd⟩:=Kz I2.hok e;ext r0;refine ⟨rs,c,dd,λh' dd' hs=>⟨.ref ⇑s,_,?_,rfl,q2⟩⟩;let hz:(GN [] kvs).length<=sizeLine:=by
  let h1:=Oi kvs [];rw[DV]at h1;rw[sizeLine_eq];omega
 let he:∃ q,h'.get? ⇑s=some q:=let ⟨q,_,_,hq,_⟩:=dd';⟨q,hq⟩;calc HH I2 (by rw[e];calc True.intro) hs he (MD hz hd (rk.merge .nil) dd')
def IsD (H:Hp) (a:Yt):Prop:=(∃ kvs,Rd H a (.dK kvs)) \/ ∃ kvs,Rd H a (.dT kvs)
def KU (I:Inv X zB Y H s) (d:IsD H a) :
  s.TypeIs (.ref a) "dict" /\ (∀ b,Value.ref a=.ref b -> ∃ ob,s.heap.get? b=some ob/\ob.dict=none)/\(a==sysModules)=false:=by
 rcases d with ⟨kvs,e⟩|⟨kvs,e⟩
 .obtain ⟨_,hd,vs,_,dd⟩:=HB I.hok e;refine ⟨dd.typeIs,λb q=>?_,hd⟩;ext q;let⟨ob,_,_,h1,h2,_⟩:=dd;exact ⟨ob,h1,h2.2.1⟩
 .obtain ⟨_,hd,xs,_,dd⟩:=G9 I.hok e;refine ⟨dd.typeIs,λb q=>?_,hd⟩;ext q;let⟨ob,_,_,h1,h2,_⟩:=dd;calc ⟨ob,h1,h2.2.1⟩
theorem Fw:∀ (names:List (Str × NameKind)) (n:Nat) (acc:Yv),cellsFrom n names acc=cellsFrom n names []++acc
 |[],_,_=>rfl
 | (name,kind)::r,n,acc=>by
  erw[cellsFrom];split
  .rw[Fw r (n+1) ((name,n)::acc),Fw r (n+1) [(name,n)],B7];rfl
  .exact Fw r n acc
theorem IX {α:Type} (x:Str):∀ (l r:List (Str × α)),(l++r).lookup x=(match l.lookup x with|some c=>some c|none=>r.lookup x)
 |[],r=>rfl
 | (k,v)::l,r=>by
  rw[List.cons_append,D5,D5];cases hb:x==k with
  |true=>rfl
  |false=>calc IX x l r
theorem NS:∀ (names:List (Str × NameKind)) (acc:Yv),
  (∀ y∈names,y.2=.free -> ∃ c,env.cells.lookup y.1=some c) ->
  (∀ x c,acc.lookup x=some c->env.cells.lookup x=some c) ->
  ∃ cl:List (Str × Addr),(forIn names acc (λ(p:Str × NameKind) (cs:Yv)=>(do
    if p.2 == .free then
     let a <- cellOf env p.1;pure (ForInStep.yield ((p.1,a)::cs))
    else pure (ForInStep.yield cs):Sem (ForInStep (List (Str × Addr))))))=pure cl /\
   (∀ x c,cl.lookup x=some c->env.cells.lookup x=some c) /\
   (∀ x,(acc.lookup x).isSome=true->(cl.lookup x).isSome=true) /\ ∀ y∈names,y.2=.free->(cl.lookup y.1).isSome=true
 |[],acc,_,ha=>⟨acc,by rw[List.forIn_nil],ha,λ_ h=>h,λ_ h=>nomatch h⟩
 | (n,k)::r,acc,hf,ha=>by
  rw[List.forIn_cons];by_cases hk:k=.free
  .subst hk;let⟨c,hc⟩:=hf (n,.free) AZ rfl;let hco:cellOf env n=pure c:=by erw[cellOf];rw[hc]
   let⟨cl,e,h1,h2,h3⟩:=NS r ((n,c)::acc) (λy hy=>hf y (Aq _ hy)) (λx d hx=>by
    rw[D5]at hx;cases hb:x==n with
    |true=>rw[hb]at hx;ext hx;rw[beq_iff_eq.mp hb];calc hc
    |false=>rw[hb]at hx;calc ha x d hx)
   refine ⟨cl,?_,h1,λx hx=>h2 x ?_,λy hy hk=>?_⟩
   .rw[<-e];simp only[beq_self_eq_true,if_true,hco];rfl
   .rw[D5];cases hb:x==n with
    |true=>rfl
    |false=>exact hx
   .rcases AJ.mp hy with z|z
    .subst z;exact h2 n (by rw[D5];simp)
    .exact h3 y z hk
  .obtain ⟨cl,e,h1,h2,h3⟩:=NS r acc (λy hy=>hf y (Aq _ hy)) ha;refine ⟨cl,?_,h1,h2,λy hy hk'=>?_⟩
   .rw[<-e];have:(k==NameKind.free)=false:=by simpa using hk
    simp only[this,C0,if_false];rfl
   .rcases AJ.mp hy with z|z
    .subst z;exact absurd hk' hk
    .exact h3 y z hk'
def Qn (hf:∀ y∈scope.names,y.2=.free -> ∃ c,env.cells.lookup y.1=some c) :
  ∃ cl,closureFor scope env=pure cl/\(∀ x c,cl.lookup x=some c->env.cells.lookup x=some c) /\ ∀ y∈scope.names,y.2=.free->(cl.lookup y.1).isSome=true:=by
 let⟨cl,e,h1,_,h3⟩:=NS scope.names [] hf (λx c h=>nomatch h);calc ⟨cl,?_,h1,h3⟩;erw[closureFor];rw[show (pure cl:Sem _)=pure cl >>= pure from rfl,<-e]
def LO
  (hQ:Q (newEnv scope ⇑s globals (cellsFrom (⇑s+1) scope.names cl) qual none .none (some env) builtinsNs)
   { s with heap:=pushCells (s.heap.push { cls:=.type "dict", data:=.dict #[] }) scope.names }) :
  wpAny M A (newFunctionEnv scope globals cl [] qual none .none (some env)) Q E s:=by
 simp only[newFunctionEnv,Option.isSome_some,if_true];calc AA (wpAny_alloc ?_);refine AA (wpAny_layCells _ (λname kind cells=>by cases hkc:kind==NameKind.cell <;> simp[hkc]) _ _ _ _ ?_);rw[show ({ s with heap:=s.heap.push { cls:=.type "dict", data:=.dict #[] } }:Shared).heap.objs.size=⇑s+1 from CF ..];calc AA (AB (AB hQ))
def zP (X:Cx) (zB:Yd) (scope:Y0) (cl:Yv) (s:Yl) (H:Hp) (fp:Yg):Cx where
 prog:=X.prog
 w:=X.w
 K:=X.K
 mg:=X.mg
 base:=X.base
 A:=X.A
 N:=X.N
 s₀:=s
 H₀:=H
 env:={ scope:=relabel scope X.env,locals:=⇑s+1,globals:=X.env.globals,cells:=cellsFrom (⇑s+1+1) scope.names cl,qual:=X.env.qual,func:=none,code:=X.env.code,frame:=X.env.frame,builtins:=X.env.builtins }
 outer:=X.stack
 stack:=X.stack
 ex:=fp
 fn:=λx=>decide (scope.names.lookup x=some .cell)
 calm:=X.calm
 pn:=X.pn++zB
 xe:=λ_ _=>False
theorem G1 {scope:Y0} {env:Env} (x:Str):∀ {names:List (Str × NameKind)} {k:NameKind},
  (names.map λ(n,k)=>if (k==NameKind.free&&env.scope.kind == .function&&env.kindOf n==some .cell) then (n,NameKind.cell) else (n,k)).lookup x=some k ->
  names.lookup x=some k\/(names.lookup x=some .free/\k=.cell)
 |[],_,h=>by simp at h
 | (n,k')::r,k,h=>by
  rw[Af]at h;by_cases hc:(k'==NameKind.free&&env.scope.kind == .function&&env.kindOf n==some .cell)=true
  .simp only[hc,if_true]at h;rw[D5]at h ⊢;cases hb:x==n with
   |true=>
    rw[hb]at h;simp only[Au,beq_iff_eq]at hc;calc .inr ⟨by rw[hc.1.1],(Bh h).symm⟩
   |false=>rw[hb]at h;exact G1 (scope:=scope) x h
  .simp only[hc,C0,if_false]at h;rw[D5]at h ⊢;cases hb:x==n with
   |true=>rw[hb]at h;calc .inl h
   |false=>rw[hb]at h;calc G1 (scope:=scope) x h
theorem MM:∀ (names:List (Str × NameKind)) (n:Nat) (acc:Yv) (x:Str) (c:Yt),(x,c)∈cellsFrom n names acc->(x,c)∉acc->(x,NameKind.cell)∈names
 |[],_,_,_,_,h,h'=>absurd h h'
 | (name,kind)::r,n,acc,x,c,h,h'=>by
  erw[cellsFrom]at h;cbv at h
  .rename_i hk;by_cases e:(x,c)=(name,n)
   .cases e;rw[beq_iff_eq]at hk;subst hk;exact AZ
   .exact Aq _ (MM r _ _ x c h λz=>(AJ.mp z).elim e h')
  .exact Aq _ (MM r _ _ x c h h')
structure CompScope (X:Cx) (scope:Y0):Prop where
 kind:scope.kind=.function
 names:∀ y∈scope.names,y.2=.local->scope.names.lookup y.1=some .local
 cells:∀ y∈scope.names,y.2=.cell->scope.names.lookup y.1=some .cell
 free:∀ y∈scope.names,y.2=.free->X.env.kindOf y.1=some .cell\/X.env.kindOf y.1=some .free
def LR (S:CompScope X scope) (I:Inv X zB Y H s) (hf:∀ b∈fp,Bd X zB H b) (ho:∀ b:Nat,b∈fp->b<⇑s)
  (c1:∀ x c,cl.lookup x=some c->X.env.cells.lookup x=some c) (c2:∀ y∈scope.names,y.2=.free->(cl.lookup y.1).isSome=true)
  (hl:σc.length=Y.length) (hσ:∀ (i:Nat) x v,X.N[i]?=some x->σc[i]?=some (some v)->(relabel scope X.env).names.lookup x≠none->scope.names.lookup x=some .free/\Y[i]?=some (some v))
  (lo:Obj) (hlo:∀ v,lo.data≠.cell v) (hfr:lo.isFreed=false)
  (h4:s4={ s with heap:=pushCells ((s.heap.push lo).push { cls:=.type "dict", data:=.dict #[] }) scope.names }) :
  Inv (zP X zB scope cl s H fp) [(⇑s,lo)] σc H s4:=by
 subst h4;let sz1:(s.heap.push lo).objs.size=⇑s+1:=CF ..;let sz2:((s.heap.push lo).push { cls:=.type "dict", data:=.dict #[] }).objs.size=⇑s+1+1:=by rw[CF,sz1]
 let hk:∀ b o,s.heap.get? b=some o->(pushCells ((s.heap.push lo).push { cls:=.type "dict", data:=.dict #[] }) scope.names).get? b=some o:=λb o e=>
  pushCells_keeps _ _ b o (AG _ (AG _ e))
 let ok:=cellsFrom_ok scope.names ((s.heap.push lo).push { cls:=.type "dict", data:=.dict #[] }) (⇑s+1+1) [] ⟨λ_ _ hm=>(nomatch hm),List.Pairwise.nil⟩ (by rw[sz2];exact AF _);rw[sz2]at ok;let look:∀ x c,(cellsFrom (⇑s+1+1) scope.names cl).lookup x=some c->((cellsFrom (⇑s+1+1) scope.names []).lookup x=some c)\/((cellsFrom (⇑s+1+1) scope.names []).lookup x=none/\X.env.cells.lookup x=some c):=λx c e=>by
  rw[Fw,IX]at e;cases q:(cellsFrom (⇑s+1+1) scope.names []).lookup x with
  |some d=>rw[q]at e;calc .inl e
  |none=>rw[q]at e;exact .inr ⟨rfl,c1 x c e⟩
 let old:∀ x (c:Nat),X.env.cells.lookup x=some c->c<⇑s:=λx c e=>let ⟨_,q⟩:=I.cell x c e;q.lt;let new:∀ x (c:Nat),(cellsFrom (⇑s+1+1) scope.names []).lookup x=some c->⇑s+1+1<=c:=λx c e=>(ok.empty x c (B8 e)).2;let own:∀ x,scope.names.lookup x=some .cell -> ∃ c,(cellsFrom (⇑s+1+1) scope.names []).lookup x=some c:=λx e=>K5 e;let cne:∀ x (c:Nat),(cellsFrom (⇑s+1+1) scope.names cl).lookup x=some c->c<⇑s\/⇑s+1+1<=c:=λx c e=>by
  rcases look x c e with q|⟨_,q⟩
  .exact .inr (new x c q)
  .exact .inl (old x c q)
 refine ⟨⟨I.ok.mod,S.kind,I.ok.glob,I.ok.blt,Nat.le_succ _,λx y c h1 h2=>?_,λx hx=>?_,λx c hx h=>?_,I.ok.hd,I.ok.frames,.inl rfl,λb hb=>⟨?_,λx c e z=>?_⟩,I.bs,Ar I.ok.bsz I.sz,λb o e hb=>?_,λb hb z=>?_,I.stack,I.stkFree⟩,
  rfl,I.bare,Un.kept hk,⟨λ_=>none,?_,λi x v h1 h2 h3=>?_⟩,λx c e=>?_,I.hok.fresh (Nat.le_succ _),λx c e=>?_,λp hp=>?_,I.hok.kept hk,hl.trans I.len⟩
 .rcases look x c h1 with a|⟨_,a⟩ <;> rcases look y c h2 with b|⟨_,b⟩
  .exact name_of_addr ok.apart (B8 a) (B8 b)
  .exact absurd (Nat.lt_of_le_of_lt (new x c a) (old y c b)) ()
  .exact absurd (Nat.lt_of_le_of_lt (new y c b) (old x c a)) ()
  .exact I.ok.inj x y c a b
 .have hx':(relabel scope X.env).names.lookup x=some .cell\/(relabel scope X.env).names.lookup x=some .free:=hx;let go:scope.names.lookup x=some .cell\/scope.names.lookup x=some .free:=by
   rcases hx' with q|q
   .rcases G1 (scope:=scope) x q with z|z
    .exact .inl z
    .exact .inr z.1
   .rcases G1 (scope:=scope) x q with z|z
    .exact .inr z
    .exact .inr z.1
  show ∃ c,(cellsFrom (⇑s+1+1) scope.names cl).lookup x=some c;rw[Fw,IX];rcases go with q|q
  .obtain ⟨c,e⟩:=own x q;exact ⟨c,by rw[e]⟩
  .cases e:(cellsFrom (⇑s+1+1) scope.names []).lookup x with
   |some d=>calc ⟨d,rfl⟩
   |none=>exact Option.isSome_iff_exists.mp (c2 (x,.free) (B8 q) rfl)
 .obtain ⟨d,e⟩:=own x (CZ hx);let h':(cellsFrom (⇑s+1+1) scope.names cl).lookup x=some c:=h;rw[Fw,IX,e]at h';ext h';exact Ar (Ar (Nat.le_succ _) (Nat.le_succ _)) (new x _ e)
 .exact Ad (ER (ho b hb))
 .rcases look x c e with q|⟨_,q⟩
  .have a:=new x c q;rw[z]at a;exact absurd (Nat.lt_of_le_of_lt a (ho b hb)) ()
  .exact (hf b hb).2.2.2.2.1 x c q z
 .rcases (hf b hb).2.2.2.1 with z|z
  .exact I.ok.noex b o e z
  .exact absurd (A0 (AH e) (Ar I.ok.bsz z)) (BY _)
 .rcases AJ.mp (I.stkSub b z)with q|q
  .exact (hf b hb).2.1 q
  .exact (hf b hb).2.2.1 q
 .have q:((s.heap.push lo).push { cls:=.type "dict", data:=.dict #[] }).Ns (s.heap.push lo).objs.size (λ_=>none):=Heap.Ns.new ..;rw[sz1]at q;exact q.keeps (pushCells_keeps _ _)
 .have h3':(relabel scope X.env).names.lookup x≠none:=by
   rcases h3 with z|z|z <;> (intro q;let z':(relabel scope X.env).names.lookup x=_:=z;rw[q]at z';ext z')
  let⟨fr,hv⟩:=hσ i x v h1 h2 h3';let⟨m,hn,hlk⟩:=I.loc;let kx:=S.free (x,.free) (B8 fr) rfl;let⟨u,rv,lk⟩:=hlk i x v h1 hv (by rcases kx with z|z;calc .inr (.inl z);calc .inr (.inr z));calc ⟨u,rv,?_⟩;rcases lk with ⟨z,_⟩|⟨_,c,e,ic⟩
  .rcases kx with k|k <;> (rw[k]at z;ext z)
  .have kind:(relabel scope X.env).names.lookup x=some .cell\/(relabel scope X.env).names.lookup x=some .free:=by
    cases q:(relabel scope X.env).names.lookup x with
    |none=>calc absurd q h3'
    |some k=>
     rcases G1 (scope:=scope) x q with z|z
     .rw[fr]at z;ext z;exact .inr rfl
     .rw[z.2];exact .inl rfl
   refine .inr ⟨kind,c,?_,ic.keeps hk⟩;show (cellsFrom (⇑s+1+1) scope.names cl).lookup x=some c;rw[Fw,IX];let⟨d,hd⟩:=Option.isSome_iff_exists.mp (c2 (x,.free) (B8 fr) rfl);have:=c1 x d hd;rw[e]at this;ext this;let nn:(cellsFrom (⇑s+1+1) scope.names []).lookup x=none:=by
    cases q:(cellsFrom (⇑s+1+1) scope.names []).lookup x with
    |none=>rfl
    |some d'=>
     let z:=S.cells (x,.cell) (MM scope.names _ [] x d' (B8 q) λz=>nomatch z) rfl;rw[fr]at z;ext z
   rw[nn];exact hd
 .rcases look x c e with q|⟨_,q⟩
  .exact ⟨none,(ok.empty x c (B8 q)).1⟩
  .obtain ⟨v,z⟩:=I.cell x c q;exact ⟨v,z.keeps hk⟩
 .rcases look x c e with q|⟨_,q⟩
  .exact I.hok.fresh (by have:=new x c q;omega)
  .exact I.freeC x c q
 .have hp':p∈X.pn++zB\/p=(⇑s,lo):=by
   rcases AO.mp hp with z|z
   .exact .inl z
   .exact .inr (~~~z)
  rcases hp' with z|z
  .obtain ⟨e,n,ne,nf,d⟩:=I.pin p z;let lt:(p.1:Nat)<⇑s:=AH e;refine ⟨hk _ _ e,n,?_,λq=>?_,d⟩
   .exact Ad (ER lt)
   .rcases AJ.mp (I.stkSub _ q)with r|r
    .exact ne r
    .exact nf r
  .subst z;refine ⟨pushCells_keeps _ _ _ _ (AG _ (AM _ hfr)),I.hok.fresh (AF _),?_,λq=>?_,hlo⟩
   .show ⇑s≠⇑s+1;omega
   .rcases AJ.mp (I.stkSub _ q)with r|r
    .exact absurd I.lt (by rw[<-r];calc BY _)
    .exact I.nofs (AF _) r
def clr (own:Yj) (Y:St):St:=own.foldl (λY i=>Y.set i none) Y
theorem GW:∀ (own:Yj) (Y:St),(clr own Y).length=Y.length
 |[],_=>rfl
 |i::r,Y=>by
  show (clr r (Y.set i none)).length=_;rw[GW r,Cf]
theorem F7:∀ (own:Yj) (Y:St) (j:Nat) (v:V),(clr own Y)[j]?=some (some v)->Y[j]?=some (some v)/\j∉own
 |[],_,_,_,h=>⟨h,λz=>nomatch z⟩
 |i::r,Y,j,v,h=>by
  let h':(clr r (Y.set i none))[j]?=some (some v):=h;let⟨a,b⟩:=F7 r _ j v h';rw[FC]at a;cbv at a
  .split at a <;> ext a
  .rename_i hne;calc ⟨a,λz=>(AJ.mp z).elim (λe=>hne e.symm) b⟩
def Ext (a b:St):Prop:=b.length=a.length /\ ∀ (i:Nat) v,a[i]?=some (some v)->b[i]?=some (some v)
def Ext.refl (a:St):Ext a a:=⟨rfl,λ_ _ h=>h⟩
def Ext.set (e:Ext (clr own Y) a) (h:i∈own):Ext (clr own Y) (a.set i (some v)):=by
 refine ⟨by rw[Cf];exact e.1,λj u q=>?_⟩;rw[FC];split
 .rename_i z;exact absurd (z▸h) (F7 own Y j u q).2
 .exact e.2 j u q
def Dk (X:Cx) (ifs:Yi) (t:TT):Prop :=
 ∀ (zB:Yd) (s:Yl) (Y:St) (H:Hp) (Q:Bool->Hp->Prop),Inv X zB Y H s->t Y H Q ->
  wpAny (model X.prog X.w) X.A (forIn ifs true λc r=>if r=true then do let ok <- isTrue c X.env (eval c X.env);pure (ForInStep.yield ok) else pure (ForInStep.yield r)) (TP X zB Y Q) X.xe s
def mS:TT:=λ_ H Q=>Q true H
def gB:Dk X [] mS:=λ_ _ _ H _ I h=>wpAny_tests_nil ⟨H,I,h⟩
def UR (h:PT X c t):Dk X [c] t:=λzB s Y H Q I hq=>wpAny_tests_one (h zB s Y H Q I hq)
def lD (I:Nat->Shared->Prop)
  (turn:∀ n s,I n s->wpAny (model prog w) A (pyNext it) (λr s₁=>match r with
   |none=>R (.ok .next) s₁
   |some v=>wpAny (model prog w) A (letOwnedTupleGo target it v) (λ_ s₁'=>wpAny (model prog w) A (assign target env v) (λ_ s₂=>
     wpAny (model prog w) A (forIn ifs true λc r=>if r=true then do let ok <- isTrue c env (eval c env);pure (ForInStep.yield ok) else pure (ForInStep.yield r)) (λok s₃=>
      if ok=true then wpAny (model prog w) A (eval elt env) (λx s₄=>
       wpAny (model prog w) A (call (.builtin "list.append") [acc,x]) (λ_ s₅=>∃ m,m<n/\I m s₅) (λ_ _=>False) s₄) (λ_ _=>False) s₃
      else ∃ m,m<n/\I m s₃) (λ_ _=>False) s₂) (λ_ _=>False) s₁') (λ_ _=>False) s₁) (λ_ _=>False) s)
  (n:Nat) (h:I n s) :
  codeAny (model prog w) A (.compLoop (.ListComp elt [⟨target,iter,ifs,0⟩] scope pos) 0 it acc env) R s:=by
 refine codeAny_loop rfl I (λn s hI=>?_) n h;show wpAny _ A ((compTurn (.ListComp elt [⟨target,iter,ifs,0⟩] scope pos) 0 it acc env).onRaise (λx=>do noteFrame x env;theTreesLotGoes x)) _ _ s;calc wpAny_noted ?_;rw[compTurn_list];refine AA (C3 (AA (AX (turn n s hI) (λr s₁ h₁=>?_) λ_ _ h'=>h'.elim)));cases r with
 |none=>calc AB h₁
 |some v=>
  refine AA (AX h₁ (λ_ s₁' h₁'=>?_) λ_ _ h'=>h'.elim);refine AA (AX h₁' (λ_ s₂ h₂=>AA (AX h₂ (λok s₃ h₃=>?_) λ_ _ h'=>h'.elim)) λ_ _ h'=>h'.elim);cases ok with
  |false=>calc AB ⟨rfl,h₃⟩
  |true=>
   calc AA (AA (AX h₃ (λx s₄ h₄=>AA (AX h₄ (λ_ s₅ h₅=>AB (AB ⟨rfl,h₅⟩)) λ_ _ h'=>h'.elim)) λ_ _ h'=>h'.elim))
def My (own:Yj) (wi:TI) (g:TG) (tc:TT) (te:TE):TE:=λY H Q=>wi Y H λJ H1=>∃ W:Nat->Nat->List V->Hp->Prop,(∃ m,W 0 m [] H1) /\ ∀ i m ys H,W i m ys H ->
 (J.stop i H/\ys.length<=sizeLine /\ ∀ D,H D=none->Q (.ref D) (upd H D (.lst ys))) \/
 (J.go i H /\ ∀ x H',J.yld i H x H'->g x (clr own Y) H' λσ2 H2=>Ext (clr own Y) σ2/\tc σ2 H2 λb H3=>
  if b=true then te σ2 H3 λv H4=>ys.length<sizeLine /\ ∃ m',m'<m/\W (i+1) m' (ys++[v]) H4 else ∃ m',m'<m/\W (i+1) m' ys H3)
abbrev ze (its:List Value) (n:Nat):Obj:={ cls:=.type "list", data:=.seq its.toArray n }
def Inv.repin (I:Inv X (pl++[(D,o)]) Y H s) (hpl:∀ p∈X.pn++pl,p.1≠D) (hs:Heap.SameBut D s.heap h') (hD:⇑X.s₀<=D) (hc:∀ x c,X.env.cells.lookup x=some c->c≠D)
  (e:h'.get? D=some o') (hn:∀ v,o'.data≠.cell v):Inv X (pl++[(D,o')]) Y H { s with heap:=h' }:=by
 let⟨e0,n0,ne0,nf0,d0⟩:=I.pin (D,o) (by simp);let I1:Inv X pl Y H s:=I.pins_of λp hp=>I.pin p (by simp[hp]);let I2:Inv X pl Y H { s with heap:=h' }:=I1.turned (λb u hb q=>hs.extBut b u hb q) n0 ne0 (.inr hD) hc hpl;exact I2.pins_of λp hp=>by
  rcases AO.mp hp with z|z
  .exact I2.pin p (Ax _ z)
  .have:p=(D,o'):=by simpa using z
   subst this;calc ⟨e,n0,ne0,nf0,hn⟩
section
variable {pos:Pos}
 {own:Yj} {g:TG} {tc:TT} {te:TE} {E:Yc}
structure CompIn (X:Cx) (scope:Y0) (own:Yj):Prop where
 sc:CompScope X scope
 nm:∀ (i:Nat) x,X.N[i]?=some x->i∈own\/scope.names.lookup x=none\/scope.names.lookup x=some .free
def Ms (x:Str) (h:scope.names.lookup x=none):(relabel scope env).names.lookup x=none:=by
 cases q:(relabel scope env).names.lookup x with
 |none=>rfl
 |some k=>
  rcases G1 (scope:=scope) x q with z|z
  .rw[h]at z;ext z
  .rw[h]at z;cases z.1
def Rc (C:CompIn X scope own) (hcalm:X.calm=true) (I:Inv X zB Y H s) (T:Turn X.prog X.w X.K tg J fp it tn) (st:tn 0 s.heap) (hf:∀ b∈fp,Bd X zB H b)
  (c1:∀ x c,cl.lookup x=some c->X.env.cells.lookup x=some c) (c2:∀ y∈scope.names,y.2=.free->(cl.lookup y.1).isSome=true)
  (hg:PG (zP X zB scope cl s H fp) tg g) (hi:Dk (zP X zB scope cl s H fp) ifs tc) (he:PE (zP X zB scope cl s H fp) elt te)
  {RR:Value->Addr->Result->Shared->Prop} {QQ:List V->Hp->Prop} {W:Nat->Nat->List V->Hp->Prop} {m0:Nat} (w0:W 0 m0 [] H)
  (turn:∀ i m ys H,W i m ys H->(J.stop i H/\ys.length<=sizeLine/\QQ ys H) \/
   (J.go i H /\ ∀ x H',J.yld i H x H'->g x (clr own Y) H' λσ2 H2=>Ext (clr own Y) σ2/\tc σ2 H2 λb H3=>
    if b=true then te σ2 H3 λv H4=>ys.length<sizeLine /\ ∃ m',m'<m/\W (i+1) m' (ys++[v]) H4 else ∃ m',m'<m/\W (i+1) m' ys H3))
  (fin:∀ σc H' s' its n ys,Inv (zP X zB scope cl s H fp) [(⇑s,ze its n)] σc H' s'->za ys its->ys.length<=sizeLine->QQ ys H'->RR (.ref ⇑s) (⇑s+1) (.ok .next) s') :
  wpAny (model X.prog X.w) X.A (newList []) (λacc s₃=>wpAny (model X.prog X.w) X.A (newFunctionEnv scope X.env.globals cl [] X.env.qual none .none (some X.env)) (λcenv s₄=>
   codeAny (model X.prog X.w) X.A (.compStart (.ListComp elt [⟨tg,iter,ifs,0⟩] scope pos) 0 (.ref it) acc { cenv with scope:=relabel scope X.env }) (RR acc cenv.locals) s₄) E s₃) E s:=by
 let ob:∀ b:Nat,b∈fp->b<⇑s:=λb hb=>let ⟨_,e,_⟩:=T.obj 0 _ st b hb;AH e;refine BI (LO ?_);let sz1:(s.heap.push (ze [] 0)).objs.size=⇑s+1:=CF ..;let I4:=LR C.sc I hf ob c1 c2 (GW own Y) (λi x v h1 h2 h3=>by
  let⟨a,b⟩:=F7 own Y i v h2;rcases C.nm i x h1 with z|z|z
  .exact absurd z b
  .exact absurd (Ms x z) h3
  .exact ⟨z,a⟩) (ze [] 0) (by intro v z;ext z) rfl rfl
 let st4:tn 0 (pushCells ((s.heap.push (ze [] 0)).push { cls:=.type "dict", data:=.dict #[] }) scope.names):=T.keep 0 _ _ st λb _ o e=>pushCells_keeps _ _ b o (AG _ (AG _ e));erw[newEnv];rw[sz1];let hDfp:⇑s∉fp:=λz=>BY _ (ob _ z);let hcD:∀ x c,(zP X zB scope cl s H fp).env.cells.lookup x=some c->c≠⇑s:=λx c e z=>by
  let⟨v,o,ho,hd⟩:=I4.cell x c e;let⟨q,_⟩:=I4.pin (⇑s,ze [] 0) (by simp);rw[z,q]at ho;ext ho;ext hd
 let fpk:∀ {H':Hp} {pl:Yd},(∀ b∈fp,H' b=none)->(∀ p∈pl,p.1=⇑s) -> ∀ b∈fp,Bd (zP X zB scope cl s H fp) pl H' b:=λ{H' pl} hn hp b hb=>
  ⟨hn b hb,(I4.ok.exf b hb).1,I4.ok.exfs b hb,.inl hb,(I4.ok.exf b hb).2,λp hq=>by
   rcases AO.mp hq with z|z
   .exact (hf b hb).2.2.2.2.2 p z
   .intro e;let e2:=hp p z;rw[e]at e2;calc hDfp (e2▸hb)⟩
 let loop:codeAny (model X.prog X.w) X.A (.compLoop (.ListComp elt [⟨tg,iter,ifs,0⟩] scope pos) 0 (.ref it) (.ref ⇑s) (zP X zB scope cl s H fp).env) (RR (.ref ⇑s) (⇑s+1))
   { s with heap:=pushCells ((s.heap.push (ze [] 0)).push { cls:=.type "dict", data:=.dict #[] }) scope.names }:=by
  refine lD (λn s'=>∃ i H' ys its k,Inv (zP X zB scope cl s H fp) [(⇑s,ze its k)] (clr own Y) H' s'/\za ys its/\tn i s'.heap/\(∀ b∈fp,H' b=none)/\W i n ys H') ?_ m0
   ⟨0,H,[],[],0,I4,.nil,st4,λb hb=>(hf b hb).1,w0⟩
  rintro n s5 ⟨i,H5,ys,its,k,I5,r5,st5,f5,w5⟩;let pinD:∀ p∈[(⇑s,ze its k)],p.1=⇑s:=λp hp=>by
   have:p=(⇑s,ze its k):=by simpa using hp
   rw[this]
  rcases turn i n ys H5 w5 with ⟨stop,hz,qq⟩|⟨go,step⟩
  .refine thn (T.done (zP X zB scope cl s H fp) rfl rfl rfl hcalm i _ s5 _ H5 _ I5 (fpk f5 pinD) st5 stop) λr s6 ⟨hr,I6⟩=>?_;subst hr;exact fin _ H5 s6 its k ys I6 r5 hz qq
  .refine thn (T.item (zP X zB scope cl s H fp) rfl rfl rfl hcalm i _ s5 _ H5 _ I5 (fpk f5 pinD) st5 go) λr s6 ⟨u,hr,h6⟩=>?_;subst hr;refine thn h6 λ_ s7 ⟨x,H7,I7,r7,y7,st7,f7⟩=>?_;let I7':=I7.pinned (fpk f7 pinD) (T.obj _ _ st7);refine thn (hg _ s7 _ H7 x u _ I7' r7 (step x H7 y7)) λ_ s8 ⟨σ8,H8,I8,x8,q8⟩=>?_;refine thn (hi _ s8 σ8 H8 _ I8 q8) λok s9 ⟨H9,I9,q9⟩=>?_;let back:∀ {s':Yl} {Hx:Hp},Inv (zP X zB scope cl s H fp) ([(⇑s,ze its k)]++Ew fp s7.heap) σ8 Hx s'->tn (i+1) s'.heap /\ ∀ b∈fp,Hx b=none:=λ{s' Hx} Ix=>
    ⟨T.keep _ _ _ st7 λb hb o e=>(Ix.pin (b,o) (Ax _ (Ax _ (EM hb e)))).1,λb hb=>by
     let⟨o,e,d⟩:=T.obj _ _ st7 b hb;calc (Ix.pin (b,o) (Ax _ (Ax _ (EM hb e)))).2.1⟩
   cases ok with
   |false=>
    let⟨m',hm,w'⟩:=q9;let⟨b1,b2⟩:=back I9;calc ⟨m',hm,i+1,H9,ys,its,k,(I9.weak (by rw[x8.1]) x8.2).unpinned,r5,b1,b2,w'⟩
   |true=>
    refine thn (he _ s9 σ8 H9 _ I9 q9) λv s10 ⟨y,H10,I10,r10,hlt,m',hm,w'⟩=>?_;let⟨b1,b2⟩:=back I10;let J10:=(I10.weak (by rw[x8.1]) x8.2).unpinned;let⟨e10,n10,ne10,nf10,d10⟩:=J10.pin (⇑s,ze its k) (by simp);let hlen:its.toArray.size<=sizeLine:=by
     have:=r5.length;rw[AU,<-this];exact Ce hlt
    refine wpAny_list_append_plain (show s10.heap.PlainList ⇑s its.toArray from ⟨k,e10⟩) λh' hl' hs'=>?_;let⟨k',e'⟩:=hl';let e'':h'.get? ⇑s=some (ze (its++[v]) k'):=by rw[e'];simp[ze]
    refine ⟨m',hm,i+1,H10,ys++[y],its++[v],k',?_,r5.append (.cons r10 .nil),T.keep _ _ _ b1 λb hb o e=>hs'.extBut b o (λz=>hDfp (z▸hb)) e,b2,w'⟩;refine Inv.repin (pl:=[]) J10 (λp hp=>?_) hs' (AF _) hcD e'' (by intro v z;ext z);rw[CU]at hp;let hp':p∈X.pn++zB:=hp;exact Ad (AH (I.pin p hp').1)
 calc codeAny_compStart_list loop (T.self _ 0 _ _ _ st4 loop)
end
def Nb (I:Inv X zB Y H s) (hf:∀ b∈fp,Bd X zB H b)
  (Ic:Inv (zP X zB scope cl s H fp) [(⇑s,ze its n)] σc H' s') (rv:za ys its) (hz:ys.length<=sizeLine) (hs:Heap.SameBut (⇑s+1) s'.heap h') :
  Inv X zB Y (upd H' ⇑s (.lst ys)) { s' with heap:=h' }/\H' ⇑s=none:=by
 let⟨eD,nD,_⟩:=Ic.pin (⇑s,ze its n) (by simp);let nC:H' (⇑s+1)=none:=Ic.free;let eD':h'.get? ⇑s=some (ze its n):=hs.extBut _ _ (Ad (Ek _)) eD;let lt1:∀ {b:Yt} {o:Obj},s.heap.get? b=some o->b≠⇑s+1/\b≠⇑s:=λe=>⟨Ad (ER (AH e)),Ad (AH e)⟩;let tr:∀ b u,H' b=some u->b≠⇑s+1/\b≠⇑s:=λb u e=>⟨λz=>(by rw[z,nC]at e;ext e),λz=>(by rw[z,nD]at e;ext e)⟩;refine ⟨?_,nD⟩;let B:=Ic.base;let un:Un (frs X.stack) fp H (upd H' ⇑s (.lst ys)) s.heap h':=by
  refine ⟨λb o e q hb hx=>hs.extBut b o (lt1 e).1 (B.keep b o e q hb hx),λb o e q hb hx=>?_,λb o e q hx=>?_,λb o e hx=>?_,λb xs e=>?_,λb o xs e=>?_,λb ps e=>?_⟩
  .obtain ⟨sl,e1⟩:=B.slot b o e q hb hx;exact ⟨sl,hs.extBut b _ (lt1 e).1 e1⟩
  .rw[zU (lt1 e).2];exact B.free b o e q hx
  .obtain ⟨o',e1⟩:=B.there b o e hx;exact ⟨o',hs.extBut b _ (lt1 e).1 e1⟩
  .have q:=B.tups b xs e;rw[zU (tr b _ q).2];exact q
  .have q:=B.frzs b o xs e;rw[zU (tr b _ q).2];exact q
  .obtain ⟨more,q⟩:=B.tbls b ps e;exact ⟨more,by rw[zU (tr b _ q).2];calc q⟩
 let hok:HOk X.prog X.w (upd H' ⇑s (.lst ys)) h':=λb u e=>by
  by_cases hb:b=⇑s
  .subst hb;rw[zp]at e;ext e;exact ⟨hz,its,n,rv,eD'⟩
  .rw[zU hb]at e;refine (Ic.hok b u e).stay (λc v hc q=>hs.extBut c v ?_ q) (λc q=>by rw[zU (tr c _ q).2];exact q) λc xs q=>by rw[zU (tr c _ q).2];exact q
   rcases hc with z|z
   .rw[z];exact (tr b u e).1
   .exact (tr c _ z).1
 calc I.call' Ic.os un hok Ic.bare λb hb=>⟨(hf b hb).2.2.2.1,(hf b hb).2.1,(hf b hb).2.2.2.2.1,(hf b hb).2.2.2.2.2⟩
structure CompParts (X:Cx) (scope:Y0) (tg:Expr) (ifs:Yi) (elt:Expr) (g:TG) (tc:TT) (te:TE):Prop where
 g:∀ zB cl s H fp,PG (zP X zB scope cl s H fp) tg g
 c:∀ zB cl s H fp,Dk (zP X zB scope cl s H fp) ifs tc
 e:∀ zB cl s H fp,PE (zP X zB scope cl s H fp) elt te
def CompScope.closure (S:CompScope X scope) (I:Inv X zB Y H s) :
  ∃ cl,closureFor scope X.env=pure cl/\(∀ x c,cl.lookup x=some c->X.env.cells.lookup x=some c) /\ ∀ y∈scope.names,y.2=.free->(cl.lookup y.1).isSome=true :=
 Qn λy hy hk=>I.ok.has y.1 (S.free y hy hk)
def Zz (C:CompIn X scope own) (hcalm:X.calm=true) (hi:PI X tg iter wi) (p:CompParts X scope tg ifs elt g tc te) (hs:∀ x,foldedSetIterable iter X.env x=pure x:=by intro _;rfl) :
  PE X (.ListComp elt [⟨tg,iter,ifs,0⟩] scope pos) (My own wi g tc te):=by
 intro zB s Y H Q I h;let⟨cl,hcl,c1,c2⟩:=C.sc.closure I;rw[eval_ListComp];refine wpAny_comprehension_free rfl hs hcl C.sc.kind C.sc.names (thn (hi zB s Y H _ I h) λv s1 h1=>thn h1 λitv s2 h2=>?_);let⟨it,fp,tn,J,H2,e,I2,T,st2,f2,W,⟨m0,w0⟩,turn⟩:=h2;subst e;calc Rc C hcalm I2 T st2 f2 c1 c2 (p.g _ _ _ _ _) (p.c _ _ _ _ _) (p.e _ _ _ _ _) w0 turn ?_;intro σc H' s' its n ys Ic rv hz qq;let⟨m,hn,_⟩:=Ic.loc;refine ⟨m,hn,λh' hs'=>?_⟩;let⟨J',nD⟩:=Nb I2 f2 Ic rv hz hs';calc ⟨.ref ⇑s2,_,J',rfl,qq _ nD⟩
def l9 (hN:X.N.Nodup) (hi':X.N[i]?=some x) (hx:Loc X.env.scope x) (hfn:X.fn x=true\/X.env.scope.names.lookup x=some .local)
  (C:CompIn X scope own) (hcalm:X.calm=true) (hi:PI X tg iter wi) (p:CompParts X scope tg ifs elt g tc te)
  (hsw:swapsWith (.ListComp elt [⟨tg,iter,ifs,0⟩] scope pos) (some (.Name x pos')) pos''.line X.env=pure true) (hs:∀ x,foldedSetIterable iter X.env x=pure x:=by intro _;rfl) :
  PS X (.Assign [.Name x pos'] (.ListComp elt [⟨tg,iter,ifs,0⟩] scope pos) pos'') (JF (My own wi g tc te) (Ed i)):=by
 intro zB s Y H D I h;let⟨cl,hcl,c1,c2⟩:=C.sc.closure I;rw[exec_Assign_Name_used _ _ _ _ hsw];refine AA (C3 (AA ?_))
 refine AA (AX (wpAny_comprehension_free rfl hs hcl C.sc.kind C.sc.names
  (thn (hi zB s Y H _ I h) λv s1 h1=>thn h1 λitv s2 h2=>?_)) (λ_ s' hq=>AB (AB hq)) λ_ _ e=>e)
 let⟨it,fp,tn,J,H2,e,I2,T,st2,f2,W,⟨m0,w0⟩,turn⟩:=h2;subst e
 refine Rc C hcalm I2 T st2 f2 c1 c2 (p.g _ _ _ _ _) (p.c _ _ _ _ _) (p.e _ _ _ _ _)
  w0 turn ?_
 intro σc H' s' its n ys Ic rv hz qq;let⟨m,hn,_⟩:=Ic.loc;let⟨J',nD⟩:=Nb I2 f2 Ic rv hz (.refl ..);let⟨oC,es,ep,hoC,hdC,r1,r2⟩:=id hn;let nC:upd H' ⇑s2 (.lst ys) (⇑s2+1)=none:=by rw[zU (Cz (Ek _))];exact Ic.free
 let K':Inv X (zB++[(⇑s2+1,oC)]) Y (upd H' ⇑s2 (.lst ys)) s':=J'.pins_of λq hq=>by
  rcases AO.mp hq with z|z
  .exact J'.pin q (Ax _ z)
  .have e:q=(⇑s2+1,oC):=by simpa using z
   subst e;refine ⟨hoC,nC,Cz (ER I2.lt),I2.nofs (Nat.le_succ _),λv z=>?_⟩;let z':oC.data=.cell v:=z;rw[hdC]at z';ext z'
 refine thn (SU hN hi' hx hfn _ s' Y _ (.ref ⇑s2) (.ref ⇑s2) _ K' rfl (qq _ nD)) λ_ s'' ⟨Y'',H'',I'',q''⟩=>?_;let⟨eC,_⟩:=I''.pin (⇑s2+1,oC) (by simp);refine ⟨m,⟨oC,es,ep,eC,hdC,r1,r2⟩,λh' hs'=>⟨Y'',H'',?_,q''⟩⟩;let I3:Inv X zB Y'' H'' s'':=I''.unpinned;let⟨_,nC'',neC,_,_⟩:=I''.pin (⇑s2+1,oC) (by simp);refine I3.turned (λb o hb e=>hs'.extBut b o hb e) nC'' neC (.inr (Ar I2.sz (Nat.le_succ _))) (λx c e z=>?_) (λq hq z=>?_)
 .obtain ⟨v,o,ho,hd⟩:=I3.cell x c e;rw[z,eC]at ho;ext ho;rw[hdC]at hd;ext hd
 .obtain ⟨e,_⟩:=I2.pin q hq;calc Ad (ER (AH e)) z
abbrev Bm (elt t1 i1:Expr) (f1:Yi) (t2 i2:Expr) (f2:Yi) (scope:Y0) (pos:Pos):Expr:=.ListComp elt [⟨t1,i1,f1,0⟩,⟨t2,i2,f2,0⟩] scope pos
def XS (elt t1 i1:Expr) (f1:Yi) (t2 i2:Expr) (f2:Yi) (scope:Y0) (pos:Pos) (it acc:Yu) (env:Env) :
  compTurn (Bm elt t1 i1 f1 t2 i2 f2 scope pos) 0 it acc env=(do
   standAt i1.pos;match <- pyNext it with
   |none=>pure (.done .next)
   |some v=>
    letOwnedTupleGo t1 it v;assign t1 env v;let mut ok:=true
    for c in f1 do
     if ok then ok <- isTrue c env (eval c env)
    if ok then
     let x <- eval i2 env;standAt i2.pos;let x <- foldedSetIterable i2 env x;let _ <- runOwn (.compStart (Bm elt t1 i1 f1 t2 i2 f2 scope pos) 1 (<- holding [x] (pyIter x)) acc env) env
    again (.compLoop (Bm elt t1 i1 f1 t2 i2 f2 scope pos) 0 it acc env)):=by rfl
def iV (elt t1 i1:Expr) (f1:Yi) (t2 i2:Expr) (f2:Yi) (scope:Y0) (pos:Pos) (it acc:Yu) (env:Env) :
  compTurn (Bm elt t1 i1 f1 t2 i2 f2 scope pos) 1 it acc env=(do
   standAt i2.pos;match <- pyNext it with
   |none=>pure (.done .next)
   |some v=>
    letOwnedTupleGo t2 it v;assign t2 env v;let mut ok:=true
    for c in f2 do
     if ok then ok <- isTrue c env (eval c env)
    if ok then
     (do let _ <- call (.builtin "list.append") [acc,<-eval elt env])
    again (.compLoop (Bm elt t1 i1 f1 t2 i2 f2 scope pos) 1 it acc env)):=by rfl
def aZ (I:Nat->Shared->Prop)
  (turn:∀ n s,I n s->wpAny (model prog w) A (pyNext it) (λr s₁=>match r with
   |none=>R (.ok .next) s₁
   |some v=>wpAny (model prog w) A (letOwnedTupleGo t2 it v) (λ_ s₁'=>wpAny (model prog w) A (assign t2 env v) (λ_ s₂=>
     wpAny (model prog w) A (forIn f2 true λc r=>if r=true then do let ok <- isTrue c env (eval c env);pure (ForInStep.yield ok) else pure (ForInStep.yield r)) (λok s₃=>
      if ok=true then wpAny (model prog w) A (eval elt env) (λx s₄=>
       wpAny (model prog w) A (call (.builtin "list.append") [acc,x]) (λ_ s₅=>∃ m,m<n/\I m s₅) (λ_ _=>False) s₄) (λ_ _=>False) s₃
      else ∃ m,m<n/\I m s₃) (λ_ _=>False) s₂) (λ_ _=>False) s₁') (λ_ _=>False) s₁) (λ_ _=>False) s)
  (n:Nat) (h:I n s) :
  codeAny (model prog w) A (.compLoop (Bm elt t1 i1 f1 t2 i2 f2 scope pos) 1 it acc env) R s:=by
 refine codeAny_loop rfl I (λn s hI=>?_) n h;show wpAny _ A ((compTurn (Bm elt t1 i1 f1 t2 i2 f2 scope pos) 1 it acc env).onRaise (λx=>do noteFrame x env;theTreesLotGoes x)) _ _ s;calc wpAny_noted ?_;rw[iV];refine AA (C3 (AA (AX (turn n s hI) (λr s₁ h₁=>?_) λ_ _ h'=>h'.elim)));cases r with
 |none=>calc AB h₁
 |some v=>
  refine AA (AX h₁ (λ_ s₁' h₁'=>?_) λ_ _ h'=>h'.elim);refine AA (AX h₁' (λ_ s₂ h₂=>AA (AX h₂ (λok s₃ h₃=>?_) λ_ _ h'=>h'.elim)) λ_ _ h'=>h'.elim);cases ok with
  |false=>calc AB ⟨rfl,h₃⟩
  |true=>
   calc AA (AA (AX h₃ (λx s₄ h₄=>AA (AX h₄ (λ_ s₅ h₅=>AB (AB ⟨rfl,h₅⟩)) λ_ _ h'=>h'.elim)) λ_ _ h'=>h'.elim))
def gW
  (h0:codeAny (model prog w) A (.compLoop (Bm elt t1 i1 f1 t2 i2 f2 scope pos) 1 it acc env) R s)
  (h:wpAny (model prog w) A (pyIter it) (λit' s'=>codeAny (model prog w) A (.compLoop (Bm elt t1 i1 f1 t2 i2 f2 scope pos) 1 it' acc env) R s')
   (notedBy (model prog w) A env λx s'=>R (.error x) s') s) :
  codeAny (model prog w) A (.compStart (Bm elt t1 i1 f1 t2 i2 f2 scope pos) 1 it acc env) R s:=by
 calc codeAny_of_tree ?_;show wpAny _ _ ((compStart (Bm elt t1 i1 f1 t2 i2 f2 scope pos) 1 it acc env).onRaise (λx=>do noteFrame x env;standAt theWindowsPlace)) _ _ s;calc wpAny_notedAt ?_;erw[compStart];calc AA (wpAny_askSetting (wpAny_ite ?_));split
 .first
   |calc AA (AB (AB (And.intro rfl h0)))
   |exact AB (And.intro rfl h0)
 .first
   |exact AA (Bx (AA (C3 (AA (AX h (λit' s' h'=>AB (And.intro rfl h')) λ_ _ x=>x)))))
   | (calc AA (Bx ?_);show wpAny _ _ (standAt i2.pos >>= _) _ _ s;calc AA (C3 (AA (AX h (λit' s' h'=>AB (And.intro rfl h')) λ_ _ x=>x))))
def VE (hs2:∀ x,foldedSetIterable i2 env x=pure x) (I:Nat->Shared->Prop)
  (turn:∀ n s,I n s->wpAny (model prog w) A (pyNext it) (λr s₁=>match r with
   |none=>R (.ok .next) s₁
   |some v=>wpAny (model prog w) A (letOwnedTupleGo t1 it v) (λ_ s₁'=>wpAny (model prog w) A (assign t1 env v) (λ_ s₂=>
     wpAny (model prog w) A (forIn f1 true λc r=>if r=true then do let ok <- isTrue c env (eval c env);pure (ForInStep.yield ok) else pure (ForInStep.yield r)) (λok s₃=>
      if ok=true then wpAny (model prog w) A (eval i2 env) (λx s₄=>wpAny (model prog w) A (pyIter x) (λit2 s₅=>
       codeAny (model prog w) A (.compStart (Bm elt t1 i1 f1 t2 i2 f2 scope pos) 1 it2 acc env) (λr s₆=>r=.ok .next /\ ∃ m,m<n/\I m s₆) s₅) (λ_ _=>False) s₄) (λ_ _=>False) s₃
      else ∃ m,m<n/\I m s₃) (λ_ _=>False) s₂) (λ_ _=>False) s₁') (λ_ _=>False) s₁) (λ_ _=>False) s)
  (n:Nat) (h:I n s) :
  codeAny (model prog w) A (.compLoop (Bm elt t1 i1 f1 t2 i2 f2 scope pos) 0 it acc env) R s:=by
 refine codeAny_loop rfl I (λn s hI=>?_) n h;show wpAny _ A ((compTurn (Bm elt t1 i1 f1 t2 i2 f2 scope pos) 0 it acc env).onRaise (λx=>do noteFrame x env;theTreesLotGoes x)) _ _ s;calc wpAny_noted ?_;rw[XS];refine AA (C3 (AA (AX (turn n s hI) (λr s₁ h₁=>?_) λ_ _ h'=>h'.elim)));cases r with
 |none=>calc AB h₁
 |some v=>
  refine AA (AX h₁ (λ_ s₁' h₁'=>?_) λ_ _ h'=>h'.elim);refine AA (AX h₁' (λ_ s₂ h₂=>AA (AX h₂ (λok s₃ h₃=>?_) λ_ _ h'=>h'.elim)) λ_ _ h'=>h'.elim);cases ok with
  |false=>calc AB ⟨rfl,h₃⟩
  |true=>
   refine AA (AX h₃ (λx s₄ h₄=>AA (C3 (AA (wpAny_of_eq (hs2 x) (AA (CD (AX h₄ (λit2 s₅ h₅=>?_) λ_ _ h'=>h'.elim))))))) λ_ _ h'=>h'.elim);refine AA (wpAny_runOwn (codeAny_mono h₅ λr s₆ hr=>?_));let⟨rfl,hr⟩:=hr;calc AB ⟨rfl,hr⟩
def tIn (own2:Yj) (wi2:TI) (g2:TG) (tc2:TT) (te:TE) (σ2:St) (H3:Hp) (ys:List V) (QQ:List V->Hp->Prop):Prop :=
 wi2 σ2 H3 λJ2 H4=>∃ W2:Nat->Nat->List V->Hp->Prop,(∃ m,W2 0 m ys H4) /\ ∀ j m zs H,W2 j m zs H ->
  (J2.stop j H/\QQ zs H) \/
  (J2.go j H /\ ∀ x H',J2.yld j H x H'->g2 x (clr own2 σ2) H' λσ3 H5=>Ext (clr own2 σ2) σ3/\tc2 σ3 H5 λb H6=>
   if b=true then te σ3 H6 λv H7=>zs.length<sizeLine /\ ∃ m',m'<m/\W2 (j+1) m' (zs++[v]) H7 else ∃ m',m'<m/\W2 (j+1) m' zs H6)
section
variable {D:Yt}
 {own2:Yj} {wi2:TI} {g2:TG} {tc2:TT} {te:TE} {R:Yx}
def iK (hxe:C.xe=λ_ _=>False) (hcalm:C.calm=true) (hi:PI C t2 i2 wi2) (hg:PG C t2 g2) (hc:Dk C f2 tc2) (he:PE C elt te) (hD:⇑C.s₀<=D)
  (hcD:∀ x c,C.env.cells.lookup x=some c->c≠D) (hpl:∀ p∈C.pn++pl,p.1≠D) (I:Inv C (pl++[(D,ze its k)]) Y H s) (rv:za ys its) (h:tIn own2 wi2 g2 tc2 te Y H ys QQ)
  (fin:∀ s' H' its' k' zs,Inv C (pl++[(D,ze its' k')]) (clr own2 Y) H' s'->za zs its'->QQ zs H'->R (.ok .next) s') :
  wpAny (model C.prog C.w) C.A (eval i2 C.env) (λx s₄=>wpAny (model C.prog C.w) C.A (pyIter x) (λit2 s₅=>
   codeAny (model C.prog C.w) C.A (.compStart (Bm elt t1 i1 f1 t2 i2 f2 scope pos) 1 it2 (.ref D) C.env) R s₅) (λ_ _=>False) s₄) (λ_ _=>False) s:=by
 let hpi:=hi _ s Y H _ I h;rw[hxe]at hpi;refine thn hpi λv s1 h1=>thn h1 λitv s2 h2=>?_;let⟨it,fp,tn,J,H2,e,I2,T,st2,f2',W,⟨m0,w0⟩,turn⟩:=h2;subst e;let hDfp:D∉fp:=λz=>(f2' D z).2.2.2.2.2 (D,ze its k) (by simp) rfl;let loop:∀ s',(∃ H',Inv C (pl++[(D,ze its k)]) (clr own2 Y) H' s'/\tn 0 s'.heap/\(∀ b∈fp,H' b=none)/\W 0 m0 ys H')->codeAny (model C.prog C.w) C.A (.compLoop (Bm elt t1 i1 f1 t2 i2 f2 scope pos) 1 (.ref it) (.ref D) C.env) R s':=by
  rintro s' ⟨H',I',st',hn',w'⟩;let fpk:∀ {H':Hp} {its:Yf} {k:Nat},(∀ b∈fp,H' b=none) -> ∀ b∈fp,Bd C (pl++[(D,ze its k)]) H' b:=λ{H' its k} hn b hb=>by
   let⟨_,a2,a3,a4,a5,a6⟩:=f2' b hb;refine ⟨hn b hb,a2,a3,a4,a5,λp hp=>?_⟩;rcases AO.mp hp with z|z
   .exact a6 p (Cm _ z)
   .rcases AO.mp z with z|z
    .exact a6 p (Ax _ (Cm _ z))
    .have:p=(D,ze its k):=by simpa using z
     rw[this];intro q;let q':D=b:=q;exact hDfp (q'▸hb)
  refine aZ (λn s'=>∃ i H' ys its k,Inv C (pl++[(D,ze its k)]) (clr own2 Y) H' s'/\za ys its/\tn i s'.heap/\(∀ b∈fp,H' b=none)/\W i n ys H') ?_ m0 ⟨0,H',ys,its,k,I',rv,st',hn',w'⟩;rintro n s5 ⟨i,H5,ys,its,k,I5,r5,st5,f5,w5⟩;rcases turn i n ys H5 w5 with ⟨stop,qq⟩|⟨go,step⟩
  .refine thn (T.done C rfl rfl rfl hcalm i _ s5 _ H5 _ I5 (fpk f5) st5 stop) λr s6 ⟨hr,I6⟩=>?_;subst hr;exact fin s6 H5 its k ys I6 r5 qq
  .refine thn (T.item C rfl rfl rfl hcalm i _ s5 _ H5 _ I5 (fpk f5) st5 go) λr s6 ⟨u,hr,h6⟩=>?_;subst hr;refine thn h6 λ_ s7 ⟨x,H7,I7,r7,y7,st7,f7⟩=>?_;let I7':=I7.pinned (fpk f7) (T.obj _ _ st7);let hgg:=hg _ s7 _ H7 x u _ I7' r7 (step x H7 y7);rw[hxe]at hgg;refine thn hgg λ_ s8 ⟨σ8,H8,I8,x8,q8⟩=>?_;let hcc:=hc _ s8 σ8 H8 _ I8 q8;rw[hxe]at hcc;refine thn hcc λok s9 ⟨H9,I9,q9⟩=>?_;let back:∀ {s':Yl} {Hx:Hp},Inv C ((pl++[(D,ze its k)])++Ew fp s7.heap) σ8 Hx s'->tn (i+1) s'.heap /\ ∀ b∈fp,Hx b=none:=λ{s' Hx} Ix=>
    ⟨T.keep _ _ _ st7 λb hb o e=>(Ix.pin (b,o) (Ax _ (Ax _ (EM hb e)))).1,λb hb=>by
     let⟨o,e,d⟩:=T.obj _ _ st7 b hb;calc (Ix.pin (b,o) (Ax _ (Ax _ (EM hb e)))).2.1⟩
   cases ok with
   |false=>
    let⟨m',hm,w'⟩:=q9;let⟨b1,b2⟩:=back I9;calc ⟨m',hm,i+1,H9,ys,its,k,(I9.weak (by rw[x8.1]) x8.2).unpinned,r5,b1,b2,w'⟩
   |true=>
    let hee:=he _ s9 σ8 H9 _ I9 q9;rw[hxe]at hee;refine thn hee λv s10 ⟨y,H10,I10,r10,hlt,m',hm,w'⟩=>?_;let⟨b1,b2⟩:=back I10;let J10:=(I10.weak (by rw[x8.1]) x8.2).unpinned;let⟨e10,n10,ne10,nf10,d10⟩:=J10.pin (D,ze its k) (by simp);let hlen:its.toArray.size<=sizeLine:=by
     have:=r5.length;rw[AU,<-this];exact Ce hlt
    refine wpAny_list_append_plain (show s10.heap.PlainList D its.toArray from ⟨k,e10⟩) λh' hl' hs'=>?_;let⟨k',e'⟩:=hl';let e'':h'.get? D=some (ze (its++[v]) k'):=by rw[e'];simp[ze]
    refine ⟨m',hm,i+1,H10,ys++[y],its++[v],k',?_,r5.append (.cons r10 .nil),T.keep _ _ _ b1 λb hb o e=>hs'.extBut b o (λz=>hDfp (z▸hb)) e,b2,w'⟩;exact Inv.repin J10 hpl hs' hD hcD e'' (by intro v z;ext z)
 let l0:=loop s2 ⟨H2,I2.weak (GW own2 Y) (λi v h=>(F7 own2 Y i v h).1),st2,λb hb=>(f2' b hb).1,w0⟩;calc gW l0 (T.self _ 0 _ _ _ st2 l0)
end
section
variable {pos:Pos}
 {own own2:Yj} {g g2:TG} {tc tc2:TT} {te:TE} {wi wi2:TI} {E:Yc}
theorem Sj:∀ (own:Yj) (Y:St) (j:Nat),j∉own->(clr own Y)[j]?=Y[j]?
 |[],_,_,_=>rfl
 |i::r,Y,j,h=>by
  show (clr r (Y.set i none))[j]?=_;rw[Sj r _ j (λz=>h (Aq _ z)),A6 (λz=>h (by rw[z];calc AZ))]
def nE (hsub:∀ i∈own2,i∈own) (C:CompIn X scope own) (hcalm:X.calm=true) (I:Inv X zB Y H s) (T:Turn X.prog X.w X.K t1 J fp it tn) (st:tn 0 s.heap) (hf:∀ b∈fp,Bd X zB H b)
  (c1:∀ x c,cl.lookup x=some c->X.env.cells.lookup x=some c) (c2:∀ y∈scope.names,y.2=.free->(cl.lookup y.1).isSome=true)
  (hg:PG (zP X zB scope cl s H fp) t1 g) (hi:Dk (zP X zB scope cl s H fp) f1 tc)
  (hi2:PI (zP X zB scope cl s H fp) t2 i2 wi2) (hg2:PG (zP X zB scope cl s H fp) t2 g2) (hc2:Dk (zP X zB scope cl s H fp) f2 tc2) (he:PE (zP X zB scope cl s H fp) elt te)
  (hs2:∀ x,foldedSetIterable i2 (zP X zB scope cl s H fp).env x=pure x)
  {RR:Value->Addr->Result->Shared->Prop} {QQ:List V->Hp->Prop} {W:Nat->Nat->List V->Hp->Prop} {m0:Nat} (w0:W 0 m0 [] H)
  (turn:∀ i m ys H,W i m ys H->(J.stop i H/\ys.length<=sizeLine/\QQ ys H) \/
   (J.go i H /\ ∀ x H',J.yld i H x H'->g x (clr own Y) H' λσ2 H2=>Ext (clr own Y) σ2/\tc σ2 H2 λb H3=>
    if b=true then tIn own2 wi2 g2 tc2 te σ2 H3 ys λzs H4=>∃ m',m'<m/\W (i+1) m' zs H4 else ∃ m',m'<m/\W (i+1) m' ys H3))
  (fin:∀ σc H' s' its n ys,Inv (zP X zB scope cl s H fp) [(⇑s,ze its n)] σc H' s'->za ys its->ys.length<=sizeLine->QQ ys H'->RR (.ref ⇑s) (⇑s+1) (.ok .next) s') :
  wpAny (model X.prog X.w) X.A (newList []) (λacc s₃=>wpAny (model X.prog X.w) X.A (newFunctionEnv scope X.env.globals cl [] X.env.qual none .none (some X.env)) (λcenv s₄=>
   codeAny (model X.prog X.w) X.A (.compStart (Bm elt t1 i1 f1 t2 i2 f2 scope pos) 0 (.ref it) acc { cenv with scope:=relabel scope X.env }) (RR acc cenv.locals) s₄) E s₃) E s:=by
 let ob:∀ b:Nat,b∈fp->b<⇑s:=λb hb=>let ⟨_,e,_⟩:=T.obj 0 _ st b hb;AH e;refine BI (LO ?_);let sz1:(s.heap.push (ze [] 0)).objs.size=⇑s+1:=CF ..;let I4:=LR C.sc I hf ob c1 c2 (GW own Y) (λi x v h1 h2 h3=>by
  let⟨a,b⟩:=F7 own Y i v h2;rcases C.nm i x h1 with z|z|z
  .exact absurd z b
  .exact absurd (Ms x z) h3
  .exact ⟨z,a⟩) (ze [] 0) (by intro v z;ext z) rfl rfl
 let st4:tn 0 (pushCells ((s.heap.push (ze [] 0)).push { cls:=.type "dict", data:=.dict #[] }) scope.names):=T.keep 0 _ _ st λb _ o e=>pushCells_keeps _ _ b o (AG _ (AG _ e));erw[newEnv];rw[sz1];let hDfp:⇑s∉fp:=λz=>BY _ (ob _ z);let hcD:∀ x c,(zP X zB scope cl s H fp).env.cells.lookup x=some c->c≠⇑s:=λx c e z=>by
  let⟨v,o,ho,hd⟩:=I4.cell x c e;let⟨q,_⟩:=I4.pin (⇑s,ze [] 0) (by simp);rw[z,q]at ho;ext ho;ext hd
 let fpk:∀ {H':Hp} {pl:Yd},(∀ b∈fp,H' b=none)->(∀ p∈pl,p.1=⇑s) -> ∀ b∈fp,Bd (zP X zB scope cl s H fp) pl H' b:=λ{H' pl} hn hp b hb=>
  ⟨hn b hb,(I4.ok.exf b hb).1,I4.ok.exfs b hb,.inl hb,(I4.ok.exf b hb).2,λp hq=>by
   rcases AO.mp hq with z|z
   .exact (hf b hb).2.2.2.2.2 p z
   .intro e;let e2:=hp p z;rw[e]at e2;calc hDfp (e2▸hb)⟩
 let loop:codeAny (model X.prog X.w) X.A (.compLoop (Bm elt t1 i1 f1 t2 i2 f2 scope pos) 0 (.ref it) (.ref ⇑s) (zP X zB scope cl s H fp).env) (RR (.ref ⇑s) (⇑s+1))
   { s with heap:=pushCells ((s.heap.push (ze [] 0)).push { cls:=.type "dict", data:=.dict #[] }) scope.names }:=by
  refine VE hs2 (λn s'=>∃ i H' ys its k,Inv (zP X zB scope cl s H fp) [(⇑s,ze its k)] (clr own Y) H' s'/\za ys its/\tn i s'.heap/\(∀ b∈fp,H' b=none)/\W i n ys H') ?_ m0
   ⟨0,H,[],[],0,I4,.nil,st4,λb hb=>(hf b hb).1,w0⟩
  rintro n s5 ⟨i,H5,ys,its,k,I5,r5,st5,f5,w5⟩;let pinD:∀ p∈[(⇑s,ze its k)],p.1=⇑s:=λp hp=>by
   have:p=(⇑s,ze its k):=by simpa using hp
   rw[this]
  rcases turn i n ys H5 w5 with ⟨stop,hz,qq⟩|⟨go,step⟩
  .refine thn (T.done (zP X zB scope cl s H fp) rfl rfl rfl hcalm i _ s5 _ H5 _ I5 (fpk f5 pinD) st5 stop) λr s6 ⟨hr,I6⟩=>?_;subst hr;exact fin _ H5 s6 its k ys I6 r5 hz qq
  .refine thn (T.item (zP X zB scope cl s H fp) rfl rfl rfl hcalm i _ s5 _ H5 _ I5 (fpk f5 pinD) st5 go) λr s6 ⟨u,hr,h6⟩=>?_;subst hr;refine thn h6 λ_ s7 ⟨x,H7,I7,r7,y7,st7,f7⟩=>?_;let I7':=I7.pinned (fpk f7 pinD) (T.obj _ _ st7);refine thn (hg _ s7 _ H7 x u _ I7' r7 (step x H7 y7)) λ_ s8 ⟨σ8,H8,I8,x8,q8⟩=>?_;refine thn (hi _ s8 σ8 H8 _ I8 q8) λok s9 ⟨H9,I9,q9⟩=>?_;let back:∀ {σx:St} {s':Yl} {Hx:Hp} {its:Yf} {k:Nat},(clr own Y).length=σx.length->(∀ (i:Nat) v,(clr own Y)[i]?=some (some v)->σx[i]?=some (some v))->Inv (zP X zB scope cl s H fp) (Ew fp s7.heap++[(⇑s,ze its k)]) σx Hx s'->Inv (zP X zB scope cl s H fp) [(⇑s,ze its k)] (clr own Y) Hx s'/\tn (i+1) s'.heap /\ ∀ b∈fp,Hx b=none:=λ{σx s' Hx its k} hl hk Ix=>
    ⟨(Ix.weak hl hk).pins_of λp hp=>Ix.pin p (Ax _ (Ax _ hp)),
     T.keep _ _ _ st7 λb hb o e=>(Ix.pin (b,o) (Ax _ (Cm _ (EM hb e)))).1,λb hb=>by
     let⟨o,e,d⟩:=T.obj _ _ st7 b hb;calc (Ix.pin (b,o) (Ax _ (Cm _ (EM hb e)))).2.1⟩
   let I9':Inv (zP X zB scope cl s H fp) (Ew fp s7.heap++[(⇑s,ze its k)]) σ8 H9 s9:=I9.pins_of λp hp=>I9.pin p (Ax _ (by
    rcases AO.mp hp with z|z
    .exact Ax _ z
    .exact Cm _ z))
   cases ok with
   |false=>
    let⟨m',hm,w'⟩:=q9;let⟨b0,b1,b2⟩:=back (by rw[x8.1]) x8.2 I9';calc ⟨m',hm,i+1,H9,ys,its,k,b0,r5,b1,b2,w'⟩
   |true=>
    refine iK (C:=zP X zB scope cl s H fp) rfl hcalm hi2 hg2 hc2 he (AF _) hcD (λp hp=>?_) I9' r5 q9 λs' H' its' k' zs I' rv' q'=>?_
    .rcases AO.mp hp with z|z
     .exact Ad (AH (I.pin p z).1)
     .obtain ⟨hb,_⟩:=QJ z;exact Ad (ob _ hb)
    .obtain ⟨m',hm,w'⟩:=q';let⟨b0,b1,b2⟩:=back (by rw[GW own2,x8.1]) (λi v hv=>by rw[Sj own2 _ i (λz=>(F7 own Y i v hv).2 (hsub i z))];calc x8.2 i v hv) I';exact ⟨rfl,m',hm,i+1,H',zs,its',k',b0,rv',b1,b2,w'⟩
 calc codeAny_compStart_list loop (T.self _ 0 _ _ _ st4 loop)
def Q6 (own own2:Yj) (wi:TI) (g:TG) (tc:TT) (wi2:TI) (g2:TG) (tc2:TT) (te:TE):TE:=λY H Q=>wi Y H λJ H1=>∃ W:Nat->Nat->List V->Hp->Prop,(∃ m,W 0 m [] H1) /\ ∀ i m ys H,W i m ys H ->
 (J.stop i H/\ys.length<=sizeLine /\ ∀ D,H D=none->Q (.ref D) (upd H D (.lst ys))) \/
 (J.go i H /\ ∀ x H',J.yld i H x H'->g x (clr own Y) H' λσ2 H2=>Ext (clr own Y) σ2/\tc σ2 H2 λb H3=>
  if b=true then tIn own2 wi2 g2 tc2 te σ2 H3 ys λzs H4=>∃ m',m'<m/\W (i+1) m' zs H4 else ∃ m',m'<m/\W (i+1) m' ys H3)
structure CompParts2 (X:Cx) (scope:Y0) (t1:Expr) (f1:Yi) (t2 i2:Expr) (f2:Yi) (elt:Expr) (g:TG) (tc:TT) (wi2:TI) (g2:TG) (tc2:TT) (te:TE):Prop where
 g:∀ zB cl s H fp,PG (zP X zB scope cl s H fp) t1 g
 c:∀ zB cl s H fp,Dk (zP X zB scope cl s H fp) f1 tc
 w2:∀ zB cl s H fp,PI (zP X zB scope cl s H fp) t2 i2 wi2
 g2:∀ zB cl s H fp,PG (zP X zB scope cl s H fp) t2 g2
 c2:∀ zB cl s H fp,Dk (zP X zB scope cl s H fp) f2 tc2
 e:∀ zB cl s H fp,PE (zP X zB scope cl s H fp) elt te
 s2:∀ zB cl s H fp x,foldedSetIterable i2 (zP X zB scope cl s H fp).env x=pure x
def fU (hsub:∀ i∈own2,i∈own) (C:CompIn X scope own) (hcalm:X.calm=true) (hi:PI X t1 i1 wi) (p:CompParts2 X scope t1 f1 t2 i2 f2 elt g tc wi2 g2 tc2 te) (hs:∀ x,foldedSetIterable i1 X.env x=pure x:=by intro _;rfl) :
  PE X (Bm elt t1 i1 f1 t2 i2 f2 scope pos) (Q6 own own2 wi g tc wi2 g2 tc2 te):=by
 intro zB s Y H Q I h;let⟨cl,hcl,c1,c2⟩:=C.sc.closure I;rw[eval_ListComp];refine wpAny_comprehension_free rfl hs hcl C.sc.kind C.sc.names (thn (hi zB s Y H _ I h) λv s1 h1=>thn h1 λitv s2 h2=>?_);let⟨it,fp,tn,J,H2,e,I2,T,st2,f2,W,⟨m0,w0⟩,turn⟩:=h2;subst e;calc nE hsub C hcalm I2 T st2 f2 c1 c2 (p.g _ _ _ _ _) (p.c _ _ _ _ _) (p.w2 _ _ _ _ _) (p.g2 _ _ _ _ _) (p.c2 _ _ _ _ _) (p.e _ _ _ _ _) (p.s2 _ _ _ _ _) w0 turn ?_;intro σc H' s' its n ys Ic rv hz qq;let⟨m,hn,_⟩:=Ic.loc;refine ⟨m,hn,λh' hs'=>?_⟩;let⟨J',nD⟩:=Nb I2 f2 Ic rv hz hs';calc ⟨.ref ⇑s2,_,J',rfl,qq _ nD⟩
end
end L2
namespace L3
open L2
abbrev Sv:=List (Option V)
def Dh (H:Hp) (v:Yu):Prop:=∃ a oc vs q t,v=.ref a/\H a=some (.frz oc (.ext λ_=>True))/\oc.data=.fields vs/\vs[1]?=some (.str q t)
structure Lm where
 f:Addr
 c:Value
 us:List V
set_option genInjectivity true in
inductive D where
 |non|bl (b:Bool)|int (i:Int)|str (x:Str)|tup (xs:List D)|ref (n:Nat)|fn (l:Lm) (ds:List D)
set_option genInjectivity true in
inductive MO where
 |lst (xs:List D)|fro (xs:List D)|dict (kvs:List (D × D))|dicT (kvs:List (D × D))|set (xs:List D)|froT (kvs:List (D × D))|froK (kvs:List (D × D))
mutual
def Rep (L:Yg) (H:Hp):D->V->Prop
 |.non,v=>v=.non
 |.bl b,v=>v=.bl b
 |.int i,v=>v=.int i
 |.str x,v=>v=.str x
 |.tup ds,v=>∃ a vs,v=.ref a/\H a=some (.tup vs)/\zI L H ds vs
 |.ref n,v=>∃ a,v=.ref a/\L[n]?=some a
 |.fn l ds,v=>v=.ref l.f/\Dh H l.c/\zI L H ds l.us
def zI (L:Yg) (H:Hp):List D->List V->Prop
 |[],vs=>vs=[]
 |d::ds,vs=>∃ v r,vs=v::r/\Rep L H d v/\zI L H ds r
end
def zI.length:∀ {ds:List D} {vs:List V},zI L H ds vs->vs.length=ds.length
 |[],_,h=>by erw[zI]at h;subst h;rfl
 |d::ds,_,h=>by
  erw[zI]at h;let⟨v,r,rfl,_,h2⟩:=h;simp[zI.length h2]
def zI.nil:zI L H [] []:=by erw[zI];rfl
def zI.cons (h:Rep L H d v) (t:zI L H ds vs):zI L H (d::ds) (v::vs):=by
 erw[zI];calc ⟨v,vs,rfl,h,t⟩
def zI.get:∀ {ds:List D} {vs:List V} {i:Nat} {d:D},zI L H ds vs->ds[i]?=some d -> ∃ v,vs[i]?=some v/\Rep L H d v
 |[],_,_,_,_,e=>by simp at e
 |d::ds,_,0,d',h,e=>by
  erw[zI]at h;let⟨v,r,rfl,h1,h2⟩:=h;simp at e;subst e;calc ⟨v,rfl,h1⟩
 |d::ds,_,i+1,d',h,e=>by
  erw[zI]at h;let⟨v,r,rfl,h1,h2⟩:=h;let⟨u,e1,e2⟩:=zI.get (i:=i) h2 (~~~e);calc ⟨u,by simpa using e1,e2⟩
def zI.app:∀ {ds es:List D} {vs ws:List V},zI L H ds vs->zI L H es ws->zI L H (ds++es) (vs++ws)
 |[],_,_,_,h,t=>by erw[zI]at h;subst h;calc t
 |d::ds,_,_,_,h,t=>by
  erw[zI]at h;let⟨v,r,rfl,h1,h2⟩:=h;calc .cons h1 (zI.app h2 t)
def zI.set (h:Rep L H d v):∀ {ds:List D} {vs:List V} (i:Nat),zI L H ds vs->zI L H (ds.set i d) (vs.set i v)
 |[],_,_,t=>by erw[zI]at t;subst t;calc .nil
 |_::_,_,0,t=>by
  erw[zI]at t;let⟨v',r,rfl,h1,h2⟩:=t;calc .cons h h2
 |_::_,_,i+1,t=>by
  erw[zI]at t;let⟨v',r,rfl,h1,h2⟩:=t;calc .cons h1 (zI.set h i h2)
def zI.drop:∀ {ds:List D} {vs:List V} (n:Nat),zI L H ds vs->zI L H (ds.drop n) (vs.drop n)
 |_,_,0,t=>t
 |[],_,n+1,t=>by erw[zI]at t;subst t;calc .nil
 |_::_,_,n+1,t=>by
  erw[zI]at t;let⟨v',r,rfl,h1,h2⟩:=t;calc zI.drop n h2
def zI.take:∀ {ds:List D} {vs:List V} (n:Nat),zI L H ds vs->zI L H (ds.take n) (vs.take n)
 |_,_,0,t=> .nil
 |[],_,n+1,t=>by erw[zI]at t;subst t;calc .nil
 |_::_,_,n+1,t=>by
  erw[zI]at t;let⟨v',r,rfl,h1,h2⟩:=t;calc .cons h1 (zI.take n h2)
def Dh.keep (h:∀ a o u,H a=some (.frz o u)->H' a=some (.frz o u)) (x:Dh H v):Dh H' v :=
 let ⟨a,oc,vs,q,t,e1,e2,r⟩:=x;⟨a,oc,vs,q,t,e1,h _ _ _ e2,r⟩
def Ee (H:Hp) (ps:Yp):Prop:=PySem.TriplesOk ps.toList /\ ∀ pos v,codeAmong pos ps.toList=some v->Dh H v
def Ee.keep (h:∀ a o u,H a=some (.frz o u)->H' a=some (.frz o u)) (g:Ee H ps):Ee H' ps :=
 ⟨g.1,λpos v e=>(g.2 pos v e).keep h⟩
abbrev NT (o:HO):Prop:=∀ ps,o≠.tbl ps
structure Stp (L:Yg) (H:Hp) (L':Yg) (H':Hp):Prop where
 pre:∃ N,L'=L++N
 new:∀ a∈L',a∈L\/H a=none
 old:∀ a o,H a=some o->a∉L->NT o->H' a=some o
 tup:∀ a xs,H a=some (.tup xs)->H' a=some (.tup xs)
 frz:∀ a o u,H a=some (.frz o u)->H' a=some (.frz o u)
 tbl:∀ a ps,H a=some (.tbl ps) -> ∃ ps',H' a=some (.tbl ps')/\(Ee H ps->Ee H' ps')
def Stp.refl (L:Yg) (H:Hp):Stp L H L H:=⟨⟨[],by simp⟩,λ_ h=> .inl h,λ_ _ h _ _=>h,λ_ _ h=>h,λ_ _ _ h=>h,λ_ ps h=>⟨ps,h,id⟩⟩
def JJ (hf:∀ a o u,H a=some (.frz o u)->H' a=some (.frz o u)) (h:∀ a ps,H a=some (.tbl ps)->H' a=some (.tbl ps)) :
  ∀ a ps,H a=some (.tbl ps) -> ∃ ps',H' a=some (.tbl ps')/\(Ee H ps->Ee H' ps'):=λa ps e=>⟨ps,h a ps e,.keep hf⟩
def Stp.trans (a:Stp L H L1 H1) (b:Stp L1 H1 L2 H2):Stp L H L2 H2:=by
 let⟨N,rfl⟩:=a.pre;let⟨N',rfl⟩:=b.pre;let back:∀ c,c∉L->H1 c=none->H c=none:=λc hc h1=>by
  cases q:H c with
  |none=>rfl
  |some o=>
   by_cases z:NT o
   .rw[a.old c o q hc z]at h1;ext h1
   .obtain ⟨ps,z⟩:=Classical.not_forall.mp z;rw[Classical.not_not.mp z]at q;let⟨ps',e,_⟩:=a.tbl c ps q;rw[e]at h1;ext h1
 refine ⟨⟨N++N',by simp⟩,λc hc=>?_,λc o e hc nt=>?_,λc xs e=>b.tup c xs (a.tup c xs e),λc o u e=>b.frz c o u (a.frz c o u e),λc ps e=>?_⟩
 .by_cases hL:c∈L
  .exact .inl hL
  .rcases b.new c hc with z|z
   .exact a.new c z
   .exact .inr (back c hL z)
 .refine b.old c o (a.old c o e hc nt) (λz=>?_) nt;rcases a.new c z with q|q
  .exact hc q
  .rw[q]at e;ext e
 .obtain ⟨p1,e1,g1⟩:=a.tbl c ps e;let⟨p2,e2,g2⟩:=b.tbl c p1 e1;calc ⟨p2,e2,λg=>g2 (g1 g)⟩
def Stp.grow (h:∀ a o,H a=some o->H' a=some o):Stp L H L H':=⟨⟨[],by simp⟩,λ_ h=> .inl h,λa o e _ _=>h a o e,λa _ e=>h a _ e,λa _ _ e=>h a _ e,JJ (λa _ _ e=>h a _ e) λa _ e=>h a _ e⟩
def Stp.bare (s:Stp [] H N H'):Stp L H L H':=⟨⟨[],by simp⟩,λ_ h=> .inl h,λa o e _ nt=>s.old a o e (by simp) nt,s.tup,s.frz,s.tbl⟩
theorem Stp.upd (h:H p=none):Stp L H L (upd H p o):=.grow λa u e=>by rw[zU (zm e h)];calc e
def Gm {L N:Yg} {n:Nat} {a:Yt} (h:L[n]?=some a):(L++N)[n]?=some a:=by
 rw[AY (AK.mp h).1];calc h
mutual
theorem Rep.stp {L L':Yg} {H H':Hp} (s:Stp L H L' H'):∀ {d:D} {v:V},Rep L H d v->Rep L' H' d v
 |.non,_,h=>by unfold Rep at h ⊢;calc h
 |.bl _,_,h=>by unfold Rep at h ⊢;calc h
 |.int _,_,h=>by unfold Rep at h ⊢;calc h
 |.str _,_,h=>by unfold Rep at h ⊢;calc h
 |.tup ds,_,h=>by
  unfold Rep at h ⊢;let⟨a,vs,rfl,e,r⟩:=h;calc ⟨a,vs,rfl,s.tup a vs e,zI.stp s r⟩
 |.ref n,_,h=>by
  unfold Rep at h ⊢;let⟨a,rfl,e⟩:=h;let⟨N,rfl⟩:=s.pre;calc ⟨a,rfl,Gm e⟩
 |.fn _ ds,_,h=>by
  unfold Rep at h ⊢;calc ⟨h.1,h.2.1.keep s.frz,zI.stp s h.2.2⟩
theorem zI.stp (s:Stp L H L' H'):∀ {ds:List D} {vs:List V},zI L H ds vs->zI L' H' ds vs
 |[],_,h=>by unfold zI at h ⊢;calc h
 |d::ds,_,h=>by
  unfold zI at h ⊢;let⟨v,r,rfl,h1,h2⟩:=h;calc ⟨v,r,rfl,Rep.stp s h1,zI.stp s h2⟩
end
def Bu:D->Option Key
 |.int i=>some (.inl i)
 |.str x=>some (.inr x)
 |_=>none
def C1:List D->Option (List Key)
 |[]=>some []
 |d::r=>match Bu d,C1 r with
  |some k,some ks=>some (k::ks)
  |_,_=>none
def tkD:D->Option (List Key)
 |.tup ds=>C1 ds
 |_=>none
def AQ {κ:Type} (kf:D->Option κ) (L:Yg) (H:Hp):List (D × D)->List (κ × V)->Prop
 |[],vs=>vs=[]
 |p::r,vs=>∃ k v r',vs=(k,v)::r'/\kf p.1=some k/\Rep L H p.2 v/\AQ kf L H r r'
def AQ.stp {κ:Type} {kf:D->Option κ} {L L':Yg} {H H':Hp} (s:Stp L H L' H'):∀ {ps:List (D × D)} {vs:List (κ × V)},AQ kf L H ps vs->AQ kf L' H' ps vs
 |[],_,h=>h
 |p::r,_,h=>by
  let⟨k,v,r',rfl,e,h1,h2⟩:=h;calc ⟨k,v,r',rfl,e,h1.stp s,AQ.stp s h2⟩
def AQ.length {κ:Type} {kf:D->Option κ} {L:Yg} {H:Hp}:∀ {ps:List (D × D)} {vs:List (κ × V)},AQ kf L H ps vs->vs.length=ps.length
 |[],_,h=>by erw[AQ]at h;subst h;rfl
 |p::r,_,h=>by
  let⟨k,v,r',rfl,e,h1,h2⟩:=h;simp[AQ.length h2]
def CL (K:Yb) (L:Yg) (H:Hp) (a:Yt):MO->Prop
 |.lst xs=>∃ vs,H a=some (.lst vs)/\zI L H xs vs
 |.fro xs=>∃ o vs,H a=some (.frz o (.lst vs))/\zI L H xs vs
 |.dict ps=>∃ vs,H a=some (.dK vs)/\AQ Bu L H ps vs
 |.dicT ps=>∃ vs,H a=some (.dT vs)/\AQ tkD L H ps vs
 |.set _=>∃ o u,H a=some (.frz o u)
 |.froT ps=>∃ o vs,H a=some (.frz o (.dT vs))/\AQ tkD L H ps vs
 |.froK ps=>∃ o vs,H a=some (.frz o (.dK vs))/\AQ Bu L H ps vs
def CL.there {K:Yb} {L:Yg} {H:Hp} {a:Yt} {m:MO} (h:CL K L H a m):∃ o,H a=some o:=by
 cases m with
 |lst xs=>let⟨vs,e,_⟩:=h;calc ⟨_,e⟩
 |fro xs=>let⟨o,vs,e,_⟩:=h;calc ⟨_,e⟩
 |dict ps=>let⟨vs,e,_⟩:=h;calc ⟨_,e⟩
 |dicT ps=>let⟨vs,e,_⟩:=h;calc ⟨_,e⟩
 |set _=>let⟨o,u,e⟩:=h;calc ⟨_,e⟩
 |froT ps=>let⟨o,vs,e,_⟩:=h;calc ⟨_,e⟩
 |froK ps=>let⟨o,vs,e,_⟩:=h;calc ⟨_,e⟩
def CL.stp {K:Yb} {L L':Yg} {H H':Hp} {a:Yt} {m:MO} (s:Stp L H L' H') (hk:∀ o,NT o->H a=some o->H' a=some o) (h:CL K L H a m):CL K L' H' a m:=by
 cases m with
 |lst xs=>let⟨vs,e,r⟩:=h;calc ⟨vs,hk _ (by intro _ z;ext z) e,r.stp s⟩
 |fro xs=>let⟨o,vs,e,r⟩:=h;calc ⟨o,vs,hk _ (by intro _ z;ext z) e,r.stp s⟩
 |dict ps=>let⟨vs,e,r⟩:=h;calc ⟨vs,hk _ (by intro _ z;ext z) e,r.stp s⟩
 |dicT ps=>let⟨vs,e,r⟩:=h;calc ⟨vs,hk _ (by intro _ z;ext z) e,r.stp s⟩
 |set _=>let⟨o,u,e⟩:=h;calc ⟨o,u,hk _ (by intro _ z;ext z) e⟩
 |froT ps=>let⟨o,vs,e,r⟩:=h;calc ⟨o,vs,hk _ (by intro _ z;ext z) e,r.stp s⟩
 |froK ps=>let⟨o,vs,e,r⟩:=h;calc ⟨o,vs,hk _ (by intro _ z;ext z) e,r.stp s⟩
def GU:List Str:=["levels", "least_word", "word_into", "shows_least", "shows_into"]
def G4 (K:Yb) (H:Hp):Prop:=∀ x∈GU,∀ c P,PySem.W.tabIn K x=some (c,P) -> ∃ ps,H P=some (.tbl ps)/\Ee H ps
def G4.stp {K:Yb} {L L':Yg} {H H':Hp} (s:Stp L H L' H') (t:G4 K H):G4 K H':=λx hx c P e=>
 let ⟨ps,e1,g⟩:=t x hx c P e;let ⟨ps',e2,g2⟩:=s.tbl P ps e1
 ⟨ps',e2,g2 g⟩
structure Cor (K:Yb) (L:Yg) (M:List MO) (H:Hp):Prop where
 len:L.length=M.length
 nd:L.Nodup
 obj:∀ (n:Nat) a m,L[n]?=some a->M[n]?=some m->CL K L H a m
 tab:G4 K H
def Al (L:Yg) (H:Hp) (Y:List (Option D)) (τ:Sv):Prop:=τ.length=Y.length /\ ∀ (i:Nat) d,Y[i]?=some (some d) -> ∃ v,τ[i]?=some (some v)/\Rep L H d v
def Al.stp (s:Stp L H L' H') (h:Al L H Y τ):Al L' H' Y τ :=
 ⟨h.1,λi d e=>let ⟨v,e1,r⟩:=h.2 i d e;⟨v,e1,r.stp s⟩⟩
def Cor.tracked {K:Yb} {L:Yg} {M:List MO} {H:Hp} (c:Cor K L M H) {a:Yt} (h:a∈L):∃ o,H a=some o:=by
 let⟨n,hn⟩:=List.getElem?_of_mem h;let hl:n<M.length:=by rw[<-c.len];exact (AK.mp hn).1
 let m:=c.obj n a M[n] hn (AL hl);calc m.there
def Cor.grow {K:Yb} {L:Yg} {M:List MO} {H H':Hp} (c:Cor K L M H) (h:∀ a o,H a=some o->H' a=some o):Cor K L M H':=by
 calc ⟨c.len,c.nd,λn a m e1 e2=>(c.obj n a m e1 e2).stp (.grow h) λo _ e=>h a o e,c.tab.stp (Stp.grow (L:=L) h)⟩
def Cor.bare {K:Yb} {L N:Yg} {M:List MO} {H H':Hp} (c:Cor K L M H) (s:Stp [] H N H'):Cor K L M H' :=
 ⟨c.len,c.nd,λn a m e1 e2=>(c.obj n a m e1 e2).stp s.bare λo nt e=>s.old a o e (by simp) nt,c.tab.stp s⟩
theorem Cor.upd {K:Yb} {L:Yg} {M:List MO} {H:Hp} {p:Yt} {o:HO} (c:Cor K L M H) (h:H p=none):Cor K L M (upd H p o):=c.grow λa u e=>by rw[zU (zm e h)];calc e
def Cor.write {K:Yb} {L:Yg} {M:List MO} {H:Hp} {n:Nat} {p:Yt} {xs xs':List D} {vs':List V} (c:Cor K L M H) (h1:L[n]?=some p) (h2:M[n]?=some (.lst xs)) (r:zI L H xs' vs') :
  Cor K L (M.set n (.lst xs')) (L2.upd H p (.lst vs'))/\Stp L H L (L2.upd H p (.lst vs')):=by
 let⟨vs,hp,_⟩:=c.obj n p _ h1 h2;let st:Stp L H L (L2.upd H p (.lst vs')):=by
  refine ⟨⟨[],by simp⟩,λa ha=> .inl ha,λa o e ha _=>?_,λa o e=>?_,λa o u e=>?_,JJ (λa o u e=>?_) λa ps e=>?_⟩
  .rw[zU (show a≠p from λz=>ha (by rw[z];calc BD h1))];exact e
  all_goals (rw[zU (DT e hp (by intro z;ext z))];calc e)
 refine ⟨⟨by simp[c.len],c.nd,λk a m e1 e2=>?_,c.tab.stp st⟩,st⟩;rw[FC]at e2;cbv at e2
 .rename_i hk;subst hk;rw[h1]at e1;ext e1;cbv at e2
  .cases e2;exact ⟨vs',zp,r.stp st⟩
  .cases e2
 .rename_i hk;let hne:a≠p:=λz=>hk (by
   subst z;calc (List.getElem?_inj (AK.mp h1).1 c.nd).mp (h1.trans e1.symm))
  exact (c.obj k a m e1 e2).stp st λo _ e=>by rw[zU hne];exact e
set_option genInjectivity true in
inductive EV where
 |dat (d:D)|fl (xs:List D)
def zX (H0:Hp) (L:Yg) (H:Hp):EV->V->Prop
 |.dat d,v=>Rep L H d v
 |.fl xs,v=>∃ p vs,v=.ref p/\H0 p=none/\H p=some (.lst vs)/\p∉L/\zI L H xs vs
abbrev Sd:=List (Option D)
abbrev Mem:=List MO
abbrev FE:=Sd->Mem->Option (EV × Mem)
abbrev FD:=Sd->Mem->Option (D × Mem)
abbrev FT:=Sd->Mem->Option (Bool × Mem)
abbrev FA:=Sd->Mem->Option (List D × Mem)
def Stp.there {L L':Yg} {H H':Hp} (s:Stp L H L' H') {p:Yt} {o:HO} (h:H p=some o) (hp:p∉L):∃ o',H' p=some o':=by
  by_cases z:NT o
  .exact ⟨o,s.old p o h hp z⟩
  . let⟨ps,z⟩:=Classical.not_forall.mp z
    rw[Classical.not_not.mp z]at h;let⟨ps',e,_⟩:=s.tbl p ps h;calc ⟨_,e⟩
def Stp.out (s:Stp L H L' H') (h:H p=some o) (hp:p∉L):p∉L':=λz=>by
 rcases s.new p z with q|q
 .exact hp q
 .rw[h]at q;ext q
def zX.stp (s:Stp L H L' H') (h:zX H0 L H e v):zX H0 L' H' e v:=by
 cases e with
 |dat d=>calc Rep.stp s h
 |fl xs=>
  let⟨p,vs,rfl,e0,e1,e2,r⟩:=h;calc ⟨p,vs,rfl,e0,s.old p _ e1 e2 (by intro _ z;ext z),s.out e1 e2,r.stp s⟩
def zX.back {H0 H1:Hp} {L0 L1 L:Yg} {H:Hp} (s:Stp L0 H0 L1 H1) {M:List MO} {K:Yb} (c:Cor K L0 M H0) {e:EV} {v:V} (h:zX H1 L H e v) (hL:∀ a∈L1,a∈L):zX H0 L H e v:=by
 cases e with
 |dat d=>calc h
 |fl xs=>
  let⟨p,vs,rfl,e0,e1,e2,r⟩:=h;calc ⟨p,vs,rfl,?_,e1,e2,r⟩;cases q:H0 p with
  |none=>rfl
  |some o=>
   by_cases hp:p∈L0
   .obtain ⟨N,hN⟩:=s.pre;exact absurd (hL p (by rw[hN];calc Cm _ hp)) e2
   .obtain ⟨o',z⟩:=s.there q hp;rw[z]at e0;ext e0
section
variable (K:Yb)
def trE (f:FE):TE:=λτ H Q=>∃ L Y M d M',Cor K L M H/\Al L H Y τ/\f Y M=some (d,M') /\ ∀ L' H' v,Stp L H L' H'->Cor K L' M' H'->zX H L' H' d v->Q v H'
def trD (f:FD):TE:=λτ H Q=>∃ L Y M d M',Cor K L M H/\Al L H Y τ/\f Y M=some (d,M') /\ ∀ L' H' v,Stp L H L' H'->Cor K L' M' H'->Rep L' H' d v->Q v H'
def trT (f:FT):TT:=λτ H Q=>∃ L Y M d M',Cor K L M H/\Al L H Y τ/\f Y M=some (d,M') /\ ∀ L' H',Stp L H L' H'->Cor K L' M' H'->Q d H'
def trA (f:FA):TA:=λτ H Q=>∃ L Y M ds M',Cor K L M H/\Al L H Y τ/\f Y M=some (ds,M') /\ ∀ L' H' vs,Stp L H L' H'->Cor K L' M' H'->zI L' H' ds vs->Q vs H'
end
def mkE {K:Yb} {f:FE} {τ:Sv} {H:Hp} {Q:VK} {Y:Sd} {M M':Mem} {d:EV} (c:Cor K L M H) (r:Al L H Y τ) (e:f Y M=some (d,M')) (q:∀ L' H' v,Stp L H L' H'->Cor K L' M' H'->zX H L' H' d v->Q v H'):trE K f τ H Q:=⟨_,_,_,_,_,c,r,e,q⟩
def mkD {K:Yb} {f:FD} {τ:Sv} {H:Hp} {Q:VK} {Y:Sd} {M M':Mem} {d:D} (c:Cor K L M H) (r:Al L H Y τ) (e:f Y M=some (d,M')) (q:∀ L' H' v,Stp L H L' H'->Cor K L' M' H'->Rep L' H' d v->Q v H'):trD K f τ H Q:=⟨_,_,_,_,_,c,r,e,q⟩
def mkT {K:Yb} {f:FT} {τ:Sv} {H:Hp} {Q} {Y:Sd} {M M':Mem} {d} (c:Cor K L M H) (r:Al L H Y τ) (e:f Y M=some (d,M')) (q:∀ L' H',Stp L H L' H'->Cor K L' M' H'->Q d H'):trT K f τ H Q:=⟨_,_,_,_,_,c,r,e,q⟩
def mkA {K:Yb} {f:FA} {τ:Sv} {H:Hp} {Q} {Y:Sd} {M M':Mem} {ds} (c:Cor K L M H) (r:Al L H Y τ) (e:f Y M=some (ds,M')) (q:∀ L' H' vs,Stp L H L' H'->Cor K L' M' H'->zI L' H' ds vs->Q vs H'):trA K f τ H Q:=⟨_,_,_,_,_,c,r,e,q⟩
def PE.imp (h:PE X e t) (hi:∀ τ H Q,t' τ H Q->t τ H Q):PE X e t':=λzB s Y H Q I q=>h zB s Y H Q I (hi _ _ _ q)
def PT.imp (h:PT X e t) (hi:∀ τ H Q,t' τ H Q->t τ H Q):PT X e t':=λzB s Y H Q I q=>h zB s Y H Q I (hi _ _ _ q)
def PS.imp {st:Stmt} {t t':TS} (h:PS X st t) (hi:∀ D τ H,t' D τ H->t D τ H):PS X st t':=λzB s Y H D I q=>h zB s Y H D I (hi _ _ _ q)
def PSs.imp {st:Yy} {t t':TS} (h:PSs X st t) (hi:∀ D τ H,t' D τ H->t D τ H):PSs X st t':=λzB s Y H D I q=>h zB s Y H D I (hi _ _ _ q)
structure QE (X:Cx) (e:Expr) (f:FE):Prop where
 un:PE X e (trE X.K f)
structure QD (X:Cx) (e:Expr) (f:FD):Prop where
 un:PE X e (trD X.K f)
structure QT (X:Cx) (e:Expr) (f:FT):Prop where
 un:PT X e (trT X.K f)
structure QA (X:Cx) (es:Yi) (f:FA):Prop where
 un:PA X es (trA X.K f)
def toD (f:FE):FD:=λY M=>match f Y M with
 |some (.dat d,M')=>some (d,M')
 |some (.fl xs,M')=>some (.ref M'.length,M'++[.lst xs])
 |none=>none
mutual
theorem Rep.more (N:Yg):∀ {d:D} {v:V},Rep L H d v->Rep (L++N) H d v
 |.non,_,h=>by unfold Rep at h ⊢;calc h
 |.bl _,_,h=>by unfold Rep at h ⊢;calc h
 |.int _,_,h=>by unfold Rep at h ⊢;calc h
 |.str _,_,h=>by unfold Rep at h ⊢;calc h
 |.tup ds,_,h=>by
  unfold Rep at h ⊢;let⟨a,vs,rfl,e,r⟩:=h;calc ⟨a,vs,rfl,e,zI.more N r⟩
 |.ref n,_,h=>by
  unfold Rep at h ⊢;let⟨a,rfl,e⟩:=h;calc ⟨a,rfl,Gm e⟩
 |.fn _ ds,_,h=>by
  unfold Rep at h ⊢;calc ⟨h.1,h.2.1,zI.more N h.2.2⟩
theorem zI.more (N:Yg):∀ {ds:List D} {vs:List V},zI L H ds vs->zI (L++N) H ds vs
 |[],_,h=>by unfold zI at h ⊢;calc h
 |d::ds,_,h=>by
  unfold zI at h ⊢;let⟨v,r,rfl,h1,h2⟩:=h;calc ⟨v,r,rfl,Rep.more N h1,zI.more N h2⟩
end
def AQ.more {κ:Type} {kf:D->Option κ} {L:Yg} {H:Hp} (N:Yg):∀ {ps:List (D × D)} {vs:List (κ × V)},AQ kf L H ps vs->AQ kf (L++N) H ps vs
 |[],_,h=>h
 |p::r,_,h=>by
  let⟨k,v,r',rfl,e,h1,h2⟩:=h;calc ⟨k,v,r',rfl,e,h1.more N,AQ.more N h2⟩
def CL.more {K:Yb} {L:Yg} {H:Hp} {a:Yt} {m:MO} (N:Yg) (h:CL K L H a m):CL K (L++N) H a m:=by
 cases m with
 |lst xs=>let⟨vs,e,r⟩:=h;calc ⟨vs,e,r.more N⟩
 |fro xs=>let⟨o,vs,e,r⟩:=h;calc ⟨o,vs,e,r.more N⟩
 |dict ps=>let⟨vs,e,r⟩:=h;calc ⟨vs,e,r.more N⟩
 |dicT ps=>let⟨vs,e,r⟩:=h;calc ⟨vs,e,r.more N⟩
 |set _=>calc h
 |froT ps=>let⟨o,vs,e,r⟩:=h;calc ⟨o,vs,e,r.more N⟩
 |froK ps=>let⟨o,vs,e,r⟩:=h;calc ⟨o,vs,e,r.more N⟩
def Qa {K:Yb} {L L':Yg} {M':List MO} {H H':Hp} {p:Yt} {xs:List D} {vs:List V} (s:Stp L H L' H') (c:Cor K L' M' H') (h0:H p=none) (h1:H' p=some (.lst vs)) (h2:p∉L') (r:zI L' H' xs vs) :
  Cor K (L'++[p]) (M'++[.lst xs]) H'/\Stp L H (L'++[p]) H':=by
 refine ⟨⟨by simp[c.len],?_,λn a m e1 e2=>?_,c.tab⟩,?_⟩
 .rw[EG];exact ⟨c.nd,by simp,λa ha b hb z=>by
   have:b=p:=by simpa using hb
   subst this;subst z;calc h2 ha⟩
 .by_cases hn:n<L'.length
  .rw[AY hn]at e1;rw[AY (by rw[<-c.len];calc hn)]at e2;exact (c.obj n a m e1 e2).more [p]
  .have hn':n=L'.length:=by
    have:=(AK.mp e1).1;rw[AW]at this;simp at this;omega
   subst hn';simp at e1;rw[c.len]at e2;simp at e2;subst e1;subst e2;exact ⟨vs,h1,r.more [p]⟩
 .obtain ⟨N,hN⟩:=s.pre;refine ⟨⟨N++[p],by rw[hN];simp⟩,λa ha=>?_,s.old,s.tup,s.frz,s.tbl⟩;rcases AO.mp ha with z|z
  .exact s.new a z
  .have:a=p:=by simpa using z
   subst this;calc .inr h0
def Rep.last {L:Yg} {M:List MO} {H:Hp} {K:Yb} {p:Yt} (c:Cor K L M H):Rep (L++[p]) H (.ref M.length) (.ref p):=by
 erw[Rep];calc ⟨p,rfl,by rw[<-c.len];simp⟩
def Ai {f:FE} (h:QE X e f):QD X e (toD f):=.mk <| PE.imp h.un λτ H Q zz=>by
 let⟨L,Y,M,d,M',c,rs,hf,q⟩:=zz;erw[toD]at hf;cbv at hf
 .rename_i d' M1 e1;ext hf;exact ⟨L,Y,M,_,_,c,rs,e1,λL' H' v s c' r=>q L' H' v s c' r⟩
 .rename_i xs M1 e1;ext hf;refine ⟨L,Y,M,_,_,c,rs,e1,λL' H' v s c' r=>?_⟩;let⟨p,vs,rfl,e0,e2,e3,r⟩:=r;let⟨c2,s2⟩:=Qa s c' e0 e2 e3 r;exact q _ H' _ s2 c2 (Rep.last c')
 .cases hf
def zC (i:Nat):FE:=λY M=>match Y[i]? with
 |some (some d)=>some (.dat d,M)
 |_=>none
def Be (h:PE X (.Name x pos) (Li i)):QE X (.Name x pos) (zC i):=.mk <| PE.imp h λτ H Q zz=>by
 let⟨L,Y,M,d,M',c,rs,hf,q⟩:=zz;erw[zC]at hf;cbv at hf
 .rename_i d' e1;ext hf;let⟨v,e2,r⟩:=rs.2 i d' e1;exact ⟨v,e2,q L H v (.refl L H) c r⟩
 .cases hf
def fC (d:D):FE:=λ_ M=>some (.dat d,M)
def Jn (hd:∀ L H,Rep L H d v) (h:PE X e (tC v)):QE X e (fC d):=.mk <| PE.imp h λτ H Q zz=>by
 let⟨L,Y,M,d',M',c,rs,hf,q⟩:=zz;erw[fC]at hf;ext hf;calc q L H v (.refl L H) c (hd L H)
def OH {i j pos}:QE X (.Constant (.int i) j pos) (fC (.int i)):=Jn (λ_ _=>by erw[Rep];rfl) TK
def Ow {b j pos}:QE X (.Constant (.bool b) j pos) (fC (.bl b)):=Jn (λ_ _=>by erw[Rep];rfl) Wx
def Wk {j pos}:QE X (.Constant .none j pos) (fC .non):=Jn (λ_ _=>by erw[Rep];rfl) ZN
def Sr {x j pos}:QE X (.Constant (.str x) j pos) (fC (.str x)):=Jn (λ_ _=>by erw[Rep];rfl) ZO
def zK:FA:=λ_ M=>some ([],M)
def zD (f:FD) (g:FA):FA:=λY M=>match f Y M with
 |some (d,M1)=>match g Y M1 with
  |some (ds,M2)=>some (d::ds,M2)
  |none=>none
 |none=>none
def PA.imp (h:PA X es t) (hi:∀ τ H Q,t' τ H Q->t τ H Q):PA X es t':=λpos zB s Y H Q I q=>h pos zB s Y H Q I (hi _ _ _ q)
def Fb:QA X [] zK:=.mk <| PA.imp IK λτ H Q zz=>by
 let⟨L,Y,M,d,M',c,rs,hf,q⟩:=zz;erw[zK]at hf;ext hf;calc q L H [] (.refl L H) c .nil
def Fz (h1:QD X e f) (h2:QA X es g) (hs:starEach (e::es) X.env=(false,eval e X.env)::starEach es X.env:=by rfl):QA X (e::es) (zD f g) :=
 .mk <| PA.imp (E9 h1.un h2.un hs) λτ H Q zz=>by
  let⟨L,Y,M,d,M',c,rs,hf,q⟩:=zz;erw[zD]at hf;cbv at hf
  .rename_i d1 M1 e1;cbv at hf
   .rename_i ds M2 e2;ext hf;refine ⟨L,Y,M,_,_,c,rs,e1,λL1 H1 v s1 c1 r1=>⟨L1,Y,M1,_,_,c1,rs.stp s1,e2,λL2 H2 vs s2 c2 r2=>?_⟩⟩;exact q L2 H2 _ (s1.trans s2) c2 (.cons (r1.stp s2) r2)
   .cases hf
  .cases hf
def Bk (g:FA):FE:=λY M=>match g Y M with
 |some (ds,M1)=>if ds.length<=sizeLine then some (.dat (.tup ds),M1) else none
 |none=>none
def BK (g:FA):FE:=λY M=>match g Y M with
 |some (ds,M1)=>if ds.length<=sizeLine then some (.fl ds,M1) else none
 |none=>none
def Rep.newTup (h:H p=none) (r:zI L H ds vs):Rep L (upd H p (.tup vs)) (.tup ds) (.ref p):=by
 erw[Rep];calc ⟨p,vs,rfl,zp,r.stp (.upd h)⟩
def mG {x1 pos} (h:QA X es g):QE X (.Tuple es x1 pos) (Bk g):=.mk <| PE.imp (Wq h.un) λτ H Q zz=>by
 let⟨L,Y,M,d,M',c,rs,hf,q⟩:=zz;erw[Bk]at hf;cbv at hf
 .rename_i ds M1 e1;cbv at hf
  .rename_i hz;ext hf;refine ⟨L,Y,M,_,_,c,rs,e1,λL1 H1 vs s1 c1 r1=>⟨by rw[r1.length];exact hz,λp hp=>?_⟩⟩;exact q L1 _ _ (s1.trans (.upd hp)) (c1.upd hp) (Rep.newTup hp r1)
  .cases hf
 .cases hf
def RE {L L1:Yg} {H H1:Hp} {K:Yb} {M M1:List MO} (s:Stp L H L1 H1) (c:Cor K L M H) (c1:Cor K L1 M1 H1) {p:Yt} (hp:H1 p=none):H p=none/\p∉L1:=by
 let hp1:p∉L1:=λz=>by let⟨o,e⟩:=c1.tracked z;rw[hp]at e;ext e
 calc ⟨?_,hp1⟩;cases q:H p with
 |none=>rfl
 |some o=>
  have:p∉L:=λz=>hp1 (by let⟨N,hN⟩:=s.pre;rw[hN];calc Cm _ z);let⟨o',z⟩:=s.there q this;rw[z]at hp;ext hp
def zX.newLst {L L1:Yg} {H H1:Hp} {K:Yb} {M M1:List MO} {p:Yt} {ds:List D} {vs:List V} (s:Stp L H L1 H1) (c:Cor K L M H) (c1:Cor K L1 M1 H1) (hp:H1 p=none) (r:zI L1 H1 ds vs) :
  zX H L1 (upd H1 p (.lst vs)) (.fl ds) (.ref p):=by
 let⟨a,b⟩:=RE s c c1 hp;calc ⟨p,vs,rfl,a,zp,b,r.stp (.upd hp)⟩
def dB {pos} (h:QA X es g):QE X (.List es pos) (BK g):=.mk <| PE.imp (dG h.un) λτ H Q zz=>by
 let⟨L,Y,M,d,M',c,rs,hf,q⟩:=zz;erw[BK]at hf;cbv at hf
 .rename_i ds M1 e1;cbv at hf
  .rename_i hz;ext hf;refine ⟨L,Y,M,_,_,c,rs,e1,λL1 H1 vs s1 c1 r1=>⟨by rw[r1.length];exact hz,λp hp=>?_⟩⟩;exact q L1 _ _ (s1.trans (.upd hp)) (c1.upd hp) (zX.newLst s1 c c1 hp r1)
  .cases hf
 .cases hf
abbrev FAE:=Sd->Mem->Option (List EV × Mem)
def EU (H0:Hp) (L:Yg) (H:Hp):List EV->List V->Prop
 |[],vs=>vs=[]
 |e::es,vs=>∃ v r,vs=v::r/\zX H0 L H e v/\EU H0 L H es r
def Stp.sub (s:Stp L H L' H'):∀ a∈L,a∈L':=λa h=>by
 let⟨N,hN⟩:=s.pre;rw[hN];calc Cm _ h
def EU.back {H0 H1:Hp} {L0 L1 L:Yg} {H:Hp} (s:Stp L0 H0 L1 H1) {M:List MO} {K:Yb} (c:Cor K L0 M H0) (hL:∀ a∈L1,a∈L):∀ {es:List EV} {vs:List V},EU H1 L H es vs->EU H0 L H es vs
 |[],_,h=>h
 |e::es,_,h=>by
  let⟨v,r,rfl,h1,h2⟩:=h;calc ⟨v,r,rfl,h1.back s c hL,EU.back s c hL h2⟩
def Sk (K:Yb) (f:FAE):TA:=λτ H Q=>∃ L Y M ds M',Cor K L M H/\Al L H Y τ/\f Y M=some (ds,M') /\ ∀ L' H' vs,Stp L H L' H'->Cor K L' M' H'->EU H L' H' ds vs->Q vs H'
structure QAE (X:Cx) (es:Yi) (f:FAE):Prop where
 un:PA X es (Sk X.K f)
section
variable {X:Cx} {a b e:Expr} {es:Yi} {pos:Pos}
def zO:FAE:=λ_ M=>some ([],M)
def zG (f:FE) (g:FAE):FAE:=λY M=>match f Y M with
 |some (d,M1)=>match g Y M1 with
  |some (ds,M2)=>some (d::ds,M2)
  |none=>none
 |none=>none
def MV:QAE X [] zO:=.mk <| PA.imp IK λτ H Q zz=>by
 let⟨L,Y,M,d,M',c,rs,hf,q⟩:=zz;erw[zO]at hf;ext hf;calc q L H [] (.refl L H) c rfl
def Nm (h1:QE X e f) (h2:QAE X es g) (hs:starEach (e::es) X.env=(false,eval e X.env)::starEach es X.env:=by rfl):QAE X (e::es) (zG f g) :=
 .mk <| PA.imp (E9 h1.un h2.un hs) λτ H Q zz=>by
  let⟨L,Y,M,d,M',c,rs,hf,q⟩:=zz;erw[zG]at hf;cbv at hf
  .rename_i d1 M1 e1;cbv at hf
   .rename_i ds M2 e2;ext hf;refine ⟨L,Y,M,_,_,c,rs,e1,λL1 H1 v s1 c1 r1=>⟨L1,Y,M1,_,_,c1,rs.stp s1,e2,λL2 H2 vs s2 c2 r2=>?_⟩⟩;exact q L2 H2 _ (s1.trans s2) c2 ⟨v,vs,rfl,r1.stp s2,r2.back s1 c s2.sub⟩
   .cases hf
  .cases hf
abbrev K2:=EV->EV->Mem->Option (EV × Mem)
def A9 (K:Yb) (r:R2) (k:K2):Prop:=∀ {L:Yg} {M M':Mem} {H H0:Hp} {x y d:EV} {v w:V} {Q:VK},Cor K L M H->zX H0 L H x v->zX H0 L H y w->k x y M=some (d,M') ->
 (∀ L' H' u,Stp L H L' H'->Cor K L' M' H'->zX H L' H' d u->Q u H')->r v w H Q
def fOp (k:K2) (f g:FE):FE:=λY M=>match f Y M with
 |some (x,M1)=>match g Y M1 with
  |some (y,M2)=>k x y M2
  |none=>none
 |none=>none
def GQ {K:Yb} {r:R2} {k:K2} {f g:FE} (hk:A9 K r k) {τ:Sv} {H:Hp} {Q:VK} (h:trE K (fOp k f g) τ H Q):tOp r (trE K f) (trE K g) τ H Q:=by
 let⟨L,Y,M,d,M',c,rs,hf,q⟩:=h;erw[fOp]at hf;cbv at hf
 .rename_i x M1 e1;cbv at hf
  .rename_i y M2 e2;refine (mkE c rs e1 (λL1 H1 v s1 c1 r1=>(mkE c1 (rs.stp s1) e2 (λL2 H2 w s2 c2 r2=>?_))));refine hk (H0:=H) c2 (r1.stp s2) (r2.back s1 c s2.sub) hf λL3 H3 u s3 c3 r3=>?_;exact q L3 H3 u ((s1.trans s2).trans s3) c3 (r3.back (s1.trans s2) c s3.sub)
  .cases hf
 .cases hf
def FV (hk:A9 X.K r k) (ho:OpR X (binaryOp op) r) (h1:QE X a f) (h2:QE X b g):QE X (.BinOp a op b pos) (fOp k f g):=.mk <| PE.imp (ZZ ho h1.un h2.un) λ_ _ _ h=>GQ hk h
def Hs (hk:A9 X.K r k) (ho:OpR X (compareOp op) r) (h1:QE X a f) (h2:QE X b g) (hm:behindInMarks op b=false):QE X (.Compare a [op] [b] pos) (fOp k f g) :=
 .mk <| PE.imp (ZJ ho h1.un h2.un hm) λ_ _ _ h=>GQ hk h
def tst (f:FE):FT:=λY M=>match f Y M with
 |some (.dat (.bl c),M')=>some (c,M')
 |_=>none
def Ni {K:Yb} {f:FE} {τ:Sv} {H:Hp} {Q:Bool->Hp->Prop} (h:trT K (tst f) τ H Q):KO (trE K f) τ H Q:=by
 let⟨L,Y,M,d,M',c,rs,hf,q⟩:=h;erw[tst]at hf;cbv at hf
 .rename_i k M1 e1;ext hf;refine (mkE c rs e1 (λL1 H1 v s1 c1 r1=>?_));have:v=.bl d:=by erw[zX,Rep]at r1;exact r1
  exact ⟨d,this,q L1 H1 s1 c1⟩
 .cases hf
def RM (h:∀ τ H Q,t τ H Q->t' τ H Q) (q:KO t τ H Q):KO t' τ H Q:=h _ _ _ q
def Ec {op:CmpOp} {r:R2} {k:K2} {f g:FE} (hk:A9 X.K r k) (ho:OpR X (compareOp op) r) (h1:QE X a f) (h2:QE X b g) (hm:behindInMarks op b=false):QT X (.Compare a [op] [b] pos) (tst (fOp k f g)) :=
 .mk <| PT.imp (XI ho h1.un h2.un hm) λ_ _ _ h=>RM (λ_ _ _ z=>GQ hk z) (Ni h)
def Xe (h:QE X e f) (he:∀ whole,isTrue e X.env whole=(do let v <- whole;standAt e.pos;holding [v] (truthy v)):=by intro _;rfl):QT X e (tst f) :=
 .mk <| PT.imp (UL h.un he) λ_ _ _ h=>Ni h
def kI (C:Int->Int->Bool) (g:Int->Int->D):K2:=λx y M=>match x,y with
 |.dat (.int i),.dat (.int j)=>if C i j then some (.dat (g i j),M) else none
 |_,_=>none
def kI0 (g:Int->Int->D):K2:=kI (λ_ _=>true) g
def HW {K:Yb} {C:Int->Int->Bool} {C':Int->Int->Prop} {g:Int->Int->D} {g':Int->Int->V} (hC:∀ i j,C i j=true->C' i j) (hg:∀ L H i j,Rep L H (g i j) (g' i j)):A9 K (rI C' g') (kI C g):=by
 intro L M M' H H0 x y d v w Q c rx ry hk q;erw[kI]at hk;cbv at hk
 .rename_i i j;cbv at hk
  .rename_i hc;ext hk;refine ⟨i,j,by erw[zX,Rep]at rx;calc rx,by erw[zX,Rep]at ry;calc ry,hC i j hc,q L H _ (.refl L H) c (hg L H i j)⟩
  .cases hk
 .cases hk
def Eg {K:Yb} {g:Int->Int->D} {g':Int->Int->V} (hg:∀ L H i j,Rep L H (g i j) (g' i j)):A9 K (rI0 g') (kI0 g):=by
 intro L M M' H H0 x y d v w Q c rx ry hk q;let⟨i,j,h1,h2,_,h4⟩:=HW (C:=λ_ _=>true) (C':=λ_ _=>True) (λ_ _ _=>trivial) hg c rx ry hk q;calc ⟨i,j,h1,h2,h4⟩
def Cj:Rep L H (.int i) (.int i):=by erw[Rep];rfl
def Bn:Rep L H (.bl i) (.bl i):=by erw[Rep];rfl
def HY (i j:Int):Bool:=(decide (-(2 ^ 64)<i)&&decide (i<2 ^ 64))||(decide (-(2 ^ 64)<j)&&decide (j<2 ^ 64))
abbrev Kq:K2:=kI0 λi j=> .int (i+j)
abbrev DJ:K2:=kI0 λi j=> .int (i-j)
abbrev DS:K2:=kI HY λi j=> .int (i*j)
abbrev Cd:K2:=kI (λ_ j=>decide (0<j)) λi j=> .int (i % j)
abbrev GK:K2:=kI (λ_ j=>decide (0<j)&&decide (j<1073741824)) λi j=> .int (i / j)
abbrev Gs:K2:=kI (λi j=>decide (0<=j)&&decide (j<=1000000)&&decide (i.natAbs<2 ^ 64)) λi j=> .int (i ^ j.toNat)
abbrev kLt:K2:=kI0 λi j=> .bl (decide (i<j))
abbrev kLe:K2:=kI0 λi j=> .bl (decide (i<=j))
abbrev kGt:K2:=kI0 λi j=> .bl (decide (j<i))
section
variable {f g:FE}
def aX (h1:QE X a f) (h2:QE X b g):QE X (.BinOp a .Sub b pos) (fOp DJ f g):=FV (Eg λ_ _ _ _=>Cj) V9 h1 h2
def cJ (h1:QE X a f) (h2:QE X b g):QE X (.BinOp a .Mult b pos) (fOp DS f g):=FV (HW (λi j h=>by
 erw[HY]at h;simp only[Bool.or_eq_true,Au,DD]at h;calc h) λ_ _ _ _=>Cj) W5 h1 h2
def Xp (h1:QE X a f) (h2:QE X b g):QE X (.BinOp a .Mod b pos) (fOp Cd f g):=FV (HW (λi j h=>CZ h) λ_ _ _ _=>Cj) W8 h1 h2
def Zy (h1:QE X a f) (h2:QE X b g):QE X (.BinOp a .FloorDiv b pos) (fOp GK f g):=FV (HW (λi j h=>by
 simp only[Au,DD]at h;calc h) λ_ _ _ _=>Cj) Z9 h1 h2
def Ul (h1:QE X a f) (h2:QE X b g):QE X (.BinOp a .Pow b pos) (fOp Gs f g):=FV (HW (λi j h=>by
 simp only[Au,DD]at h;calc ⟨h.1.1,h.1.2,h.2⟩) λ_ _ _ _=>Cj) eT h1 h2
def eV (h1:QE X a f) (h2:QE X b g):QE X (.Compare a [.Lt] [b] pos) (fOp kLt f g):=Hs (Eg λ_ _ _ _=>Bn) Kc h1 h2 (De _)
def Mm (h1:QE X a f) (h2:QE X b g):QE X (.Compare a [.LtE] [b] pos) (fOp kLe f g):=Hs (Eg λ_ _ _ _=>Bn) QU h1 h2 (De _)
def jR (h1:QE X a f) (h2:QE X b g):QE X (.Compare a [.Gt] [b] pos) (fOp kGt f g):=Hs (Eg λ_ _ _ _=>Bn) Sm h1 h2 (De _)
def V7 (h1:QE X a f) (h2:QE X b g):QT X (.Compare a [.Lt] [b] pos) (tst (fOp kLt f g)):=Ec (Eg λ_ _ _ _=>Bn) Kc h1 h2 (De _)
def UI (h1:QE X a f) (h2:QE X b g):QT X (.Compare a [.Gt] [b] pos) (tst (fOp kGt f g)):=Ec (Eg λ_ _ _ _=>Bn) Sm h1 h2 (De _)
end
end
def B6 (M:Mem):EV->Option (List D)
 |.fl xs=>some xs
 |.dat (.ref n)=>match M[n]? with
  |some (.lst xs)=>some xs
  |some (.fro xs)=>some xs
  |_=>none
 |_=>none
def CP:EV->Option (List D)
 |.dat (.tup xs)=>some xs
 |_=>none
def BA (M:Mem) (x:EV):Option (List D):=match CP x with
 |some xs=>some xs
 |none=>B6 M x
def Dj {K:Yb} {L:Yg} {M:Mem} {H H0:Hp} {x:EV} {v:V} {xs:List D} (c:Cor K L M H) (r:zX H0 L H x v) (h:B6 M x=some xs):∃ a vs,v=.ref a/\Rd H a (.lst vs)/\zI L H xs vs:=by
 cases x with
 |fl ys=>
  ext h;let⟨p,vs,rfl,_,e,_,r⟩:=r;calc ⟨p,vs,rfl,.inl e,r⟩
 |dat d=>
  cases d with
  |ref n=>
   erw[zX,Rep]at r;let⟨a,rfl,e⟩:=r;erw[B6]at h;dsimp only at h;cases q:M[n]? with
   |none=>rw[q]at h;ext h
   |some m=>
    rw[q]at h;let z:=c.obj n a m e q;cases m with
    |lst ys=>ext h;let⟨vs,e1,r1⟩:=z;calc ⟨a,vs,rfl,.inl e1,r1⟩
    |fro ys=>ext h;let⟨o,vs,e1,r1⟩:=z;calc ⟨a,vs,rfl,.inr ⟨o,e1⟩,r1⟩
    |dict _=>ext h
    |dicT _=>ext h
    |set _=>ext h
    |froT _=>ext h
    |froK _=>ext h
  |_=>ext h
def EC {L:Yg} {H H0:Hp} {x:EV} {v:V} {xs:List D} (r:zX H0 L H x v) (h:CP x=some xs):∃ a vs,v=.ref a/\H a=some (.tup vs)/\zI L H xs vs:=by
 cases x with
 |fl ys=>ext h
 |dat d=>
  cases d with
  |tup ys=>ext h;erw[zX,Rep]at r;calc r
  |_=>ext h
def HF {K:Yb} {L:Yg} {M:Mem} {H H0:Hp} {x:EV} {v:V} {xs:List D} (c:Cor K L M H) (r:zX H0 L H x v) (h:BA M x=some xs):∃ a vs,v=.ref a/\(SqL K H a vs\/SqT K H a vs)/\zI L H xs vs:=by
 erw[BA]at h;cases q:CP x with
 |some ys=>
  rw[q]at h;ext h;let⟨a,vs,e,h1,h2⟩:=EC r q;calc ⟨a,vs,e,.inr (.of h1),h2⟩
 |none=>
  rw[q]at h;let⟨a,vs,e,h1,h2⟩:=Dj c r h;calc ⟨a,vs,e,.inl (.inl h1),h2⟩
def ZG {L:Yg} {H:Hp} {xs:List D} {vs:List V} {i:Int} {d:D} (r:zI L H xs vs) (h:atI xs i=some d):∃ v,atI vs i=some v/\Rep L H d v:=by
 unfold atI at h ⊢;rw[r.length];cases q:ixN xs.length i with
 |none=>rw[q]at h;ext h
 |some j=>rw[q]at h;calc r.get h
def Ub {L:Yg} {H:Hp} {i:Str}:Rep L H (.str i) (.str i):=by erw[Rep];rfl
def kIx:K2:=λx y M=>match y with
 |.dat (.int i)=>match BA M x with
  |some xs=>match atI xs i with
   |some d=>some (.dat d,M)
   |none=>none
  |none=>match x with
   |.dat (.str z)=>if z.length<=sizeLine then match atI z.cps.toList i with
     |some c=>some (.dat (.str ⟨#[c]⟩),M)
     |none=>none
    else none
   |_=>none
 |_=>none
def mQ {K:Yb}:A9 K (rIx K) kIx:=by
 intro L M M' H H0 x y d v w Q c rx ry hk q;erw[kIx]at hk;cbv at hk
 .rename_i i;let ew:w=.int i:=by erw[zX,Rep]at ry;exact ry
  cbv at hk
  .rename_i xs e1;cbv at hk
   .rename_i d' e2;ext hk;let⟨a,vs,rfl,hs,r⟩:=HF c rx e1;let⟨u,e3,r3⟩:=ZG r e2;rcases hs with hs|hs
    .exact .inl ⟨a,vs,i,u,rfl,ew,hs,e3,q L H u (.refl L H) c r3⟩
    .exact .inr (.inl ⟨a,vs,i,u,rfl,ew,hs,e3,q L H u (.refl L H) c r3⟩)
   .cases hk
  .split at hk
   .rename_i z _;cbv at hk
    .rename_i hz;cbv at hk
     .rename_i ch e2;ext hk;let ev:v=.str z:=by erw[zX,Rep]at rx;exact rx
      exact .inr (.inr ⟨z,i,ch,ev,ew,hz,e2,q L H _ (.refl L H) c (Ub (L:=L) (H:=H))⟩)
     .cases hk
    .cases hk
   .cases hk
 .cases hk
section
variable {prog:Ym} {w:Yo} {A:Yn} {E:Yc} {s:Yl}
def Xo {t sl:Yt} {items:Yp} {vl vu:Yu} {lo hi:Ys} {Q:Yc} (T:IsTup s.heap t items) (S:s.heap.IsSliceOf sl vl vu .none) (pl:IsPart vl lo) (pu:IsPart vu hi)
  (h1:HT.sIx items.size 0 lo=0) (h2:HT.sIx items.size items.size hi=items.size) (h:Q (.ref t) s):wpAny (model prog w) A (getItem (.ref t) (.ref sl)) Q E s:=by
 let⟨o,O,C,G⟩:=id S;let TS:s.TypeIs (.ref sl) "slice" := ⟨o,O,C⟩;erw[getItem];try with_reducible refine CD ?_
 first|refine AA (AB ?_)|skip
 calc AA (wpAny_sequenceKey T.typeIs () ?_);calc AA (CG (name:=Str.ofString "__getitem__") T.typeIs Gu (BQ Gu T.typeIs entry_tuple_getitem ?_ (args_tuple_getitem _ _)));calc AA (m:=Builtin.Tuple.tupleItemsOf (.ref t)) (tupleItemsOf_ T (AA (wpAny_typeOf TS ?_)));rw[AD ()];calc AA (HT.RS S pl pu ?_);rw[h1,h2];show wpAny _ _ (if ((((0:Nat):Int)==0&&(1:Int)==1&&(items.size-0)==items.size))=true then _ else _) _ _ s;rw[AD (by simp)];erw[Builtin.Tuple.tupleIsExact];calc AA (AA (wpAny_typeOf T.typeIs (AB ?_)));rw[AD ()];calc AA (Bx (AB ⟨_,rfl,AB h⟩))
end
def aF (K:Yb):V->Option Int->Option Int->Hp->VK->Prop:=λx lo hi H Q=>∃ a xs,x=.ref a/\SqT K H a xs/\(HT.sIx xs.length 0 lo=0/\HT.sIx xs.length xs.length hi=xs.length)/\Q (.ref a) H
def bC {X:Cx}:SlR X (aF X.K):=by
 intro zB s Y H x v vl vu lo hi sl Q I rx hs pl pu h;let⟨a,xs,rfl,hx,hw,q⟩:=h;ext rx;let⟨its,r,ht,hz⟩:=I.tuple hx;let hlen:its.toArray.size=xs.length:=by rw[AU];exact r.length.symm
 calc ⟨"tuple", _,Gu.lookup,ht.typeIs,Xo ht hs pl pu (by rw[hlen];calc hw.1) (by rw[hlen];calc hw.2) ⟨.ref a,H,I,rfl,q⟩⟩
section
variable {X:Cx} {a b e:Expr} {es:Yi} {pos:Pos} {f g:FE}
def Qd (h1:QE X a f) (h2:QE X b g) (hs:SV b:=by intro _ _;rfl):QE X (.Subscript a b pos) (fOp kIx f g):=.mk <| PE.imp (Zd gO h1.un h2.un hs) λ_ _ _ h=>GQ mQ h
abbrev FO:=Sd->Mem->Option (Option Int × Mem)
def trO (K:Yb) (f:FO):TO:=λτ H Q=>∃ L Y M d M',Cor K L M H/\Al L H Y τ/\f Y M=some (d,M') /\ ∀ L' H',Stp L H L' H'->Cor K L' M' H'->Q d H'
structure QO (X:Cx) (e:Option Expr) (f:FO):Prop where
 un:PO X e (trO X.K f)
def D3:FO:=λ_ M=>some (none,M)
def Dw (f:FE):FO:=λY M=>match f Y M with
 |some (.dat (.int i),M')=>some (some i,M')
 |_=>none
def PO.imp {e:Option Expr} {t t':TO} (h:PO X e t) (hi:∀ τ H Q,t' τ H Q->t τ H Q):PO X e t':=λzB s Y H Q I q=>h zB s Y H Q I (hi _ _ _ q)
def fJ:QO X none D3:=.mk <| PO.imp Vz λτ H Q zz=>by
 let⟨L,Y,M,d,M',c,rs,hf,q⟩:=zz;erw[D3]at hf;ext hf;calc q L H (.refl L H) c
def mO (h:QE X e f):QO X (some e) (Dw f):=.mk <| PO.imp (Vv h.un) λτ H Q zz=>by
 let⟨L,Y,M,d,M',c,rs,hf,q⟩:=zz;erw[Dw]at hf;cbv at hf
 .rename_i i M1 e1;ext hf;refine (mkE c rs e1 (λL1 H1 v s1 c1 r1=>?_));exact ⟨i,by erw[zX,Rep]at r1;calc r1,q L1 H1 s1 c1⟩
 .cases hf
def CI (xs:List D) (lo hi:Ys):List D:=(xs.drop (HT.sIx xs.length 0 lo)).take (HT.sIx xs.length xs.length hi-HT.sIx xs.length 0 lo)
def PQ {L:Yg} {H:Hp} {xs:List D} {vs:List V} {lo hi:Ys} (r:zI L H xs vs):zI L H (CI xs lo hi) (FK vs lo hi):=by
 erw[CI,FK];rw[r.length];calc (r.drop _).take _
def kSl (x:EV) (lo hi:Ys) (M:Mem):Option (EV × Mem):=match CP x with
 |some xs=>some (.dat (.tup (CI xs lo hi)),M)
 |none=>match B6 M x with
  |some xs=>some (.fl (CI xs lo hi),M)
  |none=>none
def fSl (f:FE) (fl fh:FO):FE:=λY M=>match f Y M with
 |some (x,M1)=>match fl Y M1 with
  |some (lo,M2)=>match fh Y M2 with
   |some (hi,M3)=>kSl x lo hi M3
   |none=>none
  |none=>none
 |none=>none
def gA {lo hi:Option Expr} {p2:Pos} {fl fh:FO} (h:QE X e f) (hl:QO X lo fl) (hh:QO X hi fh):QE X (.Subscript e (.Slice lo hi none p2) pos) (fSl f fl fh) :=
 .mk <| PE.imp (Vk (SlR.or eW (SlR.or Xy bC)) h.un hl.un hh.un) λτ H Q zz=>by
  let⟨L,Y,M,d,M',c,rs,hf,q⟩:=zz;erw[fSl]at hf;cbv at hf
  .rename_i x M1 e1;cbv at hf
   .rename_i l M2 e2;cbv at hf
    .rename_i u M3 e3;refine ⟨L,Y,M,_,_,c,rs,e1,λL1 H1 v s1 c1 r1=>⟨L1,Y,M1,_,_,c1,rs.stp s1,e2,λL2 H2 s2 c2=>⟨L2,Y,M2,_,_,c2,rs.stp (s1.trans s2),e3,λL3 H3 s3 c3=>?_⟩⟩⟩;let s:=(s1.trans s2).trans s3;let r3:zX H L3 H3 x v:=(r1.stp s2).stp s3;erw[kSl]at hf;cases t:CP x with
     |some xs=>
      rw[t]at hf;dsimp only at hf;ext hf;let⟨a,vs,rfl,e4,r4⟩:=EC r3 t;by_cases hw:HT.sIx vs.length 0 l=0/\HT.sIx vs.length vs.length u=vs.length
      .refine .inr (.inr ⟨a,vs,rfl,.of e4,hw,?_⟩);let ec:CI xs l u=xs:=by
        erw[CI];rw[<-r4.length,hw.1,hw.2,r4.length];simp
       rw[ec]at q;calc q L3 H3 _ s c3 ?_;erw[zX,Rep];exact ⟨a,vs,rfl,e4,r4⟩
      .refine .inr (.inl ⟨a,vs,rfl,.of e4,hw,λp hp=>?_⟩);calc q L3 _ _ (s.trans (.upd hp)) (c3.upd hp) (Rep.newTup hp (PQ r4))
     |none=>
      rw[t]at hf;dsimp only at hf;cbv at hf
      .rename_i xs e4;ext hf;let⟨a,vs,rfl,e5,r5⟩:=Dj c3 r3 e4;refine .inl ⟨a,vs,rfl,.inl e5,λp hp=>?_⟩;exact q L3 _ _ (s.trans (.upd hp)) (c3.upd hp) (zX.newLst s c c3 hp (PQ r5))
      .cases hf
    .cases hf
   .cases hf
  .cases hf
abbrev KB:=List EV->Mem->Option (EV × Mem)
def ED (K:Yb) (r:List V->Hp->VK->Prop) (k:KB):Prop:=∀ {L:Yg} {M M':Mem} {H H0:Hp} {xs:List EV} {d:EV} {vs:List V} {Q:VK},Cor K L M H->EU H0 L H xs vs->k xs M=some (d,M') ->
 (∀ L' H' u,Stp L H L' H'->Cor K L' M' H'->zX H L' H' d u->Q u H')->r vs H Q
def fB (k:KB) (f:FAE):FE:=λY M=>match f Y M with
 |some (xs,M1)=>k xs M1
 |none=>none
def Rv {K:Yb} {r:List V->Hp->VK->Prop} {k:KB} {f:FAE} (hk:ED K r k) {τ:Sv} {H:Hp} {Q:VK} (h:trE K (fB k f) τ H Q):tCB r (Sk K f) τ H Q:=by
 let⟨L,Y,M,d,M',c,rs,hf,q⟩:=h;erw[fB]at hf;cbv at hf
 .rename_i xs M1 e1;refine ⟨L,Y,M,_,_,c,rs,e1,λL1 H1 vs s1 c1 r1=>?_⟩;refine hk c1 r1 hf λL2 H2 u s2 c2 r2=>?_;exact q L2 H2 u (s1.trans s2) c2 (r2.back s1 c s2.sub)
 .cases hf
def EU.one {H0:Hp} {L:Yg} {H:Hp} {x:EV} {vs:List V} (h:EU H0 L H [x] vs):∃ v,vs=[v]/\zX H0 L H x v:=by
 let⟨v,r,rfl,h1,h2⟩:=h;erw[EU]at h2;subst h2;calc ⟨v,rfl,h1⟩
def zj:KB:=λxs M=>match xs with
 |[x]=>match BA M x with
  |some ys=>some (.dat (.int ys.length),M)
  |none=>none
 |_=>none
def bN:ED X.K (λxs H Q=>∃ p ys,xs=[.ref p]/\(SqL X.K H p ys\/SqT X.K H p ys)/\Q (.int ys.length) H) zj:=by
 intro L M M' H H0 xs d vs Q c r hk q;erw[zj]at hk;cbv at hk
 .rename_i x;cbv at hk
  .rename_i ys e1;ext hk;let⟨v,rfl,r1⟩:=r.one;let⟨a,ws,rfl,hs,r2⟩:=HF c r1 e1;calc ⟨a,ws,rfl,hs,q L H _ (.refl L H) c ?_⟩;rw[r2.length];exact (Cj (L:=L) (H:=H))
  .cases hk
 .cases hk
def Hc {x:Str} {p:Pos} {id:String} {r:List V->Hp->VK->Prop} {k:KB} {f:FAE} (hk:ED X.K r k) (hc:CY X (.builtin id) r) (hv:bootBuiltins x=some (.builtin id)) (hg:Gl X x) (hm:X.mg x=none) (ha:QAE X (e::es) f) (hn:x ≠ "__name__" := by decide) (hdb:(x==("__debug__" : Str))=false:=by decide)
  (he:starEach (e::es) X.env=(false,eval e X.env)::starEach es X.env:=by rfl) (hpl:(backTo pos (starEach es X.env)).any (·.1)=false:=by rfl):QE X (.Call (.Name x p) (e::es) [] pos) (fB k f) :=
 .mk <| PE.imp (PV hc hg hm hv ha.un hn hdb he hpl) λ_ _ _ h=>Rv hk h
def Le {x:Str} {p:Pos} {T:String} {r:List V->Hp->VK->Prop} {k:KB} {f:FAE} (hk:ED X.K r k) (hc:CY X (.type T) r) (hv:bootBuiltins x=some (.type T)) (hg:Gl X x) (hm:X.mg x=none) (ha:QAE X (e::es) f) (hn:x ≠ "__name__" := by decide) (hdb:(x==("__debug__" : Str))=false:=by decide)
  (he:starEach (e::es) X.env=(false,eval e X.env)::starEach es X.env:=by rfl) (hpl:(backTo pos (starEach es X.env)).any (·.1)=false:=by rfl):QE X (.Call (.Name x p) (e::es) [] pos) (fB k f) :=
 .mk <| PE.imp (LK hc hg hm hv ha.un hn hdb he hpl) λ_ _ _ h=>Rv hk h
def zt:KB:=λxs M=>match xs with
 |[x]=>match BA M x with
  |some ys=>some (.dat (.tup ys),M)
  |none=>none
 |_=>none
def Zj:ED X.K (λxs H Q=>∃ p ys,xs=[.ref p]/\((SqL X.K H p ys /\ ∀ l,H l=none->Q (.ref l) (upd H l (.tup ys)))\/(SqT X.K H p ys/\Q (.ref p) H))) zt:=by
 intro L M M' H H0 xs d vs Q c r hk q;erw[zt]at hk;cbv at hk
 .rename_i x;cbv at hk
  .rename_i ys e1;ext hk;let⟨v,rfl,r1⟩:=r.one;erw[BA]at e1;cases t:CP x with
   |some zs=>
    rw[t]at e1;ext e1;let⟨a,ws,rfl,e2,r2⟩:=EC r1 t;calc ⟨a,ws,rfl,.inr ⟨.of e2,q L H _ (.refl L H) c ?_⟩⟩;erw[zX,Rep];calc ⟨a,ws,rfl,e2,r2⟩
   |none=>
    rw[t]at e1;let⟨a,ws,rfl,e2,r2⟩:=Dj c r1 e1;refine ⟨a,ws,rfl,.inl ⟨.inl e2,λp hp=>?_⟩⟩;exact q L _ _ (.upd hp) (c.upd hp) (Rep.newTup hp r2)
  .cases hk
 .cases hk
end
set_option genInjectivity true in
inductive Out where
  |nx|ret (d:D)|brk|cnt
abbrev FS:=Sd->Mem->Option (Out × Sd × Mem)
def VL (E:Ends) (L:Yg) (H:Hp) (Y:Sd):Out->Prop
  |.nx=>∀ τ,Al L H Y τ->E.nx τ H
  |.ret d=>∀ v,Rep L H d v->E.rt v H
  |.brk=>∀ τ,Al L H Y τ->E.bk τ H
  |.cnt=>∀ τ,Al L H Y τ->E.ct τ H
def trS (K:Yb) (f:FS):TS:=λE τ H=>∃ L Y M o Y' M',Cor K L M H/\Al L H Y τ/\f Y M=some (o,Y',M') /\ ∀ L' H',Stp L H L' H'->Cor K L' M' H'->VL E L' H' Y' o
structure QS (X:Cx) (st:Stmt) (f:FS):Prop where
  un:PS X st (trS X.K f)
structure QSs (X:Cx) (st:Yy) (f:FS):Prop where
  un:PSs X st (trS X.K f)
def Al.set {L:Yg} {H:Hp} {Y:Sd} {τ:Sv} {i:Nat} {d:D} {v:V} (h:Al L H Y τ) (r:Rep L H d v):Al L H (Y.set i (some d)) (τ.set i (some v)):=by
  refine ⟨by simp[h.1],λj e q=>?_⟩;rw[FC]at q ⊢;cbv at q
  . rename_i z
    subst z;cbv at q
    . rename_i hl
      ext q;rw[AD rfl,AD (by rw[h.1];calc hl)];exact ⟨v,rfl,r⟩
    .cases q
  . rename_i z
    rw[AE z];calc h.2 j e q
def fD {K:Yb} {f:FE} {τ:Sv} {H:Hp} {Q:VK} (h:trD K (toD f) τ H Q):trE K f τ H Q:=by
  let⟨L,Y,M,d,M',c,rs,hf,q⟩:=h;erw[toD]at hf;cbv at hf
  . rename_i d' M1 e1
    ext hf;exact (mkE c rs e1 (λL' H' v s c' r=>q L' H' v s c' r))
  . rename_i xs M1 e1
    ext hf;refine (mkE c rs e1 (λL' H' v s c' r=>?_));let⟨p,vs,rfl,e0,e2,e3,r⟩:=r;let⟨c2,s2⟩:=Qa s c' e0 e2 e3 r;exact q _ H' _ s2 c2 (Rep.last c')
  .cases hf
def AV:FS:=λY M=>some (.nx,Y,M)
def zS (f g:FS):FS:=λY M=>match f Y M with
  |some (.nx,σ1,M1)=>g σ1 M1
  |r=>r
def sIf (c:FT) (f g:FS):FS:=λY M=>match c Y M with
  |some (true,M1)=>f Y M1
  |some (false,M1)=>g Y M1
  |none=>none
def zg (f:FE):FS:=λY M=>match toD f Y M with
  |some (d,M1)=>some (.ret d,Y,M1)
  |none=>none
def AN (i:Nat) (f:FE):FS:=λY M=>match toD f Y M with
  |some (d,M1)=>some (.nx,Y.set i (some d),M1)
  |none=>none
def DK (f:FE):FS:=λY M=>match f Y M with
  |some (_,M1)=>some (.nx,Y,M1)
  |none=>none
section
variable {X:Cx} {st:Stmt} {rest:Yy} {e c:Expr} {pos:Pos}
def fZ:QSs X [] AV:=.mk <| PSs.imp gG λE τ H zz=>by
  let⟨L,Y,M,o,Y',M',c,rs,hf,q⟩:=zz;erw[AV]at hf;ext hf;calc q L H (.refl L H) c τ rs
def X0 {f g:FS} (h1:QS X st f) (h2:QSs X rest g):QSs X (st::rest) (zS f g):=.mk <| PSs.imp (YT h1.un h2.un) λE τ H zz=>by
  let⟨L,Y,M,o,Y',M',c,rs,hf,q⟩:=zz;erw[zS]at hf;cbv at hf
  . rename_i σ1 M1 e1
    refine ⟨L,Y,M,_,_,_,c,rs,e1,λL1 H1 s1 c1 τ1 r1=>⟨L1,σ1,M1,_,_,_,c1,r1,hf,λL2 H2 s2 c2=>q L2 H2 (s1.trans s2) c2⟩⟩
  . rename_i hne
    refine ⟨L,Y,M,_,_,_,c,rs,hf,λL1 H1 s1 c1=>?_⟩;let z:=q L1 H1 s1 c1;cases o with
    |nx=>calc absurd hf (hne Y' M')
    |ret d=>calc z
    |brk=>calc z
    |cnt=>calc z
def HA {f:FS} (h1:QS X st f):QSs X [st] f:=.mk <| PSs.imp (jE h1.un) λ_ _ _ h=>h
def lC {a b:Yy} {fc:FT} {f g:FS} (hc:QT X c fc) (ha:QSs X a f) (hb:QSs X b g):QS X (.If c a b pos) (sIf fc f g):=.mk <| PS.imp (Ut hc.un ha.un hb.un) λE τ H zz=>by
  let⟨L,Y,M,o,Y',M',c,rs,hf,q⟩:=zz;erw[sIf]at hf;cbv at hf
  . rename_i M1 e1
    refine (mkT c rs e1 (λL1 H1 s1 c1=>?_));exact Dv ⟨L1,Y,M1,_,_,_,c1,rs.stp s1,hf,λL2 H2 s2 c2=>q L2 H2 (s1.trans s2) c2⟩
  . rename_i M1 e1
    refine (mkT c rs e1 (λL1 H1 s1 c1=>?_));exact Dc ⟨L1,Y,M1,_,_,_,c1,rs.stp s1,hf,λL2 H2 s2 c2=>q L2 H2 (s1.trans s2) c2⟩
  .cases hf
def G6 {f:FE} (h:QE X e f):QS X (.Return (some e) pos) (zg f):=.mk <| PS.imp (Y8 (Ai h).un) λE τ H zz=>by
  let⟨L,Y,M,o,Y',M',c,rs,hf,q⟩:=zz;erw[zg]at hf;cbv at hf
  . rename_i d M1 e1
    ext hf;exact (mkD c rs e1 (λL1 H1 v s1 c1 r1=>q L1 H1 s1 c1 v r1))
  .cases hf
def P4 {K:Yb} {i:Nat} {f:FE} {t:TE} (ht:∀ τ H Q,trE K f τ H Q->t τ H Q) {E:Ends} {τ:Sv} {H:Hp} (h:trS K (AN i f) E τ H):JF t (Ed i) E τ H:=by
  let⟨L,Y,M,o,Y',M',c,rs,hf,q⟩:=h;erw[AN]at hf;cbv at hf
  . rename_i d M1 e1
    ext hf;exact ht _ _ _ (fD (mkD c rs e1 (λL1 H1 v s1 c1 r1=>q L1 H1 s1 c1 _ ((rs.stp s1).set r1))))
  .cases hf
def ZM {i:Nat} {x:Str} {f:FE} {pos':Pos} (hN:X.N.Nodup) (hi:X.N[i]?=some x) (hx:Loc X.env.scope x) (h:QE X e f) (hs:swapsWith e (some (.Name x pos')) pos.line X.env=pure false:=by rfl)
    (hf:X.fn x=true\/X.env.scope.names.lookup x=some .local:=by first|exact .inl rfl|exact .inr rfl|assumption):QS X (.Assign [.Name x pos'] e pos) (AN i f) := 
  .mk <| PS.imp (fE hN hi hx h.un hs hf) λ_ _ _ z=>P4 (λ_ _ _ z=>z) z
def fT {f:FE} (h:QE X e f) (hs:swapsWith e none pos.line X.env=pure false:=by rfl):QS X (.Expr e pos) (DK f):=.mk <| PS.imp (US h.un hs) λE τ H zz=>by
  let⟨L,Y,M,o,Y',M',c,rs,hf,q⟩:=zz;erw[DK]at hf;cbv at hf
  . rename_i d M1 e1
    ext hf;exact (mkE c rs e1 (λL1 H1 v s1 c1 r1=>q L1 H1 s1 c1 τ (rs.stp s1)))
  .cases hf
abbrev FG:=D->Sd->Option Sd
def GOk (g:TG) (fg:FG):Prop:=∀ {L:Yg} {H:Hp} {Y Y':Sd} {τ:Sv} {d:D} {v:V} {Q:Sv->Hp->Prop},Al L H Y τ->Rep L H d v->fg d Y=some Y'->(∀ τ',Al L H Y' τ'->Q τ' H)->g v τ H Q
def gN (i:Nat):FG:=λd Y=>some (Y.set i (some d))
def Wa {i:Nat}:GOk (Ed i) (gN i):=by
  intro L H Y Y' τ d v Q rs r hf q;erw[gN]at hf;ext hf;calc q _ (rs.set r)
abbrev FI:=Sd->Mem->Option (List D × Option (Mem->Prop) × Mem)
def Br (g:Option (Mem->Prop)) (xs:List D) (M:Mem):Prop:=match g with
  |none=>True
  |some p=>p M
def JH (K:Yb) (J:It) (L:Yg) (H:Hp) (xs:List D) (g:Option (Mem->Prop)):Prop:=∀ L' H' M',Stp L H L' H'->Cor K L' M' H'->Br g xs M' ->
  (∀ (i:Nat) d,xs[i]?=some d->J.go i H' /\ ∀ v H'',J.yld i H' v H''->(∀ a o,H' a=some o->H'' a=some o)/\Rep L' H'' d v)/\J.stop xs.length H'
def trI (K:Yb) (f:FI):TI:=λτ H R=>∃ L Y M xs g M',Cor K L M H/\Al L H Y τ/\f Y M=some (xs,g,M') /\ ∀ L' H' J,Stp L H L' H'->Cor K L' M' H'->JH K J L' H' xs g->R J H'
def mkI {K:Yb} {f:FI} {τ:Sv} {H:Hp} {R} {Y:Sd} {M M':Mem} {xs g} (c:Cor K L M H) (r:Al L H Y τ) (e:f Y M=some (xs,g,M')) (q:∀ L' H' J,Stp L H L' H'->Cor K L' M' H'->JH K J L' H' xs g->R J H'):trI K f τ H R:=⟨_,_,_,_,_,_,c,r,e,q⟩
structure QI (X:Cx) (tg e:Expr) (f:FI):Prop where
  un:PI X tg e (trI X.K f)
def PI.imp {tg e:Expr} {t t':TI} (h:PI X tg e t) (hi:∀ τ H R,t' τ H R->t τ H R):PI X tg e t':=λzB s Y H R I q=>h zB s Y H R I (hi _ _ _ q)
def DN (g:FG) (b:FS) (all:List D) (gd:Option (Mem->Prop)):List D->Sd->Mem->Option (Out × Sd × Mem)
  |[],Y,M=>open Classical in if Br gd all M then some (.nx,Y,M) else none
  |x::r,Y,M=>open Classical in if Br gd all M then match g x Y with
      |some σ1=>match b σ1 M with
        |some (.nx,σ2,M2)=>DN g b all gd r σ2 M2
        |some (.cnt,σ2,M2)=>DN g b all gd r σ2 M2
        |some (.brk,σ2,M2)=>some (.nx,σ2,M2)
        |some (.ret d,σ2,M2)=>some (.ret d,σ2,M2)
        |none=>none
      |none=>none
    else none
def BN (fi:FI) (g:FG) (b:FS):FS:=λY M=>match fi Y M with
  |some (xs,gd,M1)=>DN g b xs gd xs Y M1
  |none=>none
def Hf {α:Type} {xs:List α} {i:Nat} (h:i<xs.length):xs.drop i=xs[i]::xs.drop (i+1):=List.drop_eq_getElem_cons h
def Stp.yld {L L':Yg} {H H' H'':Hp} (s:Stp L H L' H') (h:∀ a o,H' a=some o->H'' a=some o):Stp L H L' H'':=s.trans (.grow h)
set_option genInjectivity true in
inductive FW (K:Yb) (fg:FG) (b:FS) (xs:List D) (gd:Option (Mem->Prop)) (r:Option (Out × Sd × Mem)) (L1:Yg) (H1:Hp):Nat->Nat->Sv->Hp->Prop
  |mk {i:Nat} {τ':Sv} {H':Hp} {L':Yg} {Y':Sd} {M':Mem}:i<=xs.length->Stp L1 H1 L' H'->Cor K L' M' H'->Al L' H' Y' τ'->DN fg b xs gd (xs.drop i) Y' M'=r->FW K fg b xs gd r L1 H1 i (xs.length-i) τ' H'
def YV {K:Yb} {fi:FI} {g:TG} {fg:FG} {b:FS} (hg:GOk g fg) {E:Ends} {τ:Sv} {H:Hp} (h:trS K (BN fi fg b) E τ H):Pc (trI K fi) g (trS K b) E τ H:=by
  let⟨L,Y,M,o,σf,Mf,c,rs,hf,q⟩:=h;erw[BN]at hf;cbv at hf
  . rename_i xs gd M1 e1
    refine (mkI c rs e1 (λL1 H1 J s1 c1 it=>?_));calc ⟨FW K fg b xs gd (some (o,σf,Mf)) L1 H1,⟨_,.mk (Bv _) (.refl _ _) c1 (rs.stp s1) (~~~hf)⟩,?_⟩;rintro i m τ' H' ⟨hi,s',c',rs',e'⟩;rename_i L' Y' M';by_cases hlt:i<xs.length
    . rw[Hf hlt]at e'
      erw[DN]at e';cbv at e'
      . rename_i hgd
        let⟨step,_⟩:=it L' H' M' s' c' hgd;let⟨go,yl⟩:=step i xs[i] (AL hlt);cases eg:fg xs[i] Y' with
        |none=>rw[eg]at e';ext e'
        |some σ1=>
          rw[eg]at e';dsimp only at e';refine .inr ⟨go,FW K fg b xs gd (some (o,σf,Mf)) L1 H1 (i+1) (xs.length-(i+1)),λτ2 H2 a=>⟨xs.length-(i+1),(),a⟩,λv H2 hy=>?_⟩;let⟨gr,rv⟩:=yl v H2 hy;refine hg (Al.stp (.grow gr) rs') rv eg λτ2 r2=>?_;cases eb:b σ1 M' with
          |none=>rw[eb]at e';ext e'
          |some r=>
            let⟨o2,σ2,M2⟩:=r;rw[eb]at e';refine ⟨L',σ1,M',_,_,_,c'.grow gr,r2,eb,λL3 H3 s3 c3=>?_⟩;let s13:Stp L1 H1 L3 H3:=(s'.yld gr).trans s3;cases o2 with
            |nx=>exact λτ3 r3=> .mk hlt s13 c3 r3 e'
            |cnt=>exact λτ3 r3=> .mk hlt s13 c3 r3 e'
            |brk=>ext e';calc q L3 H3 (s1.trans s13) c3
            |ret d=>ext e';exact q L3 H3 (s1.trans s13) c3
      .cases e'
    . have hi':i=xs.length:=()
      subst hi';rw[List.drop_length]at e';erw[DN]at e';cbv at e'
      . rename_i hgd
        ext e';let⟨_,stop⟩:=it L' H' _ s' c' hgd;exact .inl ⟨stop,q L' H' (s1.trans s') c' τ' rs'⟩
      .cases e'
  .cases hf
def Qr {tg iter:Expr} {body:Yy} {fi:FI} {g:TG} {fg:FG} {b:FS} (hg:GOk g fg) (hp:PassesOwn (model X.prog X.w) X.A X.env X.xe) (hc:X.calm=true) (hi:QI X tg iter fi) (ht:PG X tg g) (hb:QSs X body b)
    (hs:∀ x,foldedSetIterable iter X.env x=pure x:=by intro _;rfl):QS X (.For tg iter body [] pos) (BN fi fg b):=.mk <| PS.imp (VW hp hc hi.un ht hb.un hs) λ_ _ _ h=>YV hg h
end
section
variable {X:Cx} {e c iter tg elt:Expr} {pos:Pos} {scope:Y0} {ifs:Yi}
def C4 (c:FT) (b:FS):Nat->Sd->Mem->Option (Out × Sd × Mem)
  |0,_,_=>none
  |n+1,Y,M=>match c Y M with
    |some (true,M1)=>match b Y M1 with
      |some (.nx,σ2,M2)=>C4 c b n σ2 M2
      |some (.cnt,σ2,M2)=>C4 c b n σ2 M2
      |some (.brk,σ2,M2)=>some (.nx,σ2,M2)
      |some (.ret d,σ2,M2)=>some (.ret d,σ2,M2)
      |none=>none
    |some (false,M1)=>some (.nx,Y,M1)
    |none=>none
def Wz {K:Yb} {fc:FT} {b:FS} {n:Nat} {E:Ends} {τ:Sv} {H:Hp} (h:trS K (C4 fc b n) E τ H):Ru (trT K fc) (trS K b) E τ H:=by
  let⟨L,Y,M,o,σf,Mf,c,rs,hf,q⟩:=h;refine ⟨λm τ' H'=>∃ L' Y' M',Stp L H L' H'/\Cor K L' M' H'/\Al L' H' Y' τ'/\C4 fc b m Y' M'=some (o,σf,Mf),⟨n,L,Y,M,.refl _ _,c,rs,hf⟩,?_⟩;rintro m τ' H' ⟨L',Y',M',s',c',rs',e'⟩;cases m with
  |zero=>erw[C4]at e';ext e'
  |succ m=>
    erw[C4]at e';cbv at e'
    . rename_i M1 e1
      refine (mkT c' rs' e1 (λL1 H1 s1 c1=>Dv ?_));refine ⟨λτ2 H2=>∃ L2 σ2 M2,Stp L H L2 H2/\Cor K L2 M2 H2/\Al L2 H2 σ2 τ2/\C4 fc b m σ2 M2=some (o,σf,Mf),λτ2 H2 h2=>⟨m,Ek m,h2⟩,?_⟩;cases eb:b Y' M1 with
      |none=>rw[eb]at e';ext e'
      |some r=>
        let⟨o2,σ2,M2⟩:=r;rw[eb]at e';refine ⟨L1,Y',M1,_,_,_,c1,rs'.stp s1,eb,λL3 H3 s3 c3=>?_⟩;let s13:Stp L H L3 H3:=(s'.trans s1).trans s3;cases o2 with
        |nx=>exact λτ3 r3=>⟨L3,σ2,M2,s13,c3,r3,e'⟩
        |cnt=>exact λτ3 r3=>⟨L3,σ2,M2,s13,c3,r3,e'⟩
        |brk=>ext e';calc q L3 H3 s13 c3
        |ret d=>ext e';exact q L3 H3 s13 c3
    . rename_i M1 e1
      ext e';exact ⟨L',_,M',_,_,c',rs',e1,λL1 H1 s1 c1=>Dc (q L1 H1 (s'.trans s1) c1 τ' (rs'.stp s1))⟩
    .cases e'
def ZF {body:Yy} {fc:FT} {b:FS} (n:Nat) (hp:PassesOwn (model X.prog X.w) X.A X.env X.xe) (hc:QT X c fc) (hb:QSs X body b):QS X (.While c body [] pos) (C4 fc b n) := 
  .mk <| PS.imp (jB hp hc.un hb.un) λ_ _ _ h=>Wz h
def Bi (own:Yj) (Y:Sd):Sd:=own.foldl (λY i=>Y.set i none) Y
theorem Il {L:Yg} {H:Hp}:∀ (own:Yj) {Y:Sd} {τ:Sv},Al L H Y τ->Al L H (Bi own Y) (clr own τ)
  |[],_,_,h=>h
  |i::r,Y,τ,h=>by
    refine Il r (Y:=Y.set i none) (τ:=τ.set i none) ⟨by simp[h.1],λj d q=>?_⟩;rw[FC]at q ⊢;cbv at q
    .split at q <;> ext q
    . rename_i z
      rw[AE z];calc h.2 j d q
def BX (g:FG) (tc:FT) (te:FE) (Y:Sd) (all:List D) (gd:Option (Mem->Prop)):List D->Mem->Option (List D × Mem)
  |[],M=>open Classical in if Br gd all M then some ([],M) else none
  |x::r,M=>open Classical in if Br gd all M then match g x Y with
      |some σ1=>match tc σ1 M with
        |some (true,M1)=>match toD te σ1 M1 with
          |some (d,M2)=>match BX g tc te Y all gd r M2 with
            |some (ds,M3)=>some (d::ds,M3)
            |none=>none
          |none=>none
        |some (false,M1)=>BX g tc te Y all gd r M1
        |none=>none
      |none=>none
    else none
def Ae (own:Yj) (fi:FI) (g:FG) (tc:FT) (te:FE):FE:=λY M=>match fi Y M with
  |some (xs,gd,M1)=>if xs.length<=sizeLine then match BX g tc te (Bi own Y) xs gd xs M1 with
      |some (ys,M2)=>some (.fl ys,M2)
      |none=>none
    else none
  |none=>none
/-- what a target of a comprehension does: it sets names of its own -/
def Dp (own:Yj) (g:TG) (fg:FG):Prop:=∀ {L:Yg} {H:Hp} {Y Y':Sd} {τ τ0:Sv} {d:D} {v:V} {Q:Sv->Hp->Prop},Al L H Y τ->Ext (clr own τ0) τ->Rep L H d v->fg d Y=some Y'->(∀ τ',Al L H Y' τ'->Ext (clr own τ0) τ'->Q τ' H)->g v τ H Q
def F1 {own:Yj} {i:Nat} (hi:i∈own):Dp own (Ed i) (gN i):=by
  intro L H Y Y' τ τ0 d v Q rs ex r hf q;erw[gN]at hf;ext hf;exact q _ (rs.set r) (ex.set hi)
set_option genInjectivity true in
inductive CW (K:Yb) (fg:FG) (tc:FT) (te:FE) (σ0:Sd) (xs:List D) (gd:Option (Mem->Prop)) (Mf:Mem) (zs:List D) (L1:Yg) (H1:Hp):Nat->Nat->List V->Hp->Prop
  |mk {i:Nat} {ys:List V} {H':Hp} {L':Yg} {M':Mem} {as bs:List D}:i<=xs.length->Stp L1 H1 L' H'->Cor K L' M' H'->zI L' H' as ys->as.length<=i->BX fg tc te σ0 xs gd (xs.drop i) M'=some (bs,Mf)->as++bs=zs->CW K fg tc te σ0 xs gd Mf zs L1 H1 i (xs.length-i) ys H'
def RL {K:Yb} {own:Yj} {fi:FI} {g:TG} {fg:FG} {tc:FT} {te:FE} (hg:Dp own g fg) {τ:Sv} {H:Hp} {Q:VK} (h:trE K (Ae own fi fg tc te) τ H Q):My own (trI K fi) g (trT K tc) (trD K (toD te)) τ H Q:=by
  let⟨L,Y,M,d,Mf,c,rs,hf,q⟩:=h;erw[Ae]at hf;cbv at hf
  . rename_i xs gd M1 e1
    cbv at hf
    . rename_i hz
      cbv at hf
      . rename_i zs M2 e2
        ext hf;refine (mkI c rs e1 (λL1 H1 J s1 c1 it=>?_));calc ⟨CW K fg tc te (Bi own Y) xs gd Mf zs L1 H1,⟨_,.mk (Bv _) (.refl _ _) c1 .nil (AF _) (~~~e2) rfl⟩,?_⟩;rintro i m ys H' ⟨hi,s',c',r',hl,e',hab⟩;rename_i L' M' as bs;let hys:ys.length<=i:=by rw[r'.length];exact hl
        by_cases hlt:i<xs.length
        . rw[Hf hlt]at e'
          erw[BX]at e';cbv at e'
          . rename_i hgd
            let⟨step,_⟩:=it L' H' M' s' c' hgd;let⟨go,yl⟩:=step i xs[i] (AL hlt);cbv at e'
            . rename_i σ1 eg
              refine .inr ⟨go,λv H2 hy=>?_⟩;let⟨gr,rv⟩:=yl v H2 hy;let s2:Stp L1 H1 L' H2:=s'.yld gr;refine hg (Il own ((rs.stp s1).stp s2)) (.refl _) rv eg λτ2 r2 x2=>⟨x2,?_⟩;cbv at e'
              . rename_i M3 e3
                cbv at e'
                . rename_i d M4 e4
                  cbv at e'
                  . rename_i ds M5 e5
                    ext e';refine (mkT (c'.grow gr) r2 e3 (λL3 H3 s3 c3=>Dv ?_));refine (mkD c3 (r2.stp s3) e4 (λL4 H4 w s4 c4 r4=>?_));let st:Stp L' H' L4 H4:=((Stp.grow gr).trans s3).trans s4;refine ⟨Nat.lt_of_le_of_lt hys (A0 hlt hz),xs.length-(i+1),(),.mk (as:=as++[d]) hlt (s'.trans st) c4 ((r'.stp st).app (.cons r4 .nil)) (by simp;omega) e5 (by rw[<-hab];simp)⟩
                  .cases e'
                .cases e'
              . rename_i M3 e3
                refine (mkT (c'.grow gr) r2 e3 (λL3 H3 s3 c3=>Dc ?_));let st:Stp L' H' L3 H3:=(Stp.grow gr).trans s3;exact ⟨xs.length-(i+1),(),.mk hlt (s'.trans st) c3 (r'.stp st) () e' hab⟩
              .cases e'
            .cases e'
          .cases e'
        . have hi':i=xs.length:=()
          subst hi';rw[List.drop_length]at e';erw[BX]at e';cbv at e'
          . rename_i hgd
            ext e';let⟨_,stop⟩:=it L' H' _ s' c' hgd;refine .inl ⟨stop,Ar hys hz,λp hp=>?_⟩;rw[CU]at hab;subst hab;exact q L' _ _ ((s1.trans s').trans (.upd hp)) (c'.upd hp) (zX.newLst (s1.trans s') c c' hp r')
          .cases e'
      .cases hf
    .cases hf
  .cases hf
structure QIfs (X:Cx) (ifs:Yi) (f:FT):Prop where
  un:Dk X ifs (trT X.K f)
def zo:FT:=λ_ M=>some (true,M)
def YA:QIfs X [] zo:=.mk λzB s Y H Q I h=>by
  let⟨L,Y',M,d,M',c,rs,hf,q⟩:=h;erw[zo]at hf;ext hf;calc gB zB s Y H Q I (q L H (.refl L H) c)
def ZH {f:FT} (h:QT X c f):QIfs X [c] f:=.mk (UR h.un)
/-- the parts of a comprehension in its block -/
structure QParts (X:Cx) (scope:Y0) (tg:Expr) (ifs:Yi) (elt:Expr) (g:TG) (tc:FT) (te:FE):Prop where
  g:∀ zB cl s H fp,PG (zP X zB scope cl s H fp) tg g
  c:∀ zB cl s H fp,QIfs (zP X zB scope cl s H fp) ifs tc
  e:∀ zB cl s H fp,QE (zP X zB scope cl s H fp) elt te
def QParts.parts {g:TG} {tc:FT} {te:FE} (p:QParts X scope tg ifs elt g tc te):CompParts X scope tg ifs elt g (trT X.K tc) (trD X.K (toD te)) :=
  ⟨p.g,λzB cl s H fp=>(p.c zB cl s H fp).un,λzB cl s H fp=>(Ai (p.e zB cl s H fp)).un⟩
def MW {own:Yj} {fi:FI} {g:TG} {fg:FG} {tc:FT} {te:FE} (hg:Dp own g fg) (C:CompIn X scope own) (hcalm:X.calm=true) (hi:QI X tg iter fi) (p:QParts X scope tg ifs elt g tc te) (hs:∀ x,foldedSetIterable iter X.env x=pure x:=by intro _;rfl) :
    QE X (.ListComp elt [⟨tg,iter,ifs,0⟩] scope pos) (Ae own fi fg tc te):=.mk <| PE.imp (Zz C hcalm hi.un p.parts hs) λ_ _ _ h=>RL hg h
def YQ {i:Nat} {x:Str} {pos' pos'':Pos} {own:Yj} {fi:FI} {g:TG} {fg:FG} {tc:FT} {te:FE} (hN:X.N.Nodup) (hi':X.N[i]?=some x) (hx:Loc X.env.scope x) (hfn:X.fn x=true\/X.env.scope.names.lookup x=some .local)
    (hsw:swapsWith (.ListComp elt [⟨tg,iter,ifs,0⟩] scope pos) (some (.Name x pos')) pos''.line X.env=pure true)
    (hg:Dp own g fg) (C:CompIn X scope own) (hcalm:X.calm=true) (hi:QI X tg iter fi) (p:QParts X scope tg ifs elt g tc te) (hs:∀ x,foldedSetIterable iter X.env x=pure x:=by intro _;rfl) :
    QS X (.Assign [.Name x pos'] (.ListComp elt [⟨tg,iter,ifs,0⟩] scope pos) pos'') (AN i (Ae own fi fg tc te)) := 
  .mk <| PS.imp (l9 hN hi' hx hfn C hcalm hi.un p.parts hsw hs) λ_ _ _ z=>P4 (λ_ _ _ z=>RL hg z) z
end
abbrev FF:=List D->Mem->Option (D × Mem)
def spF (K:Yb) (n:Nat) (g:FF):Sp:=λvs H Q _=>∃ L ds M d M',Cor K L M H/\zI L H ds vs/\ds.length=n/\g ds M=some (d,M') /\ ∀ L' H' v,Stp L H L' H'->Cor K L' M' H'->Rep L' H' d v->Q v H'
def zR (g:FF) (fa:FA):FE:=λY M=>match fa Y M with
 |some (ds,M1)=>match g ds M1 with
  |some (d,M2)=>some (.dat d,M2)
  |none=>none
 |none=>none
section
variable {X:Cx} {e:Expr} {es:Yi} {pos p:Pos} {x:Str} {k:Nat} {f:Yt} {fd:Yz} {ps:Yk}
def UU (F:FnOk X.prog X.w X.K X.mg X.base CX0 k f fd ps (spF X.K (e::es).length g)) (hr:Room k X.A) (hg:Gl X x) (hm:X.mg x=some (.ref f)) (hk:PySem.W.keepIn X.K (.ref f)=true) (hb:D2 X.K fd ps [])
  (ha:QA X (e::es) fa) (hl:∀ Y M ds M1,fa Y M=some (ds,M1)->ds.length=(e::es).length) (hdb:(x==("__debug__" : Str))=false:=by decide) (he:starEach (e::es) X.env=(false,eval e X.env)::starEach es X.env:=by rfl) (hpl:(backTo pos (starEach es X.env)).any (·.1)=false:=by rfl) :
  QE X (.Call (.Name x p) (e::es) [] pos) (zR g fa) :=
 .mk <| PE.imp (iP F hr hg hm hk hb .nil SF ha.un hdb he hpl) λτ H Q zz=>by
  let⟨L,Y,M,d,M',c,rs,hf,q⟩:=zz;erw[zR]at hf;cbv at hf
  .rename_i ds M1 e1;cbv at hf
   .rename_i d' M2 e2;ext hf;refine ⟨L,Y,M,_,_,c,rs,e1,λL1 H1 vs s1 c1 r1=>?_⟩;dsimp only;rw[CU];exact ⟨L1,ds,M1,d',_,c1,r1,hl _ _ _ _ e1,e2,λL2 H2 v s2 c2 r2=>q L2 H2 v (s1.trans s2) c2 r2⟩
   .cases hf
  .cases hf
def Fn (fa:FA) (n:Nat):Prop:=∀ Y M ds M1,fa Y M=some (ds,M1)->ds.length=n
def DE:Fn zK 0:=λY M ds M1 h=>by erw[zK]at h;ext h;rfl
def zv {f:FD} {g:FA} {n:Nat} (h:Fn g n):Fn (zD f g) (n+1):=λY M ds M1 q=>by
 erw[zD]at q;cbv at q
 .split at q
  .rename_i e2;ext q;simp[h _ _ _ _ e2]
  .cases q
 .cases q
def AS (n:Nat) (b:FS):FF:=λds M=>match b (ds.map some++List.replicate (n-ds.length) none) M with
 |some (.ret d,_,M')=>some (d,M')
 |some (.nx,_,M')=>some (.non,M')
 |_=>none
def Ja:∀ {ds:List D} {vs:List V},zI L H ds vs->Al L H (ds.map some++List.replicate (N.length-ds.length) none) (L2.D1 N vs):=λ{ds vs} r=>by
 erw[L2.D1];let hl:=r.length;refine ⟨by simp[hl],λi d q=>?_⟩;by_cases hi:i<ds.length
 .rw[AY (~~~hi),Ac]at q;rw[AY (by simpa [hl] using hi),Ac];cases e1:ds[i]? with
  |none=>rw[e1]at q;ext q
  |some d'=>
   rw[e1]at q;ext q;let⟨v,e2,r2⟩:=r.get e1;exact ⟨v,by rw[e2];rfl,r2⟩
 .rw[CQ (~~~hi),List.getElem?_replicate]at q;split at q <;> ext q
def zw {P:Ym} {w:Yo} {K:Yb} {mg:Yh} {base:Heap} {qual:Str} {st:Stmt} {N:Yk} {b:FS} {n:Nat} (F:Fun K x qual st f fd) (S:FnScope N ps (zJ st)) (hn:ps.length=n)
  (hb:∀ (cdv:Yu) (A:Yn) (outer:List Env) (s:Yl) (H:Hp) (E:XK),Room k (A.deeper (envOfC qual (zJ st) ⇑s f cdv))->QSs (FL CX0 P w K mg base N qual (zJ st) f cdv A outer s H E).nox (EB st) b) :
  FnOk P w K mg base CX0 (k+1) f fd ps (spF K n (AS N.length b)):=by
 refine F.ok S (λvs H Q E h=>?_) (λcdv A outer s H vs Q E hr h=>⟨_,(hb cdv A outer s H E hr).un,?_⟩)
 .obtain ⟨L,ds,M,d,M',c,r,hl,_⟩:=h;rw[r.length,hl,hn]
 .obtain ⟨L,ds,M,d,M',c,r,hl,hf,q⟩:=h;erw[AS]at hf;cbv at hf
  .rename_i d' Y' M1 e1;ext hf;exact ⟨L,_,M,_,_,_,c,Ja r,e1,λL1 H1 s1 c1 v r1=>q L1 H1 v s1 c1 r1⟩
  .rename_i Y' M1 e1;ext hf;exact ⟨L,_,M,_,_,_,c,Ja r,e1,λL1 H1 s1 c1 τ' r1=>q L1 H1 .non s1 c1 (by erw[Rep];rfl)⟩
  .cases hf
mutual
def D.und (n:Nat):D->Bool
 |.tup ds=>D.unds n ds
 |.ref k=>decide (k<n)
 |.fn _ ds=>D.unds n ds
 |_=>true
def D.unds (n:Nat):List D->Bool
 |[]=>true
 |d::ds=>D.und n d&&D.unds n ds
end
mutual
theorem Rep.less:∀ {d:D} {v:V},D.und L.length d=true->Rep (L++N) H d v->Rep L H d v
 |.non,_,_,h=>by unfold Rep at h ⊢;calc h
 |.bl _,_,_,h=>by unfold Rep at h ⊢;calc h
 |.int _,_,_,h=>by unfold Rep at h ⊢;calc h
 |.str _,_,_,h=>by unfold Rep at h ⊢;calc h
 |.tup ds,_,hb,h=>by
  erw[D.und]at hb;unfold Rep at h ⊢;let⟨a,vs,rfl,e,r⟩:=h;calc ⟨a,vs,rfl,e,zI.less hb r⟩
 |.ref n,_,hb,h=>by
  erw[D.und]at hb;unfold Rep at h ⊢;let⟨a,rfl,e⟩:=h;calc ⟨a,rfl,by rwa [AY (CZ hb)]at e⟩
 |.fn _ ds,_,hb,h=>by
  erw[D.und]at hb;unfold Rep at h ⊢;calc ⟨h.1,h.2.1,zI.less hb h.2.2⟩
theorem zI.less:∀ {ds:List D} {vs:List V},D.unds L.length ds=true->zI (L++N) H ds vs->zI L H ds vs
 |[],_,_,h=>by unfold zI at h ⊢;calc h
 |d::ds,_,hb,h=>by
  erw[D.unds]at hb;rw[Au]at hb;unfold zI at h ⊢;let⟨v,r,rfl,h1,h2⟩:=h;calc ⟨v,r,rfl,Rep.less hb.1 h1,zI.less hb.2 h2⟩
end
def AQ.less {κ:Type} {kf:D->Option κ} {L N:Yg} {H:Hp}:∀ {ps:List (D × D)} {vs:List (κ × V)},(ps.all λp=>D.und L.length p.1&&D.und L.length p.2)=true->AQ kf (L++N) H ps vs->AQ kf L H ps vs
 |[],_,_,h=>h
 |p::r,_,hb,h=>by
  rw[List.all_cons,Au,Au]at hb;let⟨k,v,r',rfl,e,h1,h2⟩:=h;calc ⟨k,v,r',rfl,e,Rep.less hb.1.2 h1,AQ.less hb.2 h2⟩
def MO.und (n:Nat):MO->Bool
 |.lst xs=>D.unds n xs
 |.fro xs=>D.unds n xs
 |.dict kvs=>kvs.all λp=>D.und n p.1&&D.und n p.2
 |.dicT kvs=>kvs.all λp=>D.und n p.1&&D.und n p.2
 |.set xs=>D.unds n xs
 |.froT kvs=>kvs.all λp=>D.und n p.1&&D.und n p.2
 |.froK kvs=>kvs.all λp=>D.und n p.1&&D.und n p.2
def EE (g:FF):FF:=λds M=>match g ds M with
 |some (d,M')=>if D.und M.length d&&(M'.take M.length).all (MO.und M.length)&&decide (M.length<=M'.length) then some (d,M'.take M.length) else none
 |none=>none
def Hu {P:Ym} {w:Yo} {K:Yb} {mg:Yh} {base:Heap} {n:Nat} {g:FF} (h:FnOk P w K mg base CX0 k f fd ps (spF K n g)):FnOk P w K mg base CX0 k f fd ps (spF K n (EE g)) :=
 h.imp λvs H Q E ⟨L,ds,M,d,M',c,r,hl,hf,q⟩=>by
  erw[EE]at hf;cbv at hf
  .rename_i d' M1 e1;cbv at hf
   .rename_i hb;ext hf;simp only[Au,DD,Aj]at hb;let⟨⟨hb1,hb2⟩,hb3⟩:=hb;refine ⟨L,ds,M,_,_,c,r,hl,e1,λL1 H1 v s1 c1 r1=>?_⟩;let⟨N,rfl⟩:=s1.pre;rw[<-c.len]at hb1 hb2 hb3;refine q L H1 v ⟨⟨[],by simp⟩,λa ha=> .inl ha,s1.old,s1.tup,s1.frz,s1.tbl⟩ ⟨?_,?_,λi a m e2 e3=>?_,c1.tab⟩ (Rep.less hb1 r1)
    .rw[Bp,<-c.len];omega
    .exact (EG.mp c1.nd).1
    .rw[<-c.len]at e3;let hi:i<L.length:=(AK.mp e2).1;let hm:m∈M1.take L.length:=BD e3;rw[List.getElem?_take_of_lt hi]at e3;let z:=c1.obj i a m (Gm e2) e3;let bl:=hb2 m hm;cases m with
     |lst xs=>let⟨ws,e4,r4⟩:=z;calc ⟨ws,e4,zI.less bl r4⟩
     |fro xs=>let⟨o,ws,e4,r4⟩:=z;calc ⟨o,ws,e4,zI.less bl r4⟩
     |dict ps=>let⟨vs,e,r⟩:=z;calc ⟨vs,e,AQ.less bl r⟩
     |dicT ps=>let⟨vs,e,r⟩:=z;calc ⟨vs,e,AQ.less bl r⟩
     |set _=>calc z
     |froT ps=>let⟨o,vs,e,r⟩:=z;calc ⟨o,vs,e,AQ.less bl r⟩
     |froK ps=>let⟨o,vs,e,r⟩:=z;exact ⟨o,vs,e,AQ.less bl r⟩
   .cases hf
  .cases hf
def Ct (g:FF):FF:=λds M=>if D.unds 0 ds then match g ds [] with
  |some (d,_)=>if D.und 0 d then some (d,M) else none
  |none=>none
 else none
def EO {P:Ym} {w:Yo} {K:Yb} {mg:Yh} {base:Heap} {n:Nat} {g:FF} (h:FnOk P w K mg base CX0 k f fd ps (spF K n g)):FnOk P w K mg base CX0 k f fd ps (spF K n (Ct g)) :=
 h.imp λvs H Q E ⟨L,ds,M,d,M',c,r,hl,hf,q⟩=>by
  erw[Ct]at hf;cbv at hf
  .rename_i hb0;cbv at hf
   .rename_i d' M1 e1;cbv at hf
    .rename_i hb;ext hf;refine ⟨[],ds,[],_,_,⟨rfl,.nil,λi a m e=>by simp at e,c.tab⟩,zI.less (L:=[]) (N:=L) hb0 (~~~r),hl,e1,λL1 H1 v s1 c1 r1=>?_⟩;exact q L H1 v s1.bare (c.bare s1) ((Rep.less (L:=[]) (N:=L1) hb (~~~r1)).more L |> λz=>by simpa using z)
    .cases hf
   .cases hf
  .cases hf
def gM (hl:PE X l tl):PI X tg l (λY H R=>tl Y H λx H1=>∃ a,x=.ref a/\((∃ xs,SqL X.K H1 a xs)/\R (Itl X.K a) H1\/(∃ xs,SqT X.K H1 a xs)/\R (Itt X.K a) H1)):=by
 intro zB s Y H R I h;refine thn (hl zB s Y H _ I h) λv s1 ⟨y,H1,I1,r1,a,hy,h1⟩=>?_;subst hy;ext r1;let fpk:∀ b∈[⇑s1],Bd X zB H1 b:=λb hb=>by
  let e:b=⇑s1:=by simpa using hb
  subst e;exact I1.fpOk (AF _) (I1.hok.fresh (AF _))
 rcases h1 with ⟨⟨xs,hq⟩,q⟩|⟨⟨xs,hq⟩,q⟩
 .obtain ⟨its,rv,pl,hz⟩:=I1.list hq;exact wpAny_pyIter_list pl.isList ⟨⇑s1,[⇑s1],_,_,H1,rfl,I1.kept (t':=s1.toks) λb o e=>AG _ e,VU a _,⟨_,AM _ rfl,rfl,rfl⟩,fpk,q⟩
 .obtain ⟨its,rv,pl,hz⟩:=I1.tuple hq;calc wpAny_pyIter_tuple (show s1.heap.IsTuple a its.toArray from pl) ⟨⇑s1,[⇑s1],_,_,H1,rfl,I1.kept (t':=s1.toks) λb o e=>AG _ e,YG a _,⟨_,AM _ rfl,rfl,rfl⟩,fpk,q⟩
def IS (x:EV) (xs:List D):Option (Mem->Prop):=match x with
 |.dat (.ref n)=>some λM=>M[n]?=some (.lst xs)\/M[n]?=some (.fro xs)
 |_=>none
def Am (f:FE):FI:=λY M=>match f Y M with
 |some (x,M1)=>match BA M1 x with
  |some xs=>some (xs,IS x xs,M1)
  |none=>none
 |none=>none
def BG (f:FA):FI:=λY M=>match f Y M with
 |some ([.int j],M1)=>if -(2 ^ 62)<=j/\j<2 ^ 62 then some ((List.range j.toNat).map λ(k:Nat)=>D.int k,none,M1) else none
 |some ([.int i,.int j],M1)=>if -(2 ^ 62)<=i/\i<2 ^ 62 /\ -(2 ^ 62)<=j/\j<2 ^ 62 then some ((List.range (j-i).toNat).map λ(k:Nat)=>D.int (i+k),none,M1) else none
 |_=>none
def fX (h:QE X e g):QI X tg e (Am g):=.mk <| PI.imp (gM h.un) λτ H R zz=>by
 let⟨L,Y,M,xs,gd,M',c,rs,hf,q⟩:=zz;erw[Am]at hf;cbv at hf
 .rename_i y M1 e1;cbv at hf
  .rename_i zs e2;ext hf;refine (mkE c rs e1 (λL1 H1 v s1 c1 r1=>?_));erw[BA]at e2;cases t:CP y with
   |some ws=>
    rw[t]at e2;ext e2;let⟨a,vs,rfl,e3,r3⟩:=EC r1 t;refine ⟨a,rfl,.inr ⟨⟨vs,.of e3⟩,q L1 H1 _ s1 c1 λL2 H2 M2 s2 c2 _=>?_⟩⟩;let e4:=s2.tup a vs e3;let r4:=r3.stp s2;refine ⟨λi d hd=>?_,⟨vs,.of e4,by rw[r4.length];calc AF _⟩⟩;let⟨u,hu,ru⟩:=r4.get hd;refine ⟨⟨vs,u,.of e4,hu⟩,λv H3 ⟨hH,hv⟩=>?_⟩;subst hH;have:=hv vs (.of e4);rw[hu]at this;ext this;exact ⟨λ_ _ z=>z,ru⟩
   |none=>
    rw[t]at e2;dsimp only at e2;let⟨a,vs,rfl,e3,r3⟩:=Dj c1 r1 e2;refine ⟨a,rfl,.inl ⟨⟨vs,.inl e3⟩,q L1 H1 _ s1 c1 λL2 H2 M2 s2 c2 hgd=>?_⟩⟩;let key:∃ vs',SqL X.K H2 a vs'/\zI L2 H2 xs vs':=by
     cases y with
     |fl ys=>
      ext e2;let⟨p',vs',hp',_,e5,e6,r6⟩:=r1;ext hp';calc ⟨vs',.of (s2.old _ _ e5 e6 (by intro _ z;ext z)),r6.stp s2⟩
     |dat d=>
      cases d with
      |ref n=>
       erw[zX,Rep]at r1;let⟨a',ha',e5⟩:=r1;ext ha';let e6:L2[n]?=some a:=by let⟨N,hN⟩:=s2.pre;rw[hN];exact Gm e5
       rcases hgd with z|z
       .obtain ⟨vs',e7,r7⟩:=c2.obj n a _ e6 z;exact ⟨vs',.of e7,r7⟩
       .obtain ⟨o,vs',e7,r7⟩:=c2.obj n a _ e6 z;calc ⟨vs',.inl (.inr ⟨o,e7⟩),r7⟩
      |_=>ext e2
    let⟨vs',hq,r7⟩:=key;refine ⟨λi d hd=>?_,⟨vs',hq,by rw[r7.length];calc AF _⟩⟩;let⟨u,hu,ru⟩:=r7.get hd;refine ⟨⟨vs',u,hq,hu⟩,λv H3 ⟨hH,hv⟩=>?_⟩;subst hH;have:=hv vs' hq;rw[hu]at this;ext this;exact ⟨λ_ _ z=>z,ru⟩
  .cases hf
 .cases hf
def Qo (h:zI L H [.int j] vs):vs=[.int j]:=by
 erw[zI]at h;let⟨v,r,rfl,h1,h2⟩:=h;erw[zI]at h2;erw[Rep]at h1;subst h1 h2;rfl
def Wn (h:zI L H [.int i,.int j] vs):vs=[.int i,.int j]:=by
 erw[zI]at h;let⟨v,r,rfl,h1,h2⟩:=h;erw[Rep]at h1;rw[Qo h2,h1]
def aC {K:Yb} {L:Yg} {H:Hp} {lo:Int} {n:Nat}:JH K (Itr lo n) L H ((List.range n).map λ(k:Nat)=>D.int (lo+k)) none:=by
 intro L' H' M' s c _;refine ⟨λi d hd=>?_,by simp[Itr]⟩;rw[Ac]at hd;cases q:(List.range n)[i]? with
 |none=>rw[q]at hd;ext hd
 |some k=>
  rw[q]at hd;ext hd;let hi:i<n:=by have:=(AK.mp q).1;simpa using this
  rw[List.getElem?_range hi]at q;ext q;refine ⟨hi,λv H'' ⟨hH,hv⟩=>?_⟩;subst hH hv;calc ⟨λ_ _ z=>z,Cj⟩
def Y5 {tg a:Expr} {g:FA} (hg:Gl X "range") (hm:X.mg "range" = none) (ha:QA X [a] g) (hl:Fn g 1) (hs:starEach [a] X.env=[(false,eval a X.env)]:=by rfl):QI X tg (.Call (.Name "range" p) [a] [] pos) (BG g) :=
 .mk <| PI.imp (lQ hg hm ha.un hs) λτ H R zz=>by
  let⟨L,Y,M,xs,gd,M',c,rs,hf,q⟩:=zz;erw[BG]at hf;cbv at hf
  .rename_i j M1 e1;cbv at hf
   .rename_i hb;ext hf;refine (mkA c rs e1 (λL1 H1 vs s1 c1 r1=>⟨j,Qo r1,hb.1,hb.2,q L1 H1 _ s1 c1 ?_⟩));let z:=aC (K:=X.K) (L:=L1) (H:=H1) (lo:=0) (n:=j.toNat);simpa using z
   .cases hf
  .rename_i e1;have:=hl _ _ _ _ e1;simp at this
  .cases hf
end
section
variable {X:Cx} {a b c e:Expr} {es rest:Yi} {pos p apos cpos:Pos}
def Bw (f g:FT):FT:=λY M=>match f Y M with
 |some (true,M1)=>g Y M1
 |r=>r
def CC (f g:FT):FT:=λY M=>match f Y M with
 |some (false,M1)=>g Y M1
 |r=>r
def B0 (f:FT):FT:=λY M=>match f Y M with
 |some (k,M1)=>some (!k,M1)
 |none=>none
structure QW (X:Cx) (e:Expr) (f:FT):Prop where
 un:PW X e (trT X.K f)
def PW.imp (h:PW X e t) (hi:∀ τ H Q,t' τ H Q->t τ H Q):PW X e t':=λwh zB s Y H Q I q=>h wh zB s Y H Q I (hi _ _ _ q)
def bY (h:QT X a f):QW X (.BoolOp .And [a] pos) f:=.mk (jP h.un)
def Uc (h:QT X a f):QW X (.BoolOp .Or [a] pos) f:=.mk (TU h.un)
def OP (h1:QT X a f) (h2:QW X (.BoolOp .And (b::rest) pos) g):QW X (.BoolOp .And (a::b::rest) pos) (Bw f g):=.mk <| PW.imp (Wi h1.un h2.un) λτ H Q zz=>by
 let⟨L,Y,M,d,M',c,rs,hf,q⟩:=zz;erw[Bw]at hf;cbv at hf
 .rename_i M1 e1;exact (mkT c rs e1 (λL1 H1 s1 c1=>Dv (mkT c1 (rs.stp s1) hf (λL2 H2 s2 c2=>q L2 H2 (s1.trans s2) c2))))
 .rename_i hne;cases d with
  |true=>calc absurd hf (hne M')
  |false=>calc (mkT c rs hf (λL1 H1 s1 c1=>Dc (q L1 H1 s1 c1)))
def SR (h1:QT X a f) (h2:QW X (.BoolOp .Or (b::rest) pos) g):QW X (.BoolOp .Or (a::b::rest) pos) (CC f g):=.mk <| PW.imp (Xz h1.un h2.un) λτ H Q zz=>by
 let⟨L,Y,M,d,M',c,rs,hf,q⟩:=zz;erw[CC]at hf;cbv at hf
 .rename_i M1 e1;exact (mkT c rs e1 (λL1 H1 s1 c1=>Dc (mkT c1 (rs.stp s1) hf (λL2 H2 s2 c2=>q L2 H2 (s1.trans s2) c2))))
 .rename_i hne;cases d with
  |false=>calc absurd hf (hne M')
  |true=>calc (mkT c rs hf (λL1 H1 s1 c1=>Dv (q L1 H1 s1 c1)))
def Rf (h:QW X e f):QT X e f:=.mk (PW.pt h.un)
def VX (h:QT X a f):QT X (.UnaryOp .Not a pos) (B0 f):=.mk <| PT.imp (fS h.un) λτ H Q zz=>by
 let⟨L,Y,M,d,M',c,rs,hf,q⟩:=zz;erw[B0]at hf;cbv at hf
 .rename_i k M1 e1;ext hf;exact (mkT c rs e1 (λL1 H1 s1 c1=>q L1 H1 s1 c1))
 .cases hf
def B3 (f g:FE):FE:=λY M=>match f Y M with
 |some (.dat (.bl true),M1)=>g Y M1
 |some (.dat (.bl false),M1)=>some (.dat (.bl false),M1)
 |_=>none
def El (f:FE):FE:=λY M=>match f Y M with
 |some (.dat (.bl k),M1)=>some (.dat (.bl (!k)),M1)
 |_=>none
def E8 (h:zX H0 L H (.dat (.bl k)) v):v=.bl k:=by erw[zX,Rep]at h;calc h
def VM {op} (h:QE X a f):QE X (.BoolOp op [a] pos) f:=.mk (jA h.un)
def aW (h1:QE X a f) (h2:QE X (.BoolOp .And (b::rest) pos) g):QE X (.BoolOp .And (a::b::rest) pos) (B3 f g):=.mk <| PE.imp (T7 h1.un h2.un) λτ H Q zz=>by
 let⟨L,Y,M,d,M',c,rs,hf,q⟩:=zz;erw[B3]at hf;cbv at hf
 .rename_i M1 e1;exact (mkE c rs e1 (λL1 H1 v s1 c1 r1=>⟨true,E8 r1,Dv (mkE c1 (rs.stp s1) hf (λL2 H2 w s2 c2 r2=>q L2 H2 w (s1.trans s2) c2 (r2.back s1 c s2.sub)))⟩))
 .rename_i M1 e1;ext hf;exact (mkE c rs e1 (λL1 H1 v s1 c1 r1=>⟨false,E8 r1,Dc (q L1 H1 _ s1 c1 (by have:=E8 r1;subst this;calc r1))⟩))
 .cases hf
def XO (h:QE X a f):QE X (.UnaryOp .Not a pos) (El f):=.mk <| PE.imp (jK h.un) λτ H Q zz=>by
 let⟨L,Y,M,d,M',c,rs,hf,q⟩:=zz;erw[El]at hf;cbv at hf
 .rename_i k M1 e1;ext hf;exact (mkE c rs e1 (λL1 H1 v s1 c1 r1=>⟨k,E8 r1,q L1 H1 _ s1 c1 (by erw[zX,Rep];rfl)⟩))
 .cases hf
def vIf (t:FT) (f g:FE):FE:=λY M=>match t Y M with
 |some (true,M1)=>f Y M1
 |some (false,M1)=>g Y M1
 |none=>none
def Ue (hc:QT X c t) (h1:QE X a f) (h2:QE X b g):QE X (.IfExp c a b pos) (vIf t f g):=.mk <| PE.imp (gV hc.un h1.un h2.un) λτ H Q zz=>by
 let⟨L,Y,M,d,M',c,rs,hf,q⟩:=zz;erw[vIf]at hf;cbv at hf
 .rename_i M1 e1;exact (mkT c rs e1 (λL1 H1 s1 c1=>Dv (mkE c1 (rs.stp s1) hf (λL2 H2 w s2 c2 r2=>q L2 H2 w (s1.trans s2) c2 (r2.back s1 c s2.sub)))))
 .rename_i M1 e1;exact (mkT c rs e1 (λL1 H1 s1 c1=>Dc (mkE c1 (rs.stp s1) hf (λL2 H2 w s2 c2 r2=>q L2 H2 w (s1.trans s2) c2 (r2.back s1 c s2.sub)))))
 .cases hf
abbrev KM:=EV->List D->Mem->Option (D × Mem)
def fM (k:KM) (f:FE) (g:FA):FE:=λY M=>match f Y M with
 |some (x,M1)=>match B6 M1 x with
  |some _=>match g Y M1 with
   |some (ds,M2)=>match k x ds M2 with
    |some (d,M3)=>some (.dat d,M3)
    |none=>none
   |none=>none
  |none=>none
 |none=>none
def Ky (K:Yb) (r:V->List V->Hp->VK->Prop) (k:KM):Prop:=∀ {L:Yg} {M M':Mem} {H H0:Hp} {x:EV} {ds:List D} {d:D} {v:V} {vs:List V} {Q:VK},Cor K L M H->zX H0 L H x v->zI L H ds vs->k x ds M=some (d,M') ->
 (∀ L' H' u,Stp L H L' H'->Cor K L' M' H'->Rep L' H' d u->Q u H')->r v vs H Q
def Pw {K:PySem.W.Frag} {r:V->List V->Hp->VK->Prop} {k:KM} {f:FE} {g:FA} (hk:Ky K r k) {τ:Sv} {H:Hp} {Q:VK} (h:trE K (fM k f g) τ H Q):tBM K "list" r (trE K f) (trA K g) τ H Q:=by
 let⟨L,Y,M,d,M',c,rs,hf,q⟩:=h;erw[fM]at hf;cbv at hf
 .rename_i x M1 e1;cbv at hf
  .rename_i xs e2;cbv at hf
   .rename_i ds M2 e3;cbv at hf
    .rename_i d' M3 e4;ext hf;refine (mkE c rs e1 (λL1 H1 v s1 c1 r1=>?_));let⟨a,vs,rfl,e5,r5⟩:=Dj c1 r1 e2;refine ⟨.inl ⟨rfl,vs,.inl e5⟩,L1,Y,M1,_,_,c1,rs.stp s1,e3,λL2 H2 ws s2 c2 r2=>?_⟩;exact hk c2 (r1.stp s2) r2 e4 λL3 H3 u s3 c3 r3=>q L3 H3 u ((s1.trans s2).trans s3) c3 r3
    .cases hf
   .cases hf
  .cases hf
 .cases hf
def Dn:KM:=λx ds M=>match x,ds with
 |.dat (.ref n),[d]=>match M[n]? with
  |some (.lst xs)=>if xs.length<sizeLine then some (.non,M.set n (.lst (xs++[d]))) else none
  |_=>none
 |_,_=>none
def zI.one (h:zI L H [d] vs):∃ v,vs=[v]/\Rep L H d v:=by
 erw[zI]at h;let⟨v,r,rfl,h1,h2⟩:=h;erw[zI]at h2;subst h2;calc ⟨v,rfl,h1⟩
def d3 {K:Yb}:Ky K RO Dn:=by
 intro L M M' H H0 x ds d v vs Q c rx rd hk q;erw[Dn]at hk;cbv at hk
 .rename_i n d';cbv at hk
  .rename_i xs e1;cbv at hk
   .rename_i hz;ext hk;erw[zX,Rep]at rx;let⟨a,rfl,e2⟩:=rx;let⟨ws,e3,r3⟩:=c.obj n a _ e2 e1;let⟨w,rfl,r4⟩:=rd.one;let⟨c5,s5⟩:=c.write e2 e1 (r3.app (.cons r4 .nil));exact ⟨a,ws,w,rfl,rfl,e3,by rw[r3.length];calc hz,q L _ _ s5 c5 (by erw[Rep];rfl)⟩
   .cases hk
  .cases hk
 .cases hk
def jJ (h:QE X a f) (hg:QA X [e] g) (hbase:attributeBase a "append" X.env (eval a X.env)=eval a X.env:=by rfl)
  (hfew:((backTo cpos (starEach [e] X.env)).all (λx=> !x.1)&&(backToKw cpos (keywordEach [] X.env)).all (λx=>x.1.isSome)&&decide ([e].length+([]:List Keyword).length+(if ([]:List Keyword).isEmpty then 0 else 1)<30))=true:=by rfl)
  (hline:(apos.endLine==cpos.line)=true:=by rfl) (hs:starEach [e] X.env=(false,eval e X.env)::starEach [] X.env:=by rfl) (hplain:(backTo cpos (starEach [] X.env)).any (·.1)=false:=by rfl) :
  QE X (.Call (.Attribute a "append" apos) [e] [] cpos) (fM Dn f g) :=
 .mk <| PE.imp (Q2 PySem.F.plainAttrs_list PySem.F.slot_list_append PySem.F.type_list_append S2 h.un hg.un hbase hfew hline hs hplain) λ_ _ _ z=>Pw d3 z
def II (x:EV) (i:D) (d:D) (M:Mem):Option Mem:=match x,i with
 |.dat (.ref n),.int i=>match M[n]? with
  |some (.lst xs)=>match ixN xs.length i with
   |some j=>some (M.set n (.lst (xs.set j d)))
   |none=>none
  |_=>none
 |_,_=>none
def FJ (fv fo fi:FE):FS:=λY M=>match toD fv Y M with
 |some (d,M1)=>match fo Y M1 with
  |some (x,M2)=>match toD fi Y M2 with
   |some (i,M3)=>match II x i d M3 with
    |some M4=>some (.nx,Y,M4)
    |none=>none
   |none=>none
  |none=>none
 |none=>none
def ZP (hv:QE X v fv) (ho:QE X o fo) (hi:QE X i fi)
  (ha:∀ v,assign (.Subscript o i p) X.env v=(do
   let ov <- holding [v] (eval o X.env);let iv <- holding [v,ov] (eval i X.env);standAt p;holding [v,ov,iv] (setItem ov iv v);release [v,ov,iv] []):=by intro _;rfl)
  (hs:swapsWithSole [.Subscript o i p] v pos.line X.env=pure false:=by rfl) (hw:swappedStores [.Subscript o i p] v X.env=pure none:=by rfl) (h1:(assignEach [.Subscript o i p] X.env).map (·.2)=[assign (.Subscript o i p) X.env]:=by rfl) :
  QS X (.Assign [.Subscript o i p] v pos) (FJ fv fo fi):=.mk <| PS.imp (Wl (Ai hv).un (Zi ho.un (Ai hi).un aR ha) hs hw h1) λE τ H zz=>by
 let⟨L,Y,M,out,Y',M',c,rs,hf,q⟩:=zz;erw[FJ]at hf;cbv at hf
 .rename_i d M1 e1;cbv at hf
  .rename_i x M2 e2;cbv at hf
   .rename_i j M3 e3;cbv at hf
    .rename_i M4 e4;ext hf;refine ⟨L,Y,M,_,_,c,rs,e1,λL1 H1 u s1 c1 r1=>⟨L1,Y,M1,_,_,c1,rs.stp s1,e2,λL2 H2 w s2 c2 r2=>⟨L2,Y,M2,_,_,c2,rs.stp (s1.trans s2),e3,λL3 H3 z s3 c3 r3=>?_⟩⟩⟩;let st:=(s1.trans s2).trans s3;erw[II]at e4;cbv at e4
     .rename_i n k;cbv at e4
      .rename_i xs e5;cbv at e4
       .rename_i m e6;ext e4;let r2':=r2.stp s3;erw[zX,Rep]at r2';let⟨a,rfl,e7⟩:=r2';let⟨ws,e8,r8⟩:=c3.obj n a _ e7 e5;let⟨c9,s9⟩:=c3.write e7 e5 (zI.set ((r1.stp s2).stp s3) m r8);exact ⟨a,ws,k,m,rfl,by erw[Rep]at r3;calc r3,e8,by rw[r8.length];calc e6,q L3 _ (st.trans s9) c9 τ ((rs.stp st).stp s9)⟩
       .cases e4
      .cases e4
     .cases e4
    .cases hf
   .cases hf
  .cases hf
 .cases hf
def IU:D->Option V
 |.non=>some .non
 |.bl k=>some (.bl k)
 |.int i=>some (.int i)
 |.str x=>some (.str x)
 |_=>none
def Jr (h:Rep L H d v) (e:IU d=some u):v=u:=by
 cases d with
 |non=>ext e;erw[Rep]at h;calc h
 |bl _=>ext e;erw[Rep]at h;calc h
 |int _=>ext e;erw[Rep]at h;calc h
 |str _=>ext e;erw[Rep]at h;calc h
 |tup _=>ext e
 |ref _=>ext e
 |fn _ _=>ext e
def Gn (neg:Bool):K2:=λx y M=>match x,y with
 |.dat d,.dat d'=>match IU d,IU d' with
  |some u,some w=>if JI u w then some (.dat (.bl (if neg then !decide (u=w) else decide (u=w))),M) else none
  |_,_=>none
 |_,_=>none
def N0 (h:Gn neg x y M=some (r,M')):∃ d d' u w,x=.dat d/\y=.dat d'/\IU d=some u/\IU d'=some w/\JI u w=true/\r=.dat (.bl (if neg then !decide (u=w) else decide (u=w)))/\M'=M:=by
 erw[Gn]at h;cbv at h
 .rename_i d d';cbv at h
  .rename_i u w e1 e2;cbv at h
   .rename_i hs;ext h;exact ⟨d,d',u,w,rfl,rfl,e1,e2,hs,rfl,rfl⟩
   .cases h
  .cases h
 .cases h
def SH {K:Yb}:A9 K rEq (Gn false):=by
 intro L M M' H H0 x y d v w Q c rx ry hk q;let⟨d1,d2,u,z,rfl,rfl,e1,e2,hs,rfl,rfl⟩:=N0 hk;let a1:=Jr rx e1;let a2:=Jr ry e2;subst a1 a2;calc ⟨hs,q L H _ (.refl L H) c (Bn (L:=L) (H:=H))⟩
def bB {K:Yb}:A9 K rNe (Gn true):=by
 intro L M M' H H0 x y d v w Q c rx ry hk q;let⟨d1,d2,u,z,rfl,rfl,e1,e2,hs,rfl,rfl⟩:=N0 hk;let a1:=Jr rx e1;let a2:=Jr ry e2;subst a1 a2;calc ⟨hs,q L H _ (.refl L H) c (Bn (L:=L) (H:=H))⟩
def Lj (neg:Bool) (K:Yb):R2:=λx y H Q=>∃ p q xs,x=.ref p/\y=.ref q/\SqL K H p xs/\SqL K H q []/\Q (.bl (if neg then !xs.isEmpty else xs.isEmpty)) H
def Mx (r:za [] its):its=[]:=by ext r;rfl
def Ql (hu:X.A.units<cLine):OpR X (compareOp .Eq) (Lj false X.K):=by
 intro zB s Y H x y v u Q I rx ry h;let⟨p,q,xs,rfl,rfl,h1,h2,hq⟩:=h;ext rx;ext ry;let⟨its,rv,pl,_⟩:=I.list h1;let⟨its2,rv2,pl2,_⟩:=I.list h2;cases Mx rv2;cases rv with
 |nil=>exact SeqAt.eq_listAt (e:=λ_=>true) pl.isList pl2.isList rfl hu (λj h1=>by simp at h1) ⟨.bl true,H,I,rfl,hq⟩
 |cons _ _=>calc SeqAt.eq_list_lengthsAt pl.isList pl2.isList (by simp) hu ⟨.bl false,H,I,rfl,hq⟩
def V2 (hu:X.A.units<cLine):OpR X (compareOp .NotEq) (Lj true X.K):=by
 intro zB s Y H x y v u Q I rx ry h;let⟨p,q,xs,rfl,rfl,h1,h2,hq⟩:=h;ext rx;ext ry;let⟨its,rv,pl,_⟩:=I.list h1;let⟨its2,rv2,pl2,_⟩:=I.list h2;cases Mx rv2;cases rv with
 |nil=>exact SeqAt.RcNeAt.lists (e:=λ_=>true) pl.isList pl2.isList rfl hu (λj h1=>by simp at h1) _ _ _ _ ⟨.bl false,H,I,rfl,hq⟩
 |cons _ _=>calc SeqAt.RcNeAt.lists_lengths pl.isList pl2.isList (by simp) hu _ _ _ _ ⟨.bl true,H,I,rfl,hq⟩
def JZ (neg:Bool):K2:=λx y M=>match B6 M x,B6 M y with
 |some xs,some []=>some (.dat (.bl (if neg then !xs.isEmpty else xs.isEmpty)),M)
 |_,_=>none
def MX {K:Yb} {neg:Bool}:A9 K (Lj neg K) (JZ neg):=by
 intro L M M' H H0 x y d v w Q c rx ry hk q;erw[JZ]at hk;cbv at hk
 .rename_i xs e1 e2;ext hk;let⟨p1,vs,rfl,h1,r1⟩:=Dj c rx e1;let⟨p2,ws,rfl,h2,r2⟩:=Dj c ry e2;erw[zI]at r2;subst r2;refine ⟨p1,p2,vs,rfl,rfl,.inl h1,.inl h2,q L H _ (.refl L H) c ?_⟩;have:vs.isEmpty=xs.isEmpty:=by
   have:=r1.length;cases vs <;> cases xs <;> simp_all
  rw[this];exact (Bn (L:=L) (H:=H))
 .cases hk
def kOr (k1 k2:K2):K2:=λx y M=>match k1 x y M with
 |some r=>some r
 |none=>k2 x y M
def Jx {K:Yb} {r1 r2:R2} {k1 k2:K2} (h1:A9 K r1 k1) (h2:A9 K r2 k2):A9 K (λx y H Q=>r1 x y H Q\/r2 x y H Q) (kOr k1 k2):=by
 intro L M M' H H0 x y d v w Q c rx ry hk q;erw[kOr]at hk;cbv at hk
 .rename_i r e1;ext hk;exact .inl (h1 c rx ry e1 q)
 .exact .inr (h2 c rx ry hk q)
abbrev kEq:K2:=kOr (Gn false) (JZ false)
abbrev kNe:K2:=kOr (Gn true) (JZ true)
variable {f g:FE}
def bG (hu:X.A.units<cLine) (h1:QE X a f) (h2:QE X b g):QE X (.Compare a [.Eq] [b] pos) (fOp kEq f g):=Hs (Jx SH MX) (RA.or (Ql hu)) h1 h2 (De _)
def VI (hu:X.A.units<cLine) (h1:QE X a f) (h2:QE X b g):QT X (.Compare a [.Eq] [b] pos) (tst (fOp kEq f g)):=Ec (Jx SH MX) (RA.or (Ql hu)) h1 h2 (De _)
def bK (hu:X.A.units<cLine) (h1:QE X a f) (h2:QE X b g):QT X (.Compare a [.NotEq] [b] pos) (tst (fOp kNe f g)):=Ec (Jx bB MX) (W9.or (V2 hu)) h1 h2 (De _)
def CA:KB:=λxs M=>match xs with
 |[.dat (.int i)]=>some (.dat (.int i),M)
 |[.dat (.bl k)]=>some (.dat (.int (if k then 1 else 0)),M)
 |_=>none
def Zf {K:Yb}:ED K (λxs H Q=>(∃ i,xs=[.int i]/\Q (.int i) H) \/ ∃ k,xs=[.bl k]/\Q (.int (if k then 1 else 0)) H) CA:=by
 intro L M M' H H0 xs d vs Q c r hk q;erw[CA]at hk;cbv at hk
 .rename_i i;ext hk;let⟨v,rfl,r1⟩:=r.one;have:v=.int i:=by erw[zX,Rep]at r1;exact r1
  subst this;exact .inl ⟨i,rfl,q L H _ (.refl L H) c (Cj (L:=L) (H:=H))⟩
 .rename_i k;ext hk;let⟨v,rfl,r1⟩:=r.one;have:=E8 r1;subst this;exact .inr ⟨k,rfl,q L H _ (.refl L H) c (Cj (L:=L) (H:=H))⟩
 .cases hk
end
section
variable {X:Cx} {a b c e:Expr} {es rest:Yi} {pos p apos cpos:Pos}
def bJ {prog:Ym} {w:Yo} {A:Yn} {E:Yc} {s:Yl} {t b:Yt} {ws:Yf} {Q:Yc} (ht:IsTup s.heap t #[]) (hb:IsTup s.heap b ws.toArray) (h1:Q (.ref b) s) :
  wpAny (model prog w) A (binaryOp .Add (.ref t) (.ref b)) Q E s:=by
 let⟨⟨cls,dd,data,sl⟩,ho,hc,n,hd⟩:=id ht;let⟨⟨cls2,dd2,data2,sl2⟩,ho2,hc2,n2,hd2⟩:=id hb;simp only at hc hd hc2 hd2;subst hc hd hc2 hd2
 exact concat_meets ⟨_,ho,rfl⟩ ⟨_,ho2,rfl⟩ noFill_tuple_add seq_tuple_add PySem.F.slot_tuple_add PySem.F.entry_tuple_add (PySem.F.args_tuple_add_2 _ _)
   (tuple_addW0 t b #[] ws.toArray n n2 dd dd2 sl sl2 (by simp)) ⟨ho,ho2,h1⟩
def N9 (K:Yb):R2:=λx y H Q=>∃ a b ys,x=.ref a/\y=.ref b/\SqT K H a []/\SqT K H b ys/\Q (.ref b) H
def Ui:OpR X (binaryOp .Add) (N9 X.K):=by
 intro zB s Y H x y v u Q I rx ry h;let⟨a,b,ys,rfl,rfl,ha,hb,q⟩:=h;ext rx;ext ry;let⟨its,r1,p1,_⟩:=I.tuple ha;let⟨its2,r2,p2,_⟩:=I.tuple hb;cases Mx r1;calc bJ p1 p2 ⟨.ref b,H,I,rfl,q⟩
def G2:K2:=λx y M=>match CP x,CP y with
 |some xs,some ys=>if xs.length+ys.length<=sizeLine then some (.dat (.tup (xs++ys)),M) else none
 |_,_=>none
def So {K:Yb}:A9 K (λx y H Q=>Ry K x y H Q\/N9 K x y H Q) G2:=by
 intro L M M' H H0 x y d v w Q c rx ry hk q;erw[G2]at hk;cbv at hk
 .rename_i xs ys e1 e2;cbv at hk
  .rename_i hz;ext hk;let⟨p1,vs,rfl,h1,r1⟩:=EC rx e1;let⟨p2,ws,rfl,h2,r2⟩:=EC ry e2;cases xs with
   |nil=>
    calc .inr ⟨p1,p2,ws,rfl,rfl,.of (by erw[zI]at r1;subst r1;calc h1),.of h2,q L H _ (.refl L H) c ?_⟩;erw[zX,Rep];calc ⟨p2,ws,rfl,h2,r2⟩
   |cons x0 xr=>
    let hv:vs≠[]:=λz=>by have:=r1.length;rw[z]at this;simp at this
    refine .inl ⟨p1,p2,vs,ws,rfl,rfl,.of h1,.of h2,hv,by rw[r1.length,r2.length];exact hz,λz=>?_,λz pp hp=>?_⟩
    .have:ys=[]:=by
      have:=r2.length;rw[z]at this;cases ys with
      |nil=>rfl
      |cons _ _=>simp at this
     subst this;calc q L H _ (.refl L H) c ?_;erw[zX,Rep];rw[CU];exact ⟨p1,vs,rfl,h1,r1⟩
    .exact q L _ _ (.upd hp) (c.upd hp) (Rep.newTup hp (r1.app r2))
  .cases hk
 .cases hk
abbrev Bz:K2:=kOr Kq G2
variable {f g:FE}
def UX (h1:QE X a f) (h2:QE X b g):QE X (.BinOp a .Add b pos) (fOp Bz f g):=FV (Jx (Eg λ_ _ _ _=>Cj) So) (TJ.or (Sz.or Ui)) h1 h2
structure Kinds (K:Yb):Prop where
 k:∀ t T,t∈["NoneType", "bool", "int", "str", "list", "tuple", "dict"]->T∈["int", "bool", "str", "tuple"]->PySem.W.kitOne K (.type t) (.type T)=some (decide (t=T)||(decide (t = "bool")&&decide (T = "int")))
def FN (M:Mem):EV->Option String
 |.dat .non=>some "NoneType"
 |.dat (.bl _)=>some "bool"
 |.dat (.int _)=>some "int"
 |.dat (.str _)=>some "str"
 |.dat (.tup _)=>some "tuple"
 |.fl _=>some "list"
 |.dat (.ref n)=>match M[n]? with
  |some (.lst _)=>some "list"
  |some (.fro _)=>some "list"
  |some (.dict _)=>some "dict"
  |some (.dicT _)=>some "dict"
  |_=>none
 |.dat (.fn _ _)=>none
def jU {K:PySem.W.Frag} {L:List Addr} {M:Mem} {H H0:Hp} {x:EV} {v:V} {t:String} (c:Cor K L M H) (r:zX H0 L H x v) (h:FN M x=some t):TyOf K H v (.type t)/\t∈["NoneType", "bool", "int", "str", "list", "tuple", "dict"]:=by
 erw[FN]at h;cbv at h
 .cases h;erw[zX,Rep]at r;subst r;exact ⟨.non,by simp⟩
 .cases h;erw[zX,Rep]at r;subst r;exact ⟨.bl _,by simp⟩
 .cases h;erw[zX,Rep]at r;subst r;exact ⟨.int _,by simp⟩
 .cases h;erw[zX,Rep]at r;subst r;exact ⟨.str _,by simp⟩
 .cases h;erw[zX,Rep]at r;let⟨a,vs,rfl,e,_⟩:=r;exact ⟨.tup e,by simp⟩
 .cases h;let⟨p,vs,rfl,_,e,_⟩:=r;exact ⟨.lst e,by simp⟩
 .unfold zX Rep at r;let⟨a,rfl,e⟩:=r;cbv at h
  .rename_i e1;ext h;let⟨vs,q,_⟩:=c.obj _ a _ e e1;exact ⟨.lst q,by simp⟩
  .rename_i e1;ext h;let⟨o,vs,q,_⟩:=c.obj _ a _ e e1;exact ⟨.frz q,by simp⟩
  .rename_i e1;ext h;let⟨vs,q,_⟩:=c.obj _ a _ e e1;exact ⟨.dK q,by simp⟩
  .rename_i e1;ext h;let⟨vs,q,_⟩:=c.obj _ a _ e e1;exact ⟨.dT q,by simp⟩
  .cases h
 .cases h
def isT (t T:String):Bool:=decide (t=T)||(decide (t = "bool")&&decide (T = "int"))
def DA (T:String) (f:FE):FE:=λY M=>match f Y M with
 |some (x,M1)=>match FN M1 x with
  |some t=>some (.dat (.bl (isT t T)),M1)
  |none=>none
 |none=>none
def Si (K:Yb) (T:String):List V->Hp->VK->Prop:=λxs H Q=>∃ x t b,xs=[x,.ty T]/\TyOf K H x t/\PySem.W.kitOne K t (.type T)=some b/\Q (.bl b) H
def Ze:CY X (.builtin "isinstance") (Si X.K T):=by
 intro zB s Y H xs us Q I r h;let⟨x,t,b,rfl,ty,e,q⟩:=h;cases r with
 |cons r1 r2=>
  cases r2 with
  |cons r3 r4=>
   ext r4;ext r3;calc j0 I r1 ty e λtk=>⟨.bl b,H,I.tok _,rfl,q⟩
def JM (hK:Kinds X.K) (hT:T∈["int", "bool", "str", "tuple"]) (hg:Gl X "isinstance") (hm:X.mg "isinstance" = none) (hg2:Gl X y) (hm2:X.mg y=none) (hv2:bootBuiltins y=some (.type T)) (hn2:y ≠ "__name__") (hd2:(y==("__debug__" : Str))=false) (h:QE X e f)
  (he:starEach (e::[.Name y p2]) X.env=(false,eval e X.env)::starEach [.Name y p2] X.env:=by rfl) (he2:starEach [.Name y p2] X.env=(false,eval (.Name y p2) X.env)::starEach [] X.env:=by rfl) (hpl:(backTo pos (starEach [.Name y p2] X.env)).any (·.1)=false:=by rfl) :
  QE X (.Call (.Name "isinstance" p1) [e,.Name y p2] [] pos) (DA T f) :=
 .mk <| PE.imp (PV (r:=Si X.K T) Ze hg hm (by rfl) (E9 h.un (E9 (lG (v:=.ty T) hg2 hm2 hv2 rfl hn2 hd2) IK he2) he) () () he hpl) λτ H Q zz=>by
  let⟨L,Y,M,d,M',c,rs,hf,q⟩:=zz;erw[DA]at hf;cbv at hf
  .rename_i x M1 e1;cbv at hf
   .rename_i t e2;ext hf;refine (mkE c rs e1 (λL1 H1 v s1 c1 r1=>?_));let⟨ty,ht⟩:=jU c1 r1 e2;exact ⟨v,_,_,rfl,ty,hK.k t T ht hT,q L1 H1 _ s1 c1 (Bn (L:=L1) (H:=H1))⟩
   .cases hf
  .cases hf
def zI.two (h:zI L H [d,d'] vs):∃ v v',vs=[v,v']/\Rep L H d v/\Rep L H d' v':=by
 erw[zI]at h;let⟨v,r,rfl,h1,h2⟩:=h;let⟨v',rfl,h3⟩:=h2.one;calc ⟨v,v',rfl,h1,h3⟩
section
variable {fa:FAE}
def Ma (hg:Gl X "len") (hm:X.mg "len" = none) (ha:QAE X [e] fa) (he:starEach [e] X.env=(false,eval e X.env)::starEach [] X.env:=by rfl) (hpl:(backTo pos (starEach [] X.env)).any (·.1)=false:=by rfl):QE X (.Call (.Name "len" p) [e] [] pos) (fB zj fa) :=
 Hc bN dA PySem.boot_len hg hm ha () () he hpl
def ZL (hg:Gl X "tuple") (hm:X.mg "tuple" = none) (ha:QAE X [e] fa) (he:starEach [e] X.env=(false,eval e X.env)::starEach [] X.env:=by rfl) (hpl:(backTo pos (starEach [] X.env)).any (·.1)=false:=by rfl):QE X (.Call (.Name "tuple" p) [e] [] pos) (fB zt fa) :=
 Le Zj Um (by rfl) hg hm ha () () he hpl
def Tt (hg:Gl X "int") (hm:X.mg "int" = none) (ha:QAE X [e] fa) (he:starEach [e] X.env=(false,eval e X.env)::starEach [] X.env:=by rfl) (hpl:(backTo pos (starEach [] X.env)).any (·.1)=false:=by rfl):QE X (.Call (.Name "int" p) [e] [] pos) (fB CA fa) :=
 Le Zf XY (by rfl) hg hm ha () () he hpl
end
end
def Ji (sc scope:Y0):Bool:=scope.names.all λy=>
 (y.2 != .local||scope.names.lookup y.1==some .local)&&(y.2 != .cell||scope.names.lookup y.1==some .cell)&&(y.2 != .free||(sc.names.lookup y.1==some .cell||sc.names.lookup y.1==some .free))
def KS (N:Yk) (scope:Y0) (own:Yj):Bool:=(List.range N.length).all λi=>match N[i]? with
 |some x=>decide (i∈own)||(scope.names.lookup x==none)||(scope.names.lookup x==some .free)
 |none=>true
def SN (hk:scope.kind=.function) (hs:X.env.scope=sc) (hN:X.N=N) (h1:Ji sc scope=true) (h2:KS N scope own=true):CompIn X scope own:=by
 erw[Ji]at h1;rw[Aj]at h1;refine ⟨⟨hk,λy hy e=>?_,λy hy e=>?_,λy hy e=>?_⟩,λi x e=>?_⟩
 .have:=h1 y hy;simp[e]at this;exact this
 .have:=h1 y hy;simp[e]at this;exact this
 .have:=h1 y hy;simp[e]at this;show X.env.scope.names.lookup y.1=_\/X.env.scope.names.lookup y.1=_;rw[hs];exact this
 .unfold KS at h2;rw[Aj]at h2;rw[hN]at e;let hi:i<N.length:=(AK.mp e).1;have:=h2 i (~~~hi);rw[e]at this;simp only[Bool.or_eq_true,DD,beq_iff_eq,or_assoc]at this;calc this
def Gx (K:Yb):Bool:=K.all λp=>match p.2.cls with
 |.type n=>n != "list"
 |_=>true
theorem Kj:∀ {K:Yb},K.lookup a=some o->(a,o)∈K
 |[],h=>by ext h
 | (b,u)::r,h=>by
  let h':List.lookup a ((b,u)::r)=some o:=h;rw[D5]at h';cases q:a==b with
  |true=>rw[q]at h';ext h';rw[beq_iff_eq.mp q];calc AZ
  |false=>rw[q]at h';calc Aq _ (Kj h')
def Ph {K:PySem.W.Frag} (h:Gx K=true) {o:Obj} (e:K.lookup a=some o) (hc:o.cls=.type "list"):False:=by
 erw[Gx]at h;rw[Aj]at h;have:=h (a,o) (Kj e);simp[hc]at this
theorem O8:∀ (ns:Ye),zI L H (ns.map D.int) (ns.map V.int)
 |[]=> .nil
 |n::r=> .cons (by erw[Rep];rfl) (O8 r)
def Zc {K:Yb} {m:FF} {H:Hp} {a:Yt} {ns:Ye} {E:XK} (hL:Gx K=true) (hT:G4 K H) (hO:∀ b xs,H b≠some (.lst xs)) (hS:SqL K H a (ns.map V.int)) (h:∃ M',m [.ref 0] [.fro (ns.map D.int)]=some (.bl true,M')) :
  spF K 1 m [.ref a] H (λv _=>v=.bl true) E:=by
 let⟨M',e⟩:=h;let hf:∃ o,H a=some (.frz o (.lst (ns.map V.int))):=by
  rcases hS with (h1|h1)|⟨o,its,n,h1,h2,_⟩
  .exact (hO _ _ h1).elim
  .exact h1
  .exact (Ph hL h1 h2).elim
 let⟨o,hf⟩:=hf;refine ⟨[a],[.ref 0],[.fro (ns.map D.int)],_,_,⟨rfl,by simp,λn b m e1 e2=>?_,hT⟩,.cons ?_ .nil,rfl,e,λL' H' v s c r=>?_⟩
 .cases n with
  |zero=>simp at e1 e2;subst e1;subst e2;calc ⟨o,_,hf,O8 ns⟩
  |succ n=>simp at e1
 .unfold Rep;exact ⟨a,rfl,rfl⟩
 .unfold Rep at r;calc r
def Ok {α:Type} (x:Option (α × Mem)) (P:α->Mem->Prop):Prop:=∃ a M,x=some (a,M)/\P a M
def OkS (x:Option (Out × Sd × Mem)) (P:Out->Sd->Mem->Prop):Prop:=∃ o Y M,x=some (o,Y,M)/\P o Y M
def Ok.mono {α:Type} {x:Option (α × Mem)} {P Q:α->Mem->Prop} (h:Ok x P) (hq:∀ a M,P a M->Q a M):Ok x Q:=let ⟨a,M,e,p⟩:=h;⟨a,M,e,hq a M p⟩
def OkS.mono {x:Option (Out × Sd × Mem)} {P Q:Out->Sd->Mem->Prop} (h:OkS x P) (hq:∀ o Y M,P o Y M->Q o Y M):OkS x Q:=let ⟨a,Y,M,e,p⟩:=h;⟨a,Y,M,e,hq a Y M p⟩
def Bq {α:Type} {a:α} {M:Mem} {P:α->Mem->Prop}:Ok (some (a,M)) P ↔ P a M:=⟨λ⟨_,_,e,p⟩=>by ext e;exact p,λp=>⟨a,M,rfl,p⟩⟩
def Jd {α:Type} {P:α->Mem->Prop}:Ok (none:Option (α × Mem)) P ↔ False:=⟨(λ⟨_,_,e,_⟩=>(nomatch e)),λh=>h.elim⟩
def Xh {o:Out} {Y:Sd} {M:Mem} {P:Out->Sd->Mem->Prop}:OkS (some (o,Y,M)) P ↔ P o Y M:=⟨λ⟨_,_,_,e,p⟩=>by ext e;exact p,λp=>⟨o,Y,M,rfl,p⟩⟩
def DQ {i:Nat}:Ok (zC i Y M) P ↔ ∃ d,Y[i]?=some (some d)/\P (.dat d) M:=by
 erw[zC];constructor
 .rintro ⟨a,M1,e,p⟩;cbv at e
  .rename_i d e1;ext e;exact ⟨d,e1,p⟩
  .cases e
 .rintro ⟨d,e1,p⟩;rw[e1];calc ⟨_,_,rfl,p⟩
def Gv {d:D}:Ok (fC d Y M) P ↔ P (.dat d) M:=Bq
def ID {k:K2}:Ok (fOp k f g Y M) P ↔ Ok (f Y M) λx M1=>Ok (g Y M1) λy M2=>Ok (k x y M2) P:=by
 erw[fOp];constructor
 .rintro ⟨a,M1,e,p⟩;cbv at e
  .rename_i x M2 e1;cbv at e
   .rename_i y M3 e2;exact ⟨x,M2,e1,y,M3,e2,a,M1,e,p⟩
   .cases e
  .cases e
 .rintro ⟨x,M2,e1,y,M3,e2,a,M1,e,p⟩;rw[e1];dsimp only;rw[e2];calc ⟨a,M1,e,p⟩
def D0 (P:D->Mem->Prop):EV->Mem->Prop
 |.dat d,M=>P d M
 |.fl xs,M=>P (.ref M.length) (M++[.lst xs])
def Cv {P:D->Mem->Prop}:Ok (toD f Y M) P ↔ Ok (f Y M) (D0 P):=by
 erw[toD];constructor
 .rintro ⟨a,M1,e,p⟩;cbv at e
  .rename_i d M2 e1;ext e;exact ⟨_,_,e1,p⟩
  .rename_i xs M2 e1;ext e;exact ⟨_,_,e1,p⟩
  .cases e
 .rintro ⟨x,M2,e1,p⟩;rw[e1];cases x with
  |dat d=>calc ⟨d,M2,rfl,p⟩
  |fl xs=>calc ⟨_,_,rfl,p⟩
def zY {P:D->Mem->Prop} {d:D} {M:Mem}:D0 P (.dat d) M ↔ P d M:=Iff.rfl
def Zp {P:D->Mem->Prop} {xs:List D} {M:Mem}:D0 P (.fl xs) M ↔ P (.ref M.length) (M++[.lst xs]):=Iff.rfl
def EY:Ok (zK Y M) P ↔ P [] M:=Bq
def Fi {f:FD} {g:FA}:Ok (zD f g Y M) P ↔ Ok (f Y M) λd M1=>Ok (g Y M1) λds M2=>P (d::ds) M2:=by
 erw[zD];constructor
 .rintro ⟨a,M1,e,p⟩;cbv at e
  .rename_i x M2 e1;cbv at e
   .rename_i y M3 e2;ext e;exact ⟨x,M2,e1,y,_,e2,p⟩
   .cases e
  .cases e
 .rintro ⟨x,M2,e1,y,M3,e2,p⟩;rw[e1];dsimp only;rw[e2];calc ⟨_,_,rfl,p⟩
def Gi {a:FA}:Ok (BK a Y M) P ↔ Ok (a Y M) λds M1=>ds.length<=sizeLine/\P (.fl ds) M1:=by
 erw[BK];constructor
 .rintro ⟨x,M1,e,p⟩;cbv at e
  .rename_i ds M2 e1;cbv at e
   .rename_i hz;ext e;exact ⟨ds,_,e1,hz,p⟩
   .cases e
  .cases e
 .rintro ⟨ds,M1,e1,hz,p⟩;rw[e1];dsimp only;rw[AD hz];calc ⟨_,_,rfl,p⟩
def Fu {m:FF} {a:FA}:Ok (zR m a Y M) P ↔ Ok (a Y M) λds M1=>Ok (m ds M1) λd M2=>P (.dat d) M2:=by
 erw[zR];constructor
 .rintro ⟨x,M1,e,p⟩;cbv at e
  .rename_i ds M2 e1;cbv at e
   .rename_i d M3 e2;ext e;exact ⟨ds,_,e1,d,_,e2,p⟩
   .cases e
  .cases e
 .rintro ⟨ds,M1,e1,d,M2,e2,p⟩;rw[e1];dsimp only;rw[e2];calc ⟨_,_,rfl,p⟩
def Hh {k:KM} {a:FA}:Ok (fM k f a Y M) P ↔ Ok (f Y M) λx M1=>(∃ xs,B6 M1 x=some xs)/\Ok (a Y M1) λds M2=>Ok (k x ds M2) λd M3=>P (.dat d) M3:=by
 erw[fM];constructor
 .rintro ⟨x,M1,e,p⟩;cbv at e
  .rename_i y M2 e1;cbv at e
   .rename_i xs e2;cbv at e
    .rename_i ds M3 e3;cbv at e
     .rename_i d M4 e4;ext e;exact ⟨y,_,e1,⟨xs,e2⟩,ds,_,e3,d,_,e4,p⟩
     .cases e
    .cases e
   .cases e
  .cases e
 .rintro ⟨y,M1,e1,⟨xs,e2⟩,ds,M2,e3,d,M3,e4,p⟩;rw[e1];dsimp only;rw[e2];dsimp only;rw[e3];dsimp only;rw[e4];calc ⟨_,_,rfl,p⟩
def blP (P:Bool->Mem->Prop):EV->Mem->Prop
 |.dat (.bl k),M=>P k M
 |_,_=>False
def Gp {P:Bool->Mem->Prop} {k:Bool} {M:Mem}:blP P (.dat (.bl k)) M ↔ P k M:=Iff.rfl
def Qi {P:Bool->Mem->Prop}:Ok (tst f Y M) P ↔ Ok (f Y M) (blP P):=by
 erw[tst];constructor
 .rintro ⟨x,M1,e,p⟩;cbv at e
  .rename_i i M2 e1;ext e;exact ⟨_,_,e1,p⟩
  .cases e
 .rintro ⟨x,M1,e1,p⟩;rw[e1];cases x with
  |fl xs=>calc p.elim
  |dat d=>
   cases d with
   |bl i=>calc ⟨_,_,rfl,p⟩
   |_=>calc p.elim
def PF:Ok (zo Y M) P ↔ P true M:=Bq
def PM:Ok (B0 s Y M) P ↔ Ok (s Y M) λk M1=>P (!k) M1:=by
 erw[B0];constructor
 .rintro ⟨x,M1,e,p⟩;cbv at e
  .rename_i k M2 e1;ext e;exact ⟨k,_,e1,p⟩
  .cases e
 .rintro ⟨k,M1,e1,p⟩;rw[e1];calc ⟨_,_,rfl,p⟩
def nxP (k:Sd->Mem->Prop) (P:Out->Sd->Mem->Prop):Out->Sd->Mem->Prop
 |.nx,Y,M=>k Y M
 |o,Y,M=>P o Y M
def zT {k:Sd->Mem->Prop}:nxP k P .nx Y M ↔ k Y M:=Iff.rfl
def EJ {k:Sd->Mem->Prop} {d:D}:nxP k P (.ret d) Y M ↔ P (.ret d) Y M:=Iff.rfl
def BU:OkS (AV Y M) P ↔ P .nx Y M:=Xh
def zN:OkS (zS f g Y M) P ↔ OkS (f Y M) (nxP (λσ1 M1=>OkS (g σ1 M1) P) P):=by
 erw[zS];constructor
 .rintro ⟨o,σ1,M1,e,p⟩;cbv at e
  .rename_i σ2 M2 e1;exact ⟨_,_,_,e1,o,σ1,M1,e,p⟩
  .rename_i hn;calc ⟨o,σ1,M1,e,?_⟩;cases o with
   |nx=>calc absurd e (hn σ1 M1)
   |_=>exact p
 .rintro ⟨o,σ1,M1,e1,p⟩;rw[e1];cases o with
  |nx=>calc p
  |_=>calc ⟨_,_,_,rfl,p⟩
def BJ {c:FT}:OkS (sIf c f g Y M) P ↔ Ok (c Y M) λk M1=>if k then OkS (f Y M1) P else OkS (g Y M1) P:=by
 erw[sIf];constructor
 .rintro ⟨o,σ1,M1,e,p⟩;cbv at e
  .rename_i M2 e1;exact ⟨_,_,e1,by dsimp only;rw[AD rfl];calc ⟨o,σ1,M1,e,p⟩⟩
  .rename_i M2 e1;exact ⟨_,_,e1,by simpa using ⟨o,σ1,M1,e,p⟩⟩
  .cases e
 .rintro ⟨x,M1,e1,p⟩;rw[e1];cases x with
  |true=>simpa using p
  |false=>simpa using p
def OL {h:FE}:OkS (zg h Y M) P ↔ Ok (h Y M) (D0 λd M1=>P (.ret d) Y M1):=by
 rw[<-Cv];erw[zg];constructor
 .rintro ⟨o,σ1,M1,e,p⟩;cbv at e
  .rename_i d M2 e1;ext e;exact ⟨_,_,e1,p⟩
  .cases e
 .rintro ⟨x,M1,e1,p⟩;rw[e1];calc ⟨_,_,_,rfl,p⟩
def zu {i:Nat} {h:FE}:OkS (AN i h Y M) P ↔ Ok (h Y M) (D0 λd M1=>P .nx (Y.set i (some d)) M1):=by
 rw[<-Cv];erw[AN];constructor
 .rintro ⟨o,σ1,M1,e,p⟩;cbv at e
  .rename_i d M2 e1;ext e;exact ⟨_,_,e1,p⟩
  .cases e
 .rintro ⟨x,M1,e1,p⟩;rw[e1];calc ⟨_,_,_,rfl,p⟩
def HD {h:FE}:OkS (DK h Y M) P ↔ Ok (h Y M) λ_ M1=>P .nx Y M1:=by
 erw[DK];constructor
 .rintro ⟨o,σ1,M1,e,p⟩;cbv at e
  .rename_i d M2 e1;ext e;exact ⟨_,_,e1,p⟩
  .cases e
 .rintro ⟨x,M1,e1,p⟩;rw[e1];calc ⟨_,_,_,rfl,p⟩
def O6 {v o i:FE}:OkS (FJ v o i Y M) P ↔ Ok (v Y M) (D0 λd M1=>Ok (o Y M1) λx M2=>Ok (i Y M2) (D0 λj M3=>∃ M4,II x j d M3=some M4/\P .nx Y M4)):=by
 rw[<-Cv];erw[FJ];constructor
 .rintro ⟨o,σ1,M1,e,p⟩;cbv at e
  .rename_i d M2 e1;cbv at e
   .rename_i x M3 e2;cbv at e
    .rename_i j M4 e3;cbv at e
     .rename_i M5 e4;ext e;calc ⟨_,_,e1,_,_,e2,?_⟩;dsimp only;rw[<-Cv];exact ⟨_,_,e3,_,e4,p⟩
     .cases e
    .cases e
   .cases e
  .cases e
 .rintro ⟨d,M1,e1,x,M2,e2,p⟩;rw[<-Cv]at p;let⟨j,M3,e3,M4,e4,p⟩:=p;rw[e1];dsimp only;rw[e2];dsimp only;rw[e3];dsimp only;rw[e4];calc ⟨_,_,_,rfl,p⟩
def Az {n:Nat} {ds:List D} {Q:D->Mem->Prop}:Ok (AS n f ds M) Q ↔ OkS (f (ds.map some++List.replicate (n-ds.length) none) M) λo _ M1=>match o with|.ret d=>Q d M1|.nx=>Q .non M1|_=>False:=by
 erw[AS];constructor
 .rintro ⟨o,M1,e,p⟩;cbv at e
  .rename_i d σ1 M2 e1;ext e;exact ⟨_,_,_,e1,p⟩
  .rename_i σ1 M2 e1;ext e;exact ⟨_,_,_,e1,p⟩
  .cases e
 .rintro ⟨o,σ1,M1,e1,p⟩;rw[e1];cases o with
  |ret d=>calc ⟨_,_,rfl,p⟩
  |nx=>calc ⟨_,_,rfl,p⟩
  |brk=>calc p.elim
  |cnt=>calc p.elim
theorem DP {g:FG} {b:FS} {all:List D} {gd:Option (Mem->Prop)} (I:List D->Sd->Mem->Prop)
  (hs:∀ x r Y M,I (x::r) Y M->Br gd all M /\ ∃ σ1,g x Y=some σ1/\OkS (b σ1 M) λo σ2 M2=>match o with|.nx=>I r σ2 M2|.cnt=>I r σ2 M2|.brk=>P .nx σ2 M2|.ret d=>P (.ret d) σ2 M2)
  (he:∀ Y M,I [] Y M->Br gd all M/\P .nx Y M):∀ (xs:List D) (Y:Sd) (M:Mem),I xs Y M->OkS (DN g b all gd xs Y M) P
 |[],Y,M,hi=>by
  erw[DN];let⟨h1,h2⟩:=he Y M hi;rw[AD h1];calc ⟨_,_,_,rfl,h2⟩
 |x::r,Y,M,hi=>by
  erw[DN];let⟨h1,σ1,e1,o,σ2,M2,e2,q⟩:=hs x r Y M hi;rw[AD h1,e1];dsimp only;rw[e2];cases o with
  |nx=>calc DP I hs he r σ2 M2 q
  |cnt=>calc DP I hs he r σ2 M2 q
  |brk=>calc ⟨_,_,_,rfl,q⟩
  |ret d=>calc ⟨_,_,_,rfl,q⟩
def CK {i:FI} {g:FG} {b:FS}:OkS (BN i g b Y M) P ↔ ∃ xs gd M1,i Y M=some (xs,gd,M1)/\OkS (DN g b xs gd xs Y M1) P:=by
 erw[BN];constructor
 .rintro ⟨o,σ1,M1,e,p⟩;cbv at e
  .rename_i xs gd M2 e1;exact ⟨_,_,_,e1,_,_,_,e,p⟩
  .cases e
 .rintro ⟨xs,gd,M1,e1,p⟩;rw[e1];calc p
theorem IP {g:FG} {tc:FT} {te:FE} {all:List D} {gd:Option (Mem->Prop)} (I:List D->List D->Mem->Prop)
  (hs:∀ x r acc M,I (x::r) acc M->Br gd all M /\ ∃ σ1,g x Y=some σ1/\Ok (tc σ1 M) λk M1=>if k then Ok (te σ1 M1) (D0 λd M2=>I r (acc++[d]) M2) else I r acc M1)
  {Q:List D->Mem->Prop} (he:∀ acc M,I [] acc M->Br gd all M/\Q acc M):∀ (xs acc:List D) (M:Mem),I xs acc M->Ok (BX g tc te Y all gd xs M) λys M1=>Q (acc++ys) M1
 |[],acc,M,hi=>by
  erw[BX];let⟨h1,h2⟩:=he acc M hi;rw[AD h1];calc ⟨_,_,rfl,by simpa using h2⟩
 |x::r,acc,M,hi=>by
  erw[BX];let⟨h1,σ1,e1,k,M1,e2,q⟩:=hs x r acc M hi;rw[AD h1,e1];dsimp only;rw[e2];cases k with
  |false=>calc IP I hs he r acc M1 (~~~q)
  |true=>
   rw[AD rfl,<-Cv]at q;let⟨d,M2,e3,q⟩:=q;dsimp only;rw[e3];let⟨ys,M3,e4,p⟩:=IP I hs he r (acc++[d]) M2 q;dsimp only;rw[e4];calc ⟨_,_,rfl,by simpa using p⟩
def Ga {own:Yj} {i:FI} {g:FG} {tc:FT} {te:FE} {Q:EV->Mem->Prop}:Ok (Ae own i g tc te Y M) Q ↔ ∃ xs gd M1,i Y M=some (xs,gd,M1)/\xs.length<=sizeLine/\Ok (BX g tc te (Bi own Y) xs gd xs M1) λys M2=>Q (.fl ys) M2:=by
 erw[Ae];constructor
 .rintro ⟨o,M1,e,p⟩;cbv at e
  .rename_i xs gd M2 e1;cbv at e
   .rename_i hz;cbv at e
    .rename_i ys M3 e2;ext e;exact ⟨_,_,_,e1,hz,_,_,e2,p⟩
    .cases e
   .cases e
  .cases e
 .rintro ⟨xs,gd,M1,e1,hz,ys,M2,e2,p⟩;rw[e1];dsimp only;rw[AD hz,e2];calc ⟨_,_,rfl,p⟩
def EW {h:FE} {x:EV} {M1:Mem} {xs:List D} (e:h Y M=some (x,M1)) (e2:BA M1 x=some xs):Am h Y M=some (xs,IS x xs,M1):=by
 erw[Am];rw[e];dsimp only;rw[e2]
def Q8 {a:FA} {M1:Mem} {j:Int} (e:a Y M=some ([.int j],M1)) (h1:0<=j) (h2:j<2 ^ 62):BG a Y M=some ((List.range j.toNat).map λ(k:Nat)=>D.int k,none,M1):=by
 erw[BG];rw[e];dsimp only;rw[AD ⟨(),h2⟩]
def KL:Ok (Bz (.dat (.int i)) (.dat (.int j)) M) P ↔ P (.dat (.int (i+j))) M:=Bq
def RP:Ok (DJ (.dat (.int i)) (.dat (.int j)) M) P ↔ P (.dat (.int (i-j))) M:=Bq
def UM:Ok (DS (.dat (.int i)) (.dat (.int j)) M) P ↔ HY i j=true/\P (.dat (.int (i*j))) M:=by
 erw[DS,kI];dsimp only;split
 .rename_i h;rw[Bq];simp[h]
 .rename_i h;rw[Jd];simp[h]
def eE:Ok (Cd (.dat (.int i)) (.dat (.int j)) M) P ↔ 0<j/\P (.dat (.int (i % j))) M:=by
 erw[Cd,kI];dsimp only;split
 .rename_i h;rw[Bq];simp at h;simp[h]
 .rename_i h;rw[Jd];simp at h;simp;intro h';omega
def fR:Ok (GK (.dat (.int i)) (.dat (.int j)) M) P ↔ (0<j/\j<1073741824)/\P (.dat (.int (i / j))) M:=by
 erw[GK,kI];dsimp only;split
 .rename_i h;rw[Bq];simp at h;simp[h]
 .rename_i h;rw[Jd];simp at h;simp;intro h' h2;have:=h h';omega
def mX:Ok (Gs (.dat (.int i)) (.dat (.int j)) M) P ↔ (0<=j/\j<=1000000/\i.natAbs<2 ^ 64)/\P (.dat (.int (i ^ j.toNat))) M:=by
 erw[Gs,kI];dsimp only;split
 .rename_i h;rw[Bq];simp only[Au,DD]at h;simp[h]
 .rename_i h;rw[Jd];simp only[Au,DD,not_and]at h;simp only[false_iff,not_and];intro ⟨a,b,c⟩;calc absurd c (h ⟨a,b⟩)
def Ih:Ok (kLt (.dat (.int i)) (.dat (.int j)) M) P ↔ P (.dat (.bl (decide (i<j)))) M:=Bq
def KA:Ok (kLe (.dat (.int i)) (.dat (.int j)) M) P ↔ P (.dat (.bl (decide (i<=j)))) M:=Bq
def Mp:Ok (kGt (.dat (.int i)) (.dat (.int j)) M) P ↔ P (.dat (.bl (decide (j<i)))) M:=Bq
def CM:Ok (kEq (.dat (.int i)) (.dat (.int j)) M) P ↔ P (.dat (.bl (decide (i=j)))) M:=by
 have:kEq (.dat (.int i)) (.dat (.int j)) M=some (.dat (.bl (decide (V.int i=V.int j))),M):=rfl;rw[this,Bq];simp
def U3 {x:EV} {xs:List D} {d:D} (h:BA M x=some xs) (hd:atI xs i=some d) (p:P (.dat d) M):Ok (kIx x (.dat (.int i)) M) P:=by
 have:kIx x (.dat (.int i)) M=some (.dat d,M):=by erw[kIx];dsimp only;rw[h];dsimp only;rw[hd]
 rw[this,Bq];calc p
def Ln {xs:List D} {k:Nat} {d:D} (h:xs[k]?=some d):atI xs (k:Int)=some d:=Ca h
def Ii {xs:List D} {i:Int} {d:D} (h0:0<=i) (h:xs[i.toNat]?=some d):atI xs i=some d:=by
 have:i=((i.toNat:Nat):Int):=()
 rw[this];calc Ca h
def fH {x:EV} {xs:List D} (h:BA M x=some xs):Ok (zj [x] M) P ↔ P (.dat (.int xs.length)) M:=by
 have:zj [x] M=some (.dat (.int xs.length),M):=by erw[zj];dsimp only;rw[h]
 rw[this,Bq]
def Wc {x:EV} {xs:List D} (h:BA M x=some xs):Ok (zt [x] M) P ↔ P (.dat (.tup xs)) M:=by
 have:zt [x] M=some (.dat (.tup xs),M):=by erw[zt];dsimp only;rw[h]
 rw[this,Bq]
def J0 {k:Bool}:Ok (CA [.dat (.bl k)] M) P ↔ P (.dat (.int (if k then 1 else 0))) M:=Bq
def zQ {xs:List D}:BA M (.dat (.tup xs))=some xs:=rfl
def F5 {xs:List D}:BA M (.fl xs)=some xs:=rfl
def LJ {xs:List D}:B6 M (.fl xs)=some xs:=rfl
def GY {n:Nat} {xs:List D} (h:M[n]?=some (.lst xs)):B6 M (.dat (.ref n))=some xs:=by erw[B6];dsimp only;rw[h]
def UT {n:Nat} {xs:List D} (h:M[n]?=some (.fro xs)):B6 M (.dat (.ref n))=some xs:=by erw[B6];dsimp only;rw[h]
def BW {n:Nat} {xs:List D} (h:M[n]?=some (.lst xs)):BA M (.dat (.ref n))=some xs:=GY h
def Nt {n:Nat} {xs:List D} (h:M[n]?=some (.fro xs)):BA M (.dat (.ref n))=some xs:=UT h
def Je {n:Nat} {xs:List D} {d:D} {Q:D->Mem->Prop} (h:M[n]?=some (.lst xs)) (hz:xs.length<sizeLine):Ok (Dn (.dat (.ref n)) [d] M) Q ↔ Q .non (M.set n (.lst (xs++[d]))):=by
 have:Dn (.dat (.ref n)) [d] M=some (.non,M.set n (.lst (xs++[d]))):=by erw[Dn];dsimp only;rw[h];dsimp only;rw[AD hz]
 rw[this,Bq]
def SW {n k:Nat} {xs:List D} {d:D} (h:M[n]?=some (.lst xs)) (hk:k<xs.length):II (.dat (.ref n)) (.int k) d M=some (M.set n (.lst (xs.set k d))):=by
 erw[II];dsimp only;rw[h];dsimp only;let e:ixN xs.length (k:Int)=some k:=by erw[ixN];rw[AD (),AD ()];simp
 rw[e]
def Mh {m:FF} {ds:List D} {M:Mem} {Q:D->Mem->Prop} (h:Ok (m ds M) λd M1=>(D.und M.length d=true/\M.length<=M1.length /\ ∀ (j:Nat) u,j<M.length->M1[j]?=some u->MO.und M.length u=true)/\Q d (M1.take M.length)):Ok (EE m ds M) Q:=by
 let⟨d,M1,e,⟨h1,h2,h3⟩,q⟩:=h;erw[EE];rw[e];dsimp only;rw[AD]
 .exact ⟨_,_,rfl,q⟩
 .simp only[Au,DD,Aj];refine ⟨⟨h1,λu hu=>?_⟩,h2⟩;let⟨j,hj⟩:=List.getElem?_of_mem hu;let hlt:j<M.length:=by
   have:=(AK.mp hj).1;rw[Bp]at this;omega
  rw[List.getElem?_take_of_lt hlt]at hj;calc h3 j u hlt hj
def DX {m:FF} {ds:List D} {M:Mem} {Q:D->Mem->Prop} (h0:D.unds 0 ds=true) (h:Ok (m ds []) λd _=>D.und 0 d=true/\Q d M):Ok (Ct m ds M) Q:=by
 let⟨d,M1,e,h1,q⟩:=h;erw[Ct];rw[AD h0,e];dsimp only;rw[AD h1];calc ⟨_,_,rfl,q⟩
def TIt.but (x:h.IsTupleIter a t i) (hs:Heap.ExtBut b h h') (n:a≠b):h'.IsTupleIter a t i:=x.extBut hs n
def Tup.but (x:h.IsTuple a its) (hs:Heap.ExtBut b h h') (n:a≠b):h'.IsTuple a its:=x.extBut hs n
def JT (I:s.heap.IsTupleIter it t i) (T:s.heap.IsTuple t its) (hx:its[i]?=some x)
  (q:∀ h',h'.IsTupleIter it t (i+1)->Heap.SameBut it s.heap h'->Q x { s with heap:=h' }):wpAny (model prog w) A (Builtin.SmallTypes.nextOf (.ref it)) Q E s:=by
 let⟨o,O,C,FD⟩:=id I;let⟨u,U,_,m,G⟩:=T;erw[Builtin.SmallTypes.nextOf];calc AA (CG I.typeIs PySem.F.slot_tuple_iterator_next (BQ PySem.F.slot_tuple_iterator_next I.typeIs PySem.F.entry_tuple_iterator_next ?_ (PySem.F.args_tuple_iterator_next_1 _)));calc AA (m:=field (.ref it) 0) (Bg O FD (x:=.ref t) rfl ?_);rw[AE (show ¬ ((Value.ref t==Value.none)=true) by calc Ab)];calc AA (Bg O FD rfl ?_);calc AA (D7 U G ?_);simp only[hx,Bt];calc AA (Dt O FD (by simp) (AB ⟨x,rfl,AB (q _ ⟨_,EN _ O (Obj.isFreed_of_fields (Dx FD _)),(Obj.cls_mapFields ..).trans C,?_⟩ (Cy ..))⟩));rw[Dx FD];simp[rawInt]
def JO (hh:A.handled=none) (I:s.heap.IsTupleIter it t i) (T:s.heap.IsTuple t its) (hx:its[i]?=none)
  (q:∀ h' e,Heap.ExtBut it s.heap h'->(∃ o,h'.get? e=some o/\o.cls=.type "StopIteration")->E (.ref e) { s with heap:=h' }):wpAny (model prog w) A (Builtin.SmallTypes.nextOf (.ref it)) Q E s:=by
 let⟨o,O,C,FD⟩:=id I;let⟨u,U,_,m,G⟩:=T;erw[Builtin.SmallTypes.nextOf];calc AA (CG I.typeIs PySem.F.slot_tuple_iterator_next (BQ PySem.F.slot_tuple_iterator_next I.typeIs PySem.F.entry_tuple_iterator_next ?_ (PySem.F.args_tuple_iterator_next_1 _)));calc AA (m:=field (.ref it) 0) (Bg O FD (x:=.ref t) rfl ?_);rw[AE (show ¬ ((Value.ref t==Value.none)=true) by calc Ab)];calc AA (Bg O FD rfl ?_);calc AA (D7 U G ?_);simp only[hx,Bt];calc AA (Bx (AA (Dt O FD (by simp) ?_)));calc AA ?_;simp only[newTuple,newExc];calc AA (BI (AA (wpAny_of_eq (by first|rfl|(simp only[firstArgMember];rfl)) (BI ?_ (by size_fits)))) (by size_fits));simp only[raiseNew];calc AA (wpAny_handled ?_);first|rw[hh]|rw[show A.in1.handled=none from hh]
 calc AA (AB (wpAny_throw (q _ _ (((Cy ..).extBut.push _).push _) ⟨_,AM _ rfl,rfl⟩)))
structure ZipT (h:Heap) (z TI TO i1 i2 t1 t2:Yt) (f:Yu) (k1 k2:Nat):Prop where
 z:IsZip h z TI TO f
 ti:IsPair h TI (.ref i1) (.ref i2)
 to:∃ a b,IsPair h TO a b
 a:h.IsTupleIter i1 t1 k1
 b:h.IsTupleIter i2 t2 k2
def fP {z TI TO i1 i2 t1 t2:Yt} {k:Nat} {xs ys:Yp} {x y:Yu} {Q:Option Value->Shared->Prop} (D:ZipApart z TI TO i1 i2 t1 t2) (Z:ZipT s.heap z TI TO i1 i2 t1 t2 .none k k)
  (T1:s.heap.IsTuple t1 xs) (T2:s.heap.IsTuple t2 ys) (hx:xs[k]?=some x) (hy:ys[k]?=some y)
  (q:∀ h',ZipT h' z TI TO i1 i2 t1 t2 (rawInt ⇑s) (k+1) (k+1)->IsPair h' ⇑s x y ->
   (∀ c o,c∉[z,TO,i1,i2]->s.heap.get? c=some o->h'.get? c=some o)->Q (some (.ref ⇑s)) { s with heap:=h' }):wpAny (model prog w) A (pyNext (.ref z)) Q E s:=by
 let⟨Z0,P0,⟨a,b,O0⟩,I1,I2⟩:=Z;let ty:s.TypeIs (.ref z) "zip" := ⟨_,Z0,rfl⟩;erw[pyNext];calc AA (DM (CG ty PySem.F.slot_zip_next (BQ PySem.F.slot_zip_next ty PySem.F.entry_zip_next ?_ (PySem.F.args_zip_next_1 _))));calc AA (m:=field (.ref z) 2) (Bg Z0 rfl rfl ?_);calc AA (Bg Z0 rfl rfl ?_);calc AA (D7 P0 rfl ?_);calc AA ?_;erw[Builtin.SmallTypes.ownedTupleIsFree];calc AA (Bg Z0 rfl rfl (AB ?_));simp only[if_true];refine AA (Bx (AA (Bg Z0 rfl rfl (AA (Dr Z0 (by simp) λh1 Z1 e1=>?_)))));replace Z1:IsZip h1 z TI TO .ellipsis:=Z1;calc AA ?_;simp only[List.forIn_cons,List.forIn_nil,List.zipIdx_cons,List.zipIdx_nil];refine AA (AA (wpAny_onRaise (AA (JT (TIt.but I1 e1.extBut D.i1z) (Tup.but T1 e1.extBut D.l1z) hx λh2 J1 e2=>AB ?_))));let O2:IsPair h2 TO a b:=e2.extBut _ _ D.TOi1 (e1.extBut _ _ D.TOz O0);refine AA (D7 O2 rfl (AA (wpAny_updateSeq_pair O2 λh3 O3 e3=>AA (wpAny_letGo (AB ?_)))));replace O3:IsPair h3 TO x b:=O3
 refine AA (AA (wpAny_onRaise (AA (JT (TIt.but (TIt.but (TIt.but I2 e1.extBut D.i2z) e2.extBut D.i12.symm) e3.extBut D.TOi2.symm)
  (Tup.but (Tup.but (Tup.but T2 e1.extBut D.l2z) e2.extBut D.l2i1) e3.extBut D.l2TO) hy λh4 J2 e4=>AB ?_))))
 let O4:IsPair h4 TO x b:=e4.extBut _ _ D.TOi2 O3;refine AA (D7 O4 rfl (AA (wpAny_updateSeq_pair O4 λh5 O5 e5=>AA (wpAny_letGo (AB (AB ?_))))));replace O5:IsPair h5 TO x y:=O5;calc AA (D7 O5 rfl (AA (wpAny_newTuple ?_)));let sz:h5.objs.size=⇑s:=by rw[e5.1,e4.1,e3.1,e2.1,e1.1]
 let Z5:IsZip h5 z TI TO .ellipsis:=e5.extBut _ _ D.TOz.symm (e4.extBut _ _ D.i2z.symm (e3.extBut _ _ D.TOz.symm (e2.extBut _ _ D.i1z.symm Z1)));let kp:∀ c o,c∉[z,TO,i1,i2]->s.heap.get? c=some o->h5.get? c=some o:=λc o n e=>by
  simp only[AJ,CN,or_false,not_or]at n;let⟨n1,n2,n3,n4⟩:=n;exact e5.extBut _ _ n2 (e4.extBut _ _ n4 (e3.extBut _ _ n2 (e2.extBut _ _ n3 (e1.extBut _ _ n1 e))))
 let A5:h5.IsTupleIter i1 t1 (k+1):=TIt.but (TIt.but (TIt.but J1 e3.extBut D.TOi1.symm) e4.extBut D.i12) e5.extBut D.TOi1.symm;let B5:h5.IsTupleIter i2 t2 (k+1):=TIt.but J2 e5.extBut D.TOi2.symm;let zl:z<h5.objs.size:=AH Z5;calc AA ?_;erw[Builtin.SmallTypes.ownedTupleHandOut];let Z6:IsZip (h5.push { cls:=.type "tuple", data:=.seq #[x,y] }) z TI TO .ellipsis:=AG _ Z5;refine AA (Dr Z6 (by simp) λh7 Z7 e7=>?_);replace Z7:IsZip h7 z TI TO (rawInt h5.objs.size):=Z7;refine Dr Z7 (by simp) λh8 Z8 e8=>?_;replace Z8:IsZip h8 z TI TO (rawInt h5.objs.size):=Z8;let up:∀ c o,c≠z->h5.get? c=some o->h8.get? c=some o:=λc o n e=>e8.extBut _ _ n (e7.extBut _ _ n (AG _ e));let N8:IsPair h8 h5.objs.size x y:=e8.extBut _ _ (Cz zl) (e7.extBut _ _ (Cz zl) (AM _ rfl));rw[sz]at Z8 N8;calc AB ⟨_,rfl,?_⟩;rw[sz];refine AB (q h8 ⟨Z8,up _ _ D.TIz (kp _ _ (by simp[D.TIz,D.TITO,D.TIi1,D.TIi2]) P0),⟨_,_,up _ _ D.TOz O5⟩,?_,?_⟩ N8 λc o n e=>up c o (λm=>n (by simp[m])) (kp c o n e))
 .obtain ⟨o,e,r⟩:=A5;exact ⟨o,up _ _ D.i1z e,r⟩
 .obtain ⟨o,e,r⟩:=B5;calc ⟨o,up _ _ D.i2z e,r⟩
def WK {z TI TO i1 i2 t1 t2:Yt} {k:Nat} {xs ys:Yp} {Q:Option Value->Shared->Prop} (hh:A.handled=none) (D:ZipApart z TI TO i1 i2 t1 t2) (Z:ZipT s.heap z TI TO i1 i2 t1 t2 .none k k)
  (T1:s.heap.IsTuple t1 xs) (T2:s.heap.IsTuple t2 ys) (he:xs[k]?=none\/ys[k]?=none)
  (q:∀ h',(∀ c o,c∉[z,TO,i1,i2]->s.heap.get? c=some o->h'.get? c=some o)->Q none { s with heap:=h' }):wpAny (model prog w) A (pyNext (.ref z)) Q E s:=by
 let⟨Z0,P0,⟨a,b,O0⟩,I1,I2⟩:=Z;let ty:s.TypeIs (.ref z) "zip" := ⟨_,Z0,rfl⟩
 let stop:∀ (e:Addr) (h':Heap),(∀ c o,c∉[z,TO,i1,i2]->s.heap.get? c=some o->h'.get? c=some o)->(∃ o,h'.get? e=some o/\o.cls=.type "StopIteration") ->
   wpAny (model prog w) A (do if (<- isInstance (.ref e) (.type "StopIteration")) then pure none else throw (.ref e):Sem (Option Value)) Q E { s with heap:=h' }:=λe h' k1 ⟨o,e1,e2⟩=>
  AA (wpAny_isInstance ⟨o,e1,e2⟩ isSubtype_stop (AB (q h' k1)))
 erw[pyNext];calc AA (DM (CG ty PySem.F.slot_zip_next (BQ PySem.F.slot_zip_next ty PySem.F.entry_zip_next ?_ (PySem.F.args_zip_next_1 _))));calc AA (m:=field (.ref z) 2) (Bg Z0 rfl rfl ?_);calc AA (Bg Z0 rfl rfl ?_);calc AA (D7 P0 rfl ?_);calc AA ?_;erw[Builtin.SmallTypes.ownedTupleIsFree];calc AA (Bg Z0 rfl rfl (AB ?_));simp only[if_true];refine AA (Bx (AA (Bg Z0 rfl rfl (AA (Dr Z0 (by simp) λh1 Z1 e1=>?_)))));replace Z1:IsZip h1 z TI TO .ellipsis:=Z1;calc AA ?_;simp only[List.forIn_cons,List.forIn_nil,List.zipIdx_cons,List.zipIdx_nil];cases hx:xs[k]? with
 |none=>
  refine AA (AA (wpAny_onRaise (AA (JO hh (TIt.but I1 e1.extBut D.i1z) (Tup.but T1 e1.extBut D.l1z) hx λh2 e e2 he=>?_))));let⟨oe,o1,o2⟩:=he;let Z2:IsZip h2 z TI TO .ellipsis:=e2 _ _ D.i1z.symm Z1;let ne:e≠z:=λm=>by subst m;rw[Z2]at o1;ext o1;simp at o2
  refine Dr Z2 (by simp) λh3 _ e3=>stop e h3 (λc o n x=>?_) ⟨oe,e3.extBut _ _ ne o1,o2⟩;simp only[AJ,CN,or_false,not_or]at n;calc e3.extBut _ _ n.1 (e2 _ _ n.2.2.1 (e1.extBut _ _ n.1 x))
 |some x=>
  let hy:ys[k]?=none:=by
   rcases he with m|m
   .rw[hx]at m;ext m
   .exact m
  refine AA (AA (wpAny_onRaise (AA (JT (TIt.but I1 e1.extBut D.i1z) (Tup.but T1 e1.extBut D.l1z) hx λh2 J1 e2=>AB ?_))));let O2:IsPair h2 TO a b:=e2.extBut _ _ D.TOi1 (e1.extBut _ _ D.TOz O0);refine AA (D7 O2 rfl (AA (wpAny_updateSeq_pair O2 λh3 O3 e3=>AA (wpAny_letGo (AB ?_)))))
  refine AA (AA (wpAny_onRaise (AA (JO hh (TIt.but (TIt.but (TIt.but I2 e1.extBut D.i2z) e2.extBut D.i12.symm) e3.extBut D.TOi2.symm)
   (Tup.but (Tup.but (Tup.but T2 e1.extBut D.l2z) e2.extBut D.l2i1) e3.extBut D.l2TO) hy λh4 e e4 he=>?_))))
  let⟨oe,o1,o2⟩:=he;let Z4:IsZip h4 z TI TO .ellipsis:=e4 _ _ D.i2z.symm (e3.extBut _ _ D.TOz.symm (e2.extBut _ _ D.i1z.symm Z1));let ne:e≠z:=λm=>by subst m;rw[Z4]at o1;ext o1;simp at o2
  refine Dr Z4 (by simp) λh5 _ e5=>stop e h5 (λc o n x=>?_) ⟨oe,e5.extBut _ _ ne o1,o2⟩;simp only[AJ,CN,or_false,not_or]at n;calc e5.extBut _ _ n.1 (e4 _ _ n.2.2.2 (e3.extBut _ _ n.2.1 (e2.extBut _ _ n.2.2.1 (e1.extBut _ _ n.1 x))))
abbrev HZ (h:Heap) (a:Addr):Heap:=h.push { cls:=.type "tuple_iterator", data:=.fields #[.ref a,.int 0 0] }
abbrev Jh (h:Heap) (a b:Yt):Heap:=HZ (HZ h a) b
abbrev Js (h:Heap) (a b:Addr):Heap:=(Jh h a b).push { cls:=.type "tuple", data:=.seq #[.ref h.objs.size,.ref (HZ h a).objs.size] }
abbrev JV (h:Heap) (a b:Addr):Heap:=(Js h a b).push { cls:=.type "tuple", data:=.seq #[.none,.none] }
abbrev Gg (h:Heap) (a b:Addr):Heap:=(JV h a b).push { cls:=.type "zip", data:=.fields #[.none,.bool false,.bool false,.ref (Jh h a b).objs.size,.ref (Js h a b).objs.size] }
def XZ (a b:Addr) (xs ys:Array Value):Meets (Builtin.«zip.__new__» ⟨[.type "zip", .ref a,.ref b],[]⟩) (λ_ R s=>s.heap.IsTuple a xs/\s.heap.IsTuple b ys/\R (.ok (.ret (.ref (JV s.heap a b).objs.size))) { s with heap:=Gg s.heap a b }) :=
 .of_wp λprog w A R s h=>by
  let⟨hp,g,d,tk,os⟩:=s;let⟨Ta,Tb,h⟩:=h;let sz:=sub_zip;let U1:Heap.IsTuple (Shared.heap ⟨hp,g,d,tk,os⟩) a xs:=Ta;let U2:Heap.IsTuple (Shared.heap ⟨hp.push { cls:=.type "tuple_iterator", data:=.fields #[.ref a,.int 0 0] },g,d,tk,os⟩) b ys:=Heap.IsTuple.push Tb _;wp_walk using wpAny_pyIter_tuple U1,wpAny_pyIter_tuple U2;calc ⟨_,rfl,h⟩
def XA (Ta:s.heap.IsTuple a xs) (Tb:s.heap.IsTuple b ys)
  (h:∀ h',ZipT h' (⇑s+4) (⇑s+2) (⇑s+3) ⇑s (⇑s+1) a b .none 0 0->(∀ c o,s.heap.get? c=some o->h'.get? c=some o)->Q (.ref (⇑s+4)) { s with heap:=h' }) :
  wpAny (model prog w) A (call (.type "zip") [.ref a,.ref b]) Q E s:=by
 refine callType_new PySem.F.called_zip () (PySem.F.typeCall_zip_2 _ _) (PySem.F.newCall_zip_2 _ _) (λobj=>PySem.F.args_object_init_3 obj _ _) PySem.F.entry_zip_new (XZ a b xs ys) ⟨Ta,Tb,?_⟩;let q1:(HZ s.heap a).objs.size=⇑s+1:=CF ..;let q2:(Jh s.heap a b).objs.size=⇑s+2:=by rw[CF,q1]
 let q3:(Js s.heap a b).objs.size=⇑s+3:=by rw[CF,q2]
 let q4:(JV s.heap a b).objs.size=⇑s+4:=by rw[CF,q3]
 let u:∀ {h:Heap} {c:Yt} {o p:Obj},h.get? c=some o->(h.push p).get? c=some o:=λe=>AG _ e;let p5:(Gg s.heap a b).get? (JV s.heap a b).objs.size=some _:=AM _ rfl;let p4:(Gg s.heap a b).get? (Js s.heap a b).objs.size=some _:=u (AM _ rfl);let p3:(Gg s.heap a b).get? (Jh s.heap a b).objs.size=some _:=u (u (AM _ rfl));let p2:(Gg s.heap a b).get? (HZ s.heap a).objs.size=some _:=u (u (u (AM _ rfl)));let p1:(Gg s.heap a b).get? ⇑s=some _:=u (u (u (u (AM _ rfl))));rw[q2,q3,q4]at p5;rw[q1,q2]at p3;rw[q3]at p4;rw[q1]at p2;rw[q4];calc ⟨⟨_,p5,rfl⟩,h _ ⟨p5,p3,⟨_,_,p4⟩,⟨_,p1,rfl,rfl⟩,⟨_,p2,rfl,rfl⟩⟩ λc o x=>u (u (u (u (u x))))⟩
def ME {X:Cx} {zB:Yd} {Y:L2.St} {H:Hp} {s:Yl} {h':Heap} {t':Nat} {ch:Yg} {T:Yt} {o:HO} (I:Inv X zB Y H s) (hf:∀ b∈ch,Bd X zB H b)
  (k:∀ b u,b∉ch->s.heap.get? b=some u->h'.get? b=some u) (hT:⇑s<=T) (new:Ag X.prog X.w (upd H T o) h' T o):Inv X zB Y (upd H T o) { s with heap:=h',toks:=t' }:=by
 let hn:H T=none:=I.hok.fresh hT;let nch:∀ b u,H b=some u->b∉ch:=λb u e z=>by rw[(hf b z).1]at e;ext e
 let un:∀ b u,H b=some u->upd H T o b=some u:=λb u e=>by rw[zU (zm e hn)];exact e
 refine I.step (λb hb=>⟨(hf b hb).2.2.2.1,(hf b hb).2.1,(hf b hb).2.2.2.2.1,(hf b hb).2.2.2.2.2⟩) (λb u _ _ hc e _=>k b u hc e) (λb u _ _ hc e _=>⟨u.slots,k b u hc e⟩)
  (λb u _ e n=>by rw[zU (λz=>by rw[z]at e;calc absurd (AH e) (Nat.not_lt.mpr hT))];calc n) (λb u hc e=>⟨u,k b u hc e⟩) (λb xs e=>un b _ e) (λb p u e=>un b _ e) (λb ps e=>⟨#[],by rw[un b _ e];simp⟩) (λm hm=>?_) (λb u e=>?_) I.bare
 .obtain ⟨p,es,ep,ho,r⟩:=hm;exact ⟨p,es,ep,k _ p (λz=>(hf _ z).2.1 rfl) ho,r⟩
 .by_cases hb:b=T
  .subst hb;rw[zp]at e;ext e;exact new
  .rw[zU hb]at e;refine (I.hok b u e).stay (λc v hc q=>k c v ?_ q) (λc q=>un c _ q) λc xs q=>un c _ q;rcases hc with z|z
   .rw[z];exact nch b u e
   .exact nch c _ z
def Iy {X:Cx} {zB:Yd} {Y:L2.St} {H:Hp} {s:Yl} {h':Heap} {t':Nat} {ch:Yg} (I:Inv X zB Y H s) (hf:∀ b∈ch,Bd X zB H b)
  (k:∀ b u,b∉ch->s.heap.get? b=some u->h'.get? b=some u):Inv X zB Y H { s with heap:=h',toks:=t' }:=by
 let nch:∀ b u,H b=some u->b∉ch:=λb u e z=>by rw[(hf b z).1]at e;ext e
 refine I.step (λb hb=>⟨(hf b hb).2.2.2.1,(hf b hb).2.1,(hf b hb).2.2.2.2.1,(hf b hb).2.2.2.2.2⟩) (λb u _ _ hc e _=>k b u hc e) (λb u _ _ hc e _=>⟨u.slots,k b u hc e⟩)
  (λb u _ e n=>n) (λb u hc e=>⟨u,k b u hc e⟩) (λb xs e=>e) (λb p u e=>e) (λb ps e=>⟨#[],by rw[e];simp⟩) (λm hm=>?_) (λb u e=>?_) I.bare
 .obtain ⟨p,es,ep,ho,r⟩:=hm;exact ⟨p,es,ep,k _ p (λz=>(hf _ z).2.1 rfl) ho,r⟩
 .refine (I.hok b u e).stay (λc v hc q=>k c v ?_ q) (λc q=>q) λc xs q=>q;rcases hc with z|z
  .rw[z];exact nch b u e
  .exact nch c _ z
def Itz (K:Yb) (a b:Yt):It :=
 ⟨λi H=>∃ xs ys x y,SqT K H a xs/\SqT K H b ys/\xs[i]?=some x/\ys[i]?=some y,
  λi H v H'=>∃ T x y,v=.ref T/\H T=none/\H'=upd H T (.tup [x,y])/\(∀ xs,SqT K H a xs->xs[i]?=some x) /\ ∀ ys,SqT K H b ys->ys[i]?=some y,
  λi H=>∃ xs ys,SqT K H a xs/\SqT K H b ys/\(xs.length<=i\/ys.length<=i)⟩
def iG {P:Ym} {w:Yo} {K:Yb} {es:Yi} {ek:Nat} {ep:Pos} {z TI TO i1 i2 a b:Yt} (D:ZipApart z TI TO i1 i2 a b) :
  Turn P w K (.Tuple es ek ep) (Itz K a b) [z,TI,TO,i1,i2] z (λi h=>ZipT h z TI TO i1 i2 a b .none i i) where
 mem:=by simp
 obj:=λi h Z c hc=>by
  let⟨Z0,P0,⟨x,y,O0⟩,⟨o1,e1,_,d1⟩,⟨o2,e2,_,d2⟩⟩:=Z;simp only[AJ,CN,or_false]at hc;rcases hc with rfl|rfl|rfl|rfl|rfl
  .exact ⟨_,Z0,λv m=>by ext m⟩
  .exact ⟨_,P0,λv m=>by ext m⟩
  .exact ⟨_,O0,λv m=>by ext m⟩
  .exact ⟨_,e1,λv m=>by rw[d1]at m;ext m⟩
  .exact ⟨_,e2,λv m=>by rw[d2]at m;ext m⟩
 keep:=λi h h' Z k=>by
  let⟨Z0,P0,⟨x,y,O0⟩,⟨o1,e1,r1⟩,⟨o2,e2,r2⟩⟩:=Z;exact ⟨k z (by simp) _ Z0,k TI (by simp) _ P0,⟨x,y,k TO (by simp) _ O0⟩,⟨o1,k i1 (by simp) _ e1,r1⟩,⟨o2,k i2 (by simp) _ e2,r2⟩⟩
 item:=by
  intro X hP hw hK hc i zB s Y H E I hf Z hg;subst hP hw hK;let⟨xs,ys,x,y,sa,sb,hx,hy⟩:=hg;let⟨its,rv,p1,z1⟩:=I.tuple sa;let⟨its2,rv2,p2,z2⟩:=I.tuple sb;let⟨u,hu,ru⟩:=rv.get hx;let⟨u2,hu2,ru2⟩:=rv2.get hy;refine fP D Z (show s.heap.IsTuple a its.toArray from p1) (show s.heap.IsTuple b its2.toArray from p2) (~~~hu) (~~~hu2) λh' Z' N' kp=>⟨_,rfl,?_⟩;refine wpAny_letOwnedTupleGo_zip Z'.z λh2 Z2 e2=>?_;let hch:∀ c∈[z,TO,i1,i2],Bd X zB H c:=λc hm=>hf c (by
   simp only[AJ,CN,or_false]at hm ⊢;rcases hm with q|q|q|q <;> simp[q])
  let kk:∀ c o,c∉[z,TO,i1,i2]->s.heap.get? c=some o->h2.get? c=some o:=λc o n e=>e2.extBut _ _ (λm=>n (by simp[m])) (kp c o n e);let zlt:z<⇑s:=AH Z.z;let NT:IsPair h2 ⇑s u u2:=e2.extBut _ _ (Cz zlt) N';let hfr:H ⇑s=none:=I.hok.fresh (AF _);refine ⟨.ref ⇑s,upd H ⇑s (.tup [x,y]),ME (s:=s) I hch kk (AF _) ?_,rfl,⟨_,x,y,rfl,hfr,rfl,λws hw=>?_,λws hw=>?_⟩,?_,λc hm=>?_⟩
  .exact ⟨by show 2<=sizeLine;decide,[u,u2],.cons ru (.cons ru2 .nil),⟨_,NT,rfl,⟨_,rfl⟩,rfl⟩⟩
  .rw[I.tuple_inj hw sa];exact hx
  .rw[I.tuple_inj hw sb];exact hy
  .obtain ⟨_,P1,⟨q1,q2,O1⟩,⟨o1,f1,r1⟩,⟨o2,f2,r2⟩⟩:=Z';exact ⟨Z2,e2.extBut _ _ D.TIz P1,⟨q1,q2,e2.extBut _ _ D.TOz O1⟩,⟨o1,e2.extBut _ _ D.i1z f1,r1⟩,⟨o2,e2.extBut _ _ D.i2z f2,r2⟩⟩
  .have lt:c<⇑s:=by
    let⟨Z0,P0,⟨q1,q2,O0⟩,⟨o1,f1,_⟩,⟨o2,f2,_⟩⟩:=Z;simp only[AJ,CN,or_false]at hm;rcases hm with rfl|rfl|rfl|rfl|rfl
    .exact AH Z0
    .exact AH P0
    .exact AH O0
    .exact AH f1
    .exact AH f2
   rw[zU (Ad lt)];exact (hf c hm).1
 done:=by
  intro X hP hw hK hc i zB s Y H E I hf Z hg;subst hP hw hK;let⟨xs,ys,sa,sb,hz⟩:=hg;let⟨its,rv,p1,z1⟩:=I.tuple sa;let⟨its2,rv2,p2,z2⟩:=I.tuple sb;let l1:=rv.length;let l2:=rv2.length;refine WK (I.ok.hd hc) D Z (show s.heap.IsTuple a its.toArray from p1) (show s.heap.IsTuple b its2.toArray from p2) ?_ λh' kp=>⟨rfl,Iy I (λc hm=>hf c (by
   simp only[AJ,CN,or_false]at hm ⊢;rcases hm with q|q|q|q <;> simp[q])) kp⟩
  rcases hz with q|q
  .exact .inl (by simp;omega)
  .exact .inr (by simp;omega)
 self:=λ_ _ _ _ _ Z h=>wpAny_pyIter_zip Z.z h
def jO {ta:TA} (hg:Gl X "zip") (hm:X.mg "zip" = none) (ha:PA X [a,b] ta) (hs:starEach [a,b] X.env=[(false,eval a X.env),(false,eval b X.env)]:=by rfl) (hs2:starEach [b] X.env=[(false,eval b X.env)]:=by rfl) :
  PI X (.Tuple es ek ep) (.Call (.Name "zip" p) [a,b] [] pos) (λY H R=>ta Y H λvs H1=>∃ l1 l2 xs ys,vs=[.ref l1,.ref l2]/\SqT X.K H1 l1 xs/\SqT X.K H1 l2 ys/\R (Itz X.K l1 l2) H1):=by
 intro zB s Y H R I h;refine Call_ (E5 I hg hm (by rfl) (PyProof.Rows.callWith_type1 (thn (ha pos zB s Y H _ I h) λus s1 ⟨vs,H1,I1,r1,q1⟩=>?_) (by rw[hs,hs2]) (by rw[hs2];rfl)));let⟨l1,l2,xs,ys,rfl,s1',s2',q⟩:=q1;cases r1 with
 |cons r rr=>
  cases rr with
  |cons r' rr=>
   ext rr;ext r;ext r';let⟨its,rv,p1,_⟩:=I1.tuple s1';let⟨its2,rv2,p2,_⟩:=I1.tuple s2';let d1:l1<⇑s1:=by let⟨_,e,_⟩:=p1;exact AH e
   let d2:l2<⇑s1:=by let⟨_,e,_⟩:=p2;exact AH e
   refine XA (show s1.heap.IsTuple l1 its.toArray from p1) (show s1.heap.IsTuple l2 its2.toArray from p2) λh' Z kp=>wpAny_pyIter_zip Z.z ?_;refine ⟨⇑s1+4,[⇑s1+4,⇑s1+2,⇑s1+3,⇑s1,⇑s1+1],_,_,H1,rfl,I1.kept kp,iG (zipApart_new d1 d2),Z,λc hc=>?_,q⟩;let ge:⇑s1<=c:=by
    simp only[AJ,CN,or_false]at hc;rcases hc with rfl|rfl|rfl|rfl|rfl
    .exact Nat.le_add_right _ 4
    .exact Nat.le_add_right _ 2
    .exact Nat.le_add_right _ 3
    .exact AF _
    .exact Nat.le_add_right _ 1
   calc I1.fpOk ge (I1.hok.fresh ge)
def HX (g:FA):FI:=λY M=>match g Y M with
 |some ([.tup xs,.tup ys],M1)=>some ((xs.zip ys).map λq=>D.tup [q.1,q.2],none,M1)
 |_=>none
def ZU (hg:Gl X "zip") (hm:X.mg "zip" = none) (ha:QA X [a,b] g) (hs:starEach [a,b] X.env=[(false,eval a X.env),(false,eval b X.env)]:=by rfl) (hs2:starEach [b] X.env=[(false,eval b X.env)]:=by rfl) :
  QI X (.Tuple es ek ep) (.Call (.Name "zip" p) [a,b] [] pos) (HX g):=.mk <| PI.imp (jO hg hm ha.un hs hs2) λτ H R zz=>by
 let⟨L,Y,M,xs,gd,M',c,rs,hf,q⟩:=zz;erw[HX]at hf;cbv at hf
 .rename_i ds es' M1 e1;ext hf;refine ⟨L,Y,M,_,_,c,rs,e1,λL1 H1 vs s1 c1 r1=>?_⟩;let⟨v,v',rfl,r2,r3⟩:=r1.two;unfold Rep at r2 r3;let⟨l1,ws1,rfl,h1,q1⟩:=r2;let⟨l2,ws2,rfl,h2,q2⟩:=r3;refine ⟨l1,l2,ws1,ws2,rfl,.of h1,.of h2,q L1 H1 _ s1 c1 λL2 H2 M2 s2 c2 _=>?_⟩;let k1:=s2.tup l1 ws1 h1;let k2:=s2.tup l2 ws2 h2;let p1:=q1.stp s2;let p2:=q2.stp s2;refine ⟨λi d hd=>?_,⟨ws1,ws2,.of k1,.of k2,?_⟩⟩
  .rw[Ac]at hd;cases e2:(ds.zip es')[i]? with
   |none=>rw[e2]at hd;ext hd
   |some pr=>
    rw[e2]at hd;ext hd;let⟨f1,f2⟩:=List.getElem?_zip_eq_some.mp e2;let⟨u,hu,ru⟩:=p1.get f1;let⟨u2,hu2,ru2⟩:=p2.get f2;refine ⟨⟨ws1,ws2,u,u2,.of k1,.of k2,hu,hu2⟩,λv H3 hy=>?_⟩;let⟨T,x,y,rfl,hT,rfl,hxx,hyy⟩:=hy;let ex:=hxx ws1 (.of k1);let ey:=hyy ws2 (.of k2);rw[hu]at ex;ext ex;rw[hu2]at ey;ext ey;exact ⟨λa o e=>by rw[zU (zm e hT)];calc e,Rep.newTup hT (.cons ru (.cons ru2 .nil))⟩
  .rw[AI,List.length_zip,p1.length,p2.length];omega
 .cases hf
def DO (i j:Nat):FG:=λd Y=>match d with
 |.tup [x,y]=>some ((Y.set i (some x)).set j (some y))
 |_=>none
abbrev gP2 (K:Yb) (i j:Nat):TG:=Nv K 2 (Mg (Ed i) (Mg (Ed j) SI))
def XG {K:Yb} {i j:Nat}:GOk (gP2 K i j) (DO i j):=by
 intro L H Y Y' τ d v Q rs r hf q;erw[DO]at hf;cbv at hf
 .rename_i x y;ext hf;erw[Rep]at r;let⟨a,vs,rfl,e,r⟩:=r;let⟨v1,v2,rfl,r1,r2⟩:=r.two;exact ⟨a,_,rfl,.of e,rfl,v1,[v2],rfl,v2,[],rfl,rfl,q _ ((rs.set r1).set r2)⟩
 .cases hf
def Pn {K:Yb} {own:Yj} {i j:Nat} (hi:i∈own) (hj:j∈own):Dp own (gP2 K i j) (DO i j):=by
 intro L H Y Y' τ τ0 d v Q rs ex r hf q;erw[DO]at hf;cbv at hf
 .rename_i x y;ext hf;erw[Rep]at r;let⟨a,vs,rfl,e,r⟩:=r;let⟨v1,v2,rfl,r1,r2⟩:=r.two;exact ⟨a,_,rfl,.of e,rfl,v1,[v2],rfl,v2,[],rfl,rfl,q _ ((rs.set r1).set r2) ((ex.set hi).set hj)⟩
 .cases hf
section
variable {X:Cx} {a b c e:Expr} {es:Yi} {pos p p2 pos2:Pos} {f g h:FE}
theorem NJ:∀ {bs:List Bool} {its:Yf},za (bs.map V.bl) its -> ∀ (i:Nat) v,its[i]?=some v -> ∃ k,bs[i]?=some k/\v=.bool k
 |[],_,.nil,_,_,h=>by simp at h
 |k::bs,_,.cons r t,0,v,h=>by
  simp at h;subst h;calc ⟨k,rfl,r⟩
 |k::bs,_,.cons r t,i+1,v,h=>by
  let⟨k',e1,e2⟩:=NJ t i v (~~~h);calc ⟨k',by simpa using e1,e2⟩
def VQ (bs:List Bool):((List.range bs.length).all λi=>(bs[i]?).getD true)=bs.all id:=by
 rw[Ex,Aj,Aj];constructor
 .intro q k hk;let⟨i,hi,rfl⟩:=ET hk;have:=q i (Ey.mpr hi);rw[AL hi]at this;exact this
 .intro q i hi;rw[AL (Ey.mp hi)];calc q _ (BF _)
def XT (bs:List Bool):((List.range bs.length).any λi=>(bs[i]?).getD false)=bs.any id:=by
 rw[Ex,Fj,Fj];constructor
 .rintro ⟨i,hi,q⟩;rw[AL (Ey.mp hi)]at q;exact ⟨_,BF _,q⟩
 .rintro ⟨k,hk,q⟩;let⟨i,hi,rfl⟩:=ET hk;calc ⟨i,Ey.mpr hi,by rw[AL hi];calc q⟩
def LX (K:Yb) (F:List Bool->Bool):List V->Hp->VK->Prop:=λxs H Q=>∃ q bs,xs=[.ref q]/\SqL K H q (bs.map V.bl)/\Q (.bl (F bs)) H
def WC (hc:X.calm=true):CY X (.builtin "all") (LX X.K λbs=>bs.all id):=by
 intro zB s Y H xs us Q I r h;let⟨l,bs,rfl,hq,q⟩:=h;let⟨u,rfl,rx⟩:=EH r;ext rx;let⟨its,rv,pl,_⟩:=I.list hq;let hlt:l<⇑s:=by let⟨_,z,_⟩:=pl.isList;exact AH z
 refine call_all_walk (wpAny_pyIter_list pl.isList ⟨⇑s,[⇑s,l],[⇑s],its.toArray.size,_,_,λi=>(bs[i]?).getD true,rfl,Walks.list (A:=X.A.in1) (I.ok.hd hc) _ l (Ad hlt) its.toArray,
  ⟨⟨_,AM _ rfl,rfl,rfl⟩,pl.isList.push _⟩,λi v s' Q' E' hP hQ=>?_,λh' tk hk=>?_⟩)
 .obtain ⟨k,z,rfl⟩:=NJ rv i v (~~~hP);dsimp only at hQ;rw[z]at hQ;exact E3 hQ
 .have hl:=rv.length;rw[AI]at hl;rw[AU,<-hl,VQ];calc ⟨.bl _,H,I.kept (t':=tk) λb o z=>hk b o (λm=>by rw[AR.mp m]at z;calc BY _ (AH z)) (AG _ z),rfl,q⟩
def WA (hc:X.calm=true):CY X (.builtin "any") (LX X.K λbs=>bs.any id):=by
 intro zB s Y H xs us Q I r h;let⟨l,bs,rfl,hq,q⟩:=h;let⟨u,rfl,rx⟩:=EH r;ext rx;let⟨its,rv,pl,_⟩:=I.list hq;let hlt:l<⇑s:=by let⟨_,z,_⟩:=pl.isList;exact AH z
 refine call_any_walk (wpAny_pyIter_list pl.isList ⟨⇑s,[⇑s,l],[⇑s],its.toArray.size,_,_,λi=>(bs[i]?).getD false,rfl,Walks.list (A:=X.A.in1) (I.ok.hd hc) _ l (Ad hlt) its.toArray,
  ⟨⟨_,AM _ rfl,rfl,rfl⟩,pl.isList.push _⟩,λi v s' Q' E' hP hQ=>?_,λh' tk hk=>?_⟩)
 .obtain ⟨k,z,rfl⟩:=NJ rv i v (~~~hP);dsimp only at hQ;rw[z]at hQ;exact E3 hQ
 .have hl:=rv.length;rw[AI]at hl;rw[AU,<-hl,XT];calc ⟨.bl _,H,I.kept (t':=tk) λb o z=>hk b o (λm=>by rw[AR.mp m]at z;calc BY _ (AH z)) (AG _ z),rfl,q⟩
def E7:List D->Option (List Bool)
 |[]=>some []
 |.bl k::r=>match E7 r with
  |some bs=>some (k::bs)
  |none=>none
 |_=>none
theorem P6:∀ {ds:List D} {bs:List Bool} {vs:List V},E7 ds=some bs->zI L H ds vs->vs=bs.map V.bl
 |[],bs,vs,e,r=>by ext e;erw[zI]at r;calc r
 |d::ds,bs,vs,e,r=>by
  erw[zI]at r;let⟨v,r',rfl,r1,r2⟩:=r;cases d with
  |bl k=>
   erw[E7]at e;cases q:E7 ds with
   |none=>rw[q]at e;ext e
   |some bs'=>
    rw[q]at e;ext e;erw[Rep]at r1;rw[r1,P6 q r2];rfl
  |_=>ext e
def GA (F:List Bool->Bool):KB:=λxs M=>match xs with
 |[x]=>match B6 M x with
  |some ds=>match E7 ds with
   |some bs=>some (.dat (.bl (F bs)),M)
   |none=>none
  |none=>none
 |_=>none
def OR {K:Yb} {F:List Bool->Bool}:ED K (LX K F) (GA F):=by
 intro L M M' H H0 xs d vs Q c r hk q;erw[GA]at hk;cbv at hk
 .rename_i x;cbv at hk
  .rename_i ds e1;cbv at hk
   .rename_i bs e2;ext hk;let⟨v,rfl,r1⟩:=r.one;let⟨l,ws,rfl,h1,r2⟩:=Dj c r1 e1;have:=P6 e2 r2;subst this;exact ⟨l,bs,rfl,.inl h1,q L H _ (.refl L H) c (Bn (L:=L) (H:=H))⟩
   .cases hk
  .cases hk
 .cases hk
abbrev DC:KB:=GA λbs=>bs.all id
abbrev LH:KB:=GA λbs=>bs.any id
section
variable {fa:FAE}
def fG (hc:X.calm=true) (hg:Gl X "all") (hm:X.mg "all" = none) (ha:QAE X [e] fa) (he:starEach [e] X.env=(false,eval e X.env)::starEach [] X.env:=by rfl) (hpl:(backTo pos (starEach [] X.env)).any (·.1)=false:=by rfl):QE X (.Call (.Name "all" p) [e] [] pos) (fB DC fa) :=
 Hc OR (WC hc) (by rfl) hg hm ha () () he hpl
def dE (hc:X.calm=true) (hg:Gl X "any") (hm:X.mg "any" = none) (ha:QAE X [e] fa) (he:starEach [e] X.env=(false,eval e X.env)::starEach [] X.env:=by rfl) (hpl:(backTo pos (starEach [] X.env)).any (·.1)=false:=by rfl):QE X (.Call (.Name "any" p) [e] [] pos) (fB LH fa) :=
 Hc OR (WA hc) (by rfl) hg hm ha () () he hpl
end
def Kg (h:B6 M x=some ds) (hb:E7 ds=some bs):Ok (GA F [x] M) P ↔ P (.dat (.bl (F bs))) M:=by
 have:GA F [x] M=some (.dat (.bl (F bs)),M):=by erw[GA];dsimp only;rw[h];dsimp only;rw[hb]
 rw[this,Bq]
theorem KG:∀ bs:List Bool,E7 (bs.map D.bl)=some bs
 |[]=>rfl
 |k::bs=>by rw[Af];erw[E7];rw[KG bs]
def Ia:V->Bool
 |.non=>true
 |.bl _=>true
 |_=>false
def mY:OpR X (compareOp .Is) (λx y H Q=>Ia y=true/\Q (.bl (decide (x=y))) H):=by
 intro zB s Y H x y v u Q I rx ry h;let⟨hp,q⟩:=h;cases y with
 |non=>
  ext ry;refine wpAny_is_plain (by cases x <;> first|(ext rx;rfl)|(let⟨t,rfl⟩:=rx;rfl)) (zn I q ?_);cases x <;> first|(ext rx;rfl)|(let⟨t,rfl⟩:=rx;rfl)
 |bl k=>
  ext ry;refine wpAny_is_plain (by cases x <;> first|(ext rx;rfl)|(let⟨t,rfl⟩:=rx;rfl)) (zn I q ?_);cases x with
  |bl k'=>ext rx;cases k <;> cases k' <;> rfl
  |_=>first|(ext rx;rfl)|(let⟨t,rfl⟩:=rx;rfl)
 |_=>ext hp
def Wg:OpR X (compareOp .IsNot) (λx y H Q=>Ia y=true/\Q (.bl (!decide (x=y))) H):=by
 intro zB s Y H x y v u Q I rx ry h;let⟨hp,q⟩:=h;cases y with
 |non=>
  ext ry;refine wpAny_isNot_plain (by cases x <;> first|(ext rx;rfl)|(let⟨t,rfl⟩:=rx;rfl)) (zn I q ?_);cases x <;> first|(ext rx;rfl)|(let⟨t,rfl⟩:=rx;rfl)
 |bl k=>
  ext ry;refine wpAny_isNot_plain (by cases x <;> first|(ext rx;rfl)|(let⟨t,rfl⟩:=rx;rfl)) (zn I q ?_);cases x with
  |bl k'=>ext rx;cases k <;> cases k' <;> rfl
  |_=>first|(ext rx;rfl)|(let⟨t,rfl⟩:=rx;rfl)
 |_=>ext hp
def isD:EV->D->Option Bool
 |x,.non=>match x with
  |.dat .non=>some true
  |_=>some false
 |x,.bl k=>match x with
  |.dat (.bl k')=>some (decide (k'=k))
  |_=>some false
 |_,_=>none
def kIs (neg:Bool):K2:=λx y M=>match y with
 |.dat d=>match isD x d with
  |some k=>some (.dat (.bl (if neg then !k else k)),M)
  |none=>none
 |_=>none
def Sg (rx:zX H0 L H x v) (ry:Rep L H d w) (e:isD x d=some k):Ia w=true/\decide (v=w)=k:=by
 cases d with
 |non=>
  erw[Rep]at ry;subst ry;calc ⟨rfl,?_⟩;cases x with
  |fl xs=>let⟨q,vs,rfl,_⟩:=rx;ext e;rfl
  |dat d'=>
   cases d' with
   |non=>erw[zX,Rep]at rx;subst rx;ext e;rfl
   |bl _=>erw[zX,Rep]at rx;subst rx;ext e;rfl
   |int _=>erw[zX,Rep]at rx;subst rx;ext e;rfl
   |str _=>erw[zX,Rep]at rx;subst rx;ext e;rfl
   |tup _=>erw[zX,Rep]at rx;let⟨q,vs,rfl,_⟩:=rx;ext e;rfl
   |ref _=>erw[zX,Rep]at rx;let⟨q,rfl,_⟩:=rx;ext e;rfl
   |fn _ _=>erw[zX,Rep]at rx;let⟨rfl,_⟩:=rx;ext e;rfl
 |bl k'=>
  erw[Rep]at ry;subst ry;calc ⟨rfl,?_⟩;cases x with
  |fl xs=>let⟨q,vs,rfl,_⟩:=rx;ext e;rfl
  |dat d'=>
   cases d' with
   |non=>erw[zX,Rep]at rx;subst rx;ext e;rfl
   |bl j=>erw[zX,Rep]at rx;subst rx;ext e;cases j <;> cases k' <;> rfl
   |int _=>erw[zX,Rep]at rx;subst rx;ext e;rfl
   |str _=>erw[zX,Rep]at rx;subst rx;ext e;rfl
   |tup _=>erw[zX,Rep]at rx;let⟨q,vs,rfl,_⟩:=rx;ext e;rfl
   |ref _=>erw[zX,Rep]at rx;let⟨q,rfl,_⟩:=rx;ext e;rfl
   |fn _ _=>erw[zX,Rep]at rx;let⟨rfl,_⟩:=rx;ext e;rfl
 |_=>ext e
def PJ (h:kIs neg x y M=some (r,M')):∃ d k,y=.dat d/\isD x d=some k/\r=.dat (.bl (if neg then !k else k))/\M'=M:=by
 erw[kIs]at h;cbv at h
 .rename_i d;cbv at h
  .rename_i k e1;ext h;exact ⟨d,k,rfl,e1,rfl,rfl⟩
  .cases h
 .cases h
def WW {K:Yb}:A9 K (λx y H Q=>Ia y=true/\Q (.bl (decide (x=y))) H) (kIs false):=by
 intro L M M' H H0 x y d v w Q cc rx ry hk q;let⟨d',k,rfl,e,rfl,rfl⟩:=PJ hk;let⟨h1,h2⟩:=Sg rx ry e;calc ⟨h1,?_⟩;rw[h2];calc q L H _ (.refl L H) cc (Bn (L:=L) (H:=H))
def mZ {K:Yb}:A9 K (λx y H Q=>Ia y=true/\Q (.bl (!decide (x=y))) H) (kIs true):=by
 intro L M M' H H0 x y d v w Q cc rx ry hk q;let⟨d',k,rfl,e,rfl,rfl⟩:=PJ hk;let⟨h1,h2⟩:=Sg rx ry e;calc ⟨h1,?_⟩;rw[h2];calc q L H _ (.refl L H) cc (Bn (L:=L) (H:=H))
def Vp (h1:QE X a f) (h2:QE X b g):QT X (.Compare a [.Is] [b] pos) (tst (fOp (kIs false) f g)):=Ec WW mY h1 h2 (De _)
def Vm (h1:QE X a f) (h2:QE X b g):QT X (.Compare a [.IsNot] [b] pos) (tst (fOp (kIs true) f g)):=Ec mZ Wg h1 h2 (De _)
def HE (k k':K2) (f g h:FE):FE:=λY M=>match f Y M with
 |some (x,M1)=>match g Y M1 with
  |some (y,M2)=>match k x y M2 with
   |some (.dat (.bl true),M3)=>match h Y M3 with
    |some (w,M4)=>k' y w M4
    |none=>none
   |some (.dat (.bl false),M3)=>some (.dat (.bl false),M3)
   |_=>none
  |none=>none
 |none=>none
def UK {K:Yb} {r r':R2} {k k':K2} (hk:A9 K r k) (hk':A9 K r' k') {τ:Sv} {H:Hp} {Q:VK} (z:trE K (HE k k' f g h) τ H Q):Rp r r' (trE K f) (trE K g) (trE K h) τ H Q:=by
 let⟨L,Y,M,d,M',cc,rs,hf,q⟩:=z;erw[HE]at hf;cbv at hf
 .rename_i x M1 e1;cbv at hf
  .rename_i y M2 e2;refine (mkE cc rs e1 (λL1 H1 v s1 c1 r1=>(mkE c1 (rs.stp s1) e2 (λL2 H2 w s2 c2 r2=>?_))));cbv at hf
   .rename_i M3 e3;cbv at hf
    .rename_i u M4 e4;refine hk (H0:=H) c2 (r1.stp s2) (r2.back s1 cc s2.sub) e3 λL3 H3 t s3 c3 r3=>⟨true,E8 r3,Dv ?_⟩;refine (mkE c3 (rs.stp ((s1.trans s2).trans s3)) e4 (λL4 H4 w4 s4 c4 r4=>?_));let s13:=(s1.trans s2).trans s3;refine hk' (H0:=H) c4 (((r2.back s1 cc s2.sub).stp s3).stp s4) (r4.back s13 cc s4.sub) hf λL5 H5 u5 s5 c5 r5=>?_;exact q L5 H5 u5 ((s13.trans s4).trans s5) c5 (r5.back (s13.trans s4) cc s5.sub)
    .cases hf
   .rename_i M3 e3;ext hf;refine hk (H0:=H) c2 (r1.stp s2) (r2.back s1 cc s2.sub) e3 λL3 H3 t s3 c3 r3=>⟨false,E8 r3,Dc ?_⟩;exact q L3 H3 _ ((s1.trans s2).trans s3) c3 (by have:=E8 r3;subst this;calc r3)
   .cases hf
  .cases hf
 .cases hf
def cO (hk:A9 X.K r k) (hk':A9 X.K r' k') (ho:OpR X (compareOp op) r) (ho':OpR X (compareOp op') r') (h1:QE X a f) (h2:QE X b g) (h3:QE X c h)
  (hm:lastMarks [op,op'] [b,c]=false:=by with_unfolding_all rfl):QE X (.Compare a [op,op'] [b,c] pos) (HE k k' f g h):=.mk <| PE.imp (YE ho ho' h1.un h2.un h3.un hm) λ_ _ _ z=>UK hk hk' z
section
variable {M:Mem} {Y:Sd} {P:EV->Mem->Prop}
def ZC:Ok (HE k k' f g h Y M) P ↔ Ok (f Y M) λx M1=>Ok (g Y M1) λy M2=>Ok (k x y M2) (blP λt M3=>if t then Ok (h Y M3) λw M4=>Ok (k' y w M4) P else P (.dat (.bl false)) M3):=by
 erw[HE];constructor
 .rintro ⟨x,M1,z,q⟩;cbv at z
  .rename_i y M2 e1;cbv at z
   .rename_i y' M3 e2;cbv at z
    .rename_i M4 e3;cbv at z
     .rename_i w M5 e4;exact ⟨_,_,e1,_,_,e2,_,_,e3,by rw[Gp,AD rfl];calc ⟨_,_,e4,_,_,z,q⟩⟩
     .cases z
    .rename_i M4 e3;ext z;exact ⟨_,_,e1,_,_,e2,_,_,e3,by rw[Gp];simpa using q⟩
    .cases z
   .cases z
  .cases z
 .rintro ⟨x,M1,e1,y,M2,e2,t,M3,e3,q⟩;rw[e1];dsimp only;rw[e2];dsimp only;rw[e3];cases t with
  |fl _=>calc q.elim
  |dat d=>
   cases d with
   |bl t=>
    rw[Gp]at q;cases t with
    |true=>
     rw[AD rfl]at q;let⟨w,M4,e4,q⟩:=q;dsimp only;rw[e4];calc q
    |false=>calc ⟨_,_,rfl,by simpa using q⟩
   |_=>calc q.elim
end
def Eo (f:FE):FE:=λY M=>match f Y M with
 |some (.dat (.int i),M1)=>some (.dat (.int (-i)),M1)
 |_=>none
def dU (h1:QE X a f):QE X (.UnaryOp .USub a pos) (Eo f):=.mk <| PE.imp (ZQ Xs h1.un) λτ H Q zz=>by
 let⟨L,Y,M,d,M',cc,rs,hf,q⟩:=zz;erw[Eo]at hf;cbv at hf
 .rename_i i M1 e1;ext hf;refine (mkE cc rs e1 (λL1 H1 v s1 c1 r1=>?_));exact ⟨i,by erw[zX,Rep]at r1;calc r1,q L1 H1 _ s1 c1 (Cj (L:=L1) (H:=H1))⟩
 .cases hf
def FH:KB:=λxs M=>match xs with
 |[x]=>match BA M x with
  |some ys=>some (.fl ys,M)
  |none=>none
 |_=>none
def Vg:ED X.K (λxs H Q=>∃ q ys,xs=[.ref q]/\(SqL X.K H q ys\/SqT X.K H q ys) /\ ∀ l,H l=none->Q (.ref l) (upd H l (.lst ys))) FH:=by
 intro L M M' H H0 xs d vs Q cc r hk q;erw[FH]at hk;cbv at hk
 .rename_i x;cbv at hk
  .rename_i ys e1;ext hk;let⟨v,rfl,r1⟩:=r.one;let⟨l,ws,rfl,hs,r2⟩:=HF cc r1 e1;refine ⟨l,ws,rfl,hs,λk hk=>?_⟩;exact q L _ _ (.upd hk) (cc.upd hk) (zX.newLst (.refl L H) cc cc hk r2)
  .cases hk
 .cases hk
def YX (hg:Gl X "list") (hm:X.mg "list" = none) (ha:QAE X [e] fa) (he:starEach [e] X.env=(false,eval e X.env)::starEach [] X.env:=by rfl) (hpl:(backTo pos (starEach [] X.env)).any (·.1)=false:=by rfl):QE X (.Call (.Name "list" p) [e] [] pos) (fB FH fa) :=
 Le Vg TM (by rfl) hg hm ha () () he hpl
end
open AutoSeq1 (wpAny_loadPart')
def TF {r:Yt} {lo hi:Int} {t u v:Tok} {n:Nat} {Q:List Value->Shared->Prop} (hh:A.handled=none) (R:IsRange s.heap r lo hi 1 t u v) (sm:Builtin.Range.small lo hi 1=true) (hn:Builtin.Range.rangeSize lo hi 1=n) (hz:n<=2 ^ 24)
  (q:∀ h' tk (acc:Yp),(∀ b o,s.heap.get? b=some o->h'.get? b=some o)->ItemsOf (λi v=>∃ t,v=.int (lo+i*1) t) acc n->Q acc.toList { s with heap:=h',toks:=tk }):wpAny (model prog w) A (collect (.ref r)) Q E s:=by
 erw[collect];calc AA (wpAny_runValue (Ez PySem.F.entry_proto_collect ?_));rw[Fy PySem.F.plain_proto_collect _];calc AA (BI (AB ⟨plainId_quiet PySem.F.plain_list_iadd _,Ez PySem.F.entry_list_iadd ?_⟩));rw[Fy PySem.F.plain_list_iadd _];let S0:(s.heap.push { cls:=.type "list", data:=.seq ([]:List Value).toArray }).get? ⇑s=some { cls:=.type "list", data:=.seq #[] 0 }:=AM _ rfl
 let fin:∀ (h':Heap) (tk:Nat) (acc:Array Value) (k:Nat),(∀ b o,b≠⇑s->(s.heap.push { cls:=.type "list", data:=.seq ([]:List Value).toArray }).get? b=some o->h'.get? b=some o) ->
   h'.get? ⇑s=some { cls:=.type "list", dict:=none,data:=.seq acc k,slots:=#[] }->ItemsOf (λi v=>∃ t,v=.int (lo+i*1) t) acc n ->
   wpAny (model prog w) A (match Value.ref ⇑s with
    |Value.ref a=>do
     match (<- load a).data with
      |Data.seq xs _=>pure xs.toList
      |_=>unsupported "internal:collect"
    |_=>unsupported "internal:collect") Q E { s with heap:=h',toks:=tk }:=λh' tk acc k kp e it=>by
  refine AA (wpAny_load e (AB (q h' tk acc (λb o m=>kp b o (Ad (AH m)) (AG _ m)) it)))
 refine AX (wpAny_extend_range
  (R:=λr s'=>r=.ok (.ret (.ref ⇑s)) /\ ∃ h' tk acc k,s'={ s with heap:=h',toks:=tk }/\(∀ b o,b≠⇑s->(s.heap.push { cls:=.type "list", data:=.seq ([]:List Value).toArray }).get? b=some o->h'.get? b=some o) /\
   h'.get? ⇑s=some { cls:=.type "list", dict:=none,data:=.seq acc k,slots:=#[] }/\ItemsOf (λi v=>∃ t,v=.int (lo+i*1) t) acc n)
  hh (AG _ R) sm hn hz ⇑s (.ref ⇑s) 0 S0 λh' tk acc k kp e it=>⟨rfl,h',tk,acc,k,rfl,kp,e,it⟩) (λf s' z=>?_) (λe s' z=>?_)
 .cases f with
  |done f=>
   let⟨e,h',tk,acc,k,rfl,z1,z2,z3⟩:=z;ext e;calc fin h' tk acc k z1 z2 z3
  |again c'=>exact ⟨z.1,codeAny_mono z.2 λr s'' z=>by let⟨rfl,h',tk,acc,k,rfl,z1,z2,z3⟩:=z;calc fin h' tk acc k z1 z2 z3⟩
 .exact absurd z.1 (by simp)
def m9 (r:Yt) (lo hi:Int) (t u v:Tok) (n:Nat) (sm:Builtin.Range.small lo hi 1=true) (hn:Builtin.Range.rangeSize lo hi 1=n) (hz:n<=2 ^ 24) :
  Meets (Builtin.«tuple.__new__» ⟨[.type "tuple", .ref r],[]⟩) (λA R s=>A.handled=none/\IsRange s.heap r lo hi 1 t u v /\
   ∀ (h':Heap) (tk:Nat) (acc:Array Value),(∀ b o,s.heap.get? b=some o->h'.get? b=some o)->ItemsOf (λi v=>∃ t,v=.int (lo+i*1) t) acc n->R (.ok (.ret (.ref h'.objs.size))) { s with heap:=h'.push { cls:=.type "tuple", data:=.seq acc },toks:=tk }) :=
 .of_wp λprog w A R s h=>by
  let⟨hp,g,d,tk,os⟩:=s;let⟨hh,Ra,h⟩:=h;let h1:=sub_tuple_self;let h2:=init_tuple_lookup;let h3:=madeHere_tuple;let T:Shared.TypeIs ⟨hp,g,d,tk,os⟩ (.ref r) "range" := ⟨_,Ra,rfl⟩;wp_walk using wpAny_loadPart' Ra,wpAny_typeOf T,TF (show A.in1.handled=none from hh) Ra sm hn hz;intro h' tk' acc kp it;calc AA (m:=Builtin.Tuple.tupleExact acc.toList.toArray) ?_;erw[Builtin.Tuple.tupleExact];let sz:acc.toList.toArray.size<=sizeLine:=by rw[AU,BM,it.1,sizeLine_eq];omega
  calc BI (AB ⟨_,rfl,?_⟩) sz;let e:acc.toList.toArray=acc:=by simp
  rw[e];calc h h' tk' acc kp it
section
variable {X:Cx} {a e:Expr} {es:Yi} {pos p p2 pos2:Pos} {f:FE}
def iB:CY X (.type "range") (λxs H Q=>∃ j,xs=[.int j] /\ ∀ l,H l=none->Q (.ref l) (upd H l (.rng 0 j))):=by
 intro zB s Y H xs us Q I r h;let⟨j,rfl,q⟩:=h;let⟨u,rfl,rx⟩:=EH r;let⟨t,rfl⟩:=rx;refine call_range_1 ⟨.ref ⇑s,_,I.laid (λb o z=>AG _ z) (AF _) ?_,rfl,q _ (I.hok.fresh (AF _))⟩;calc ⟨_,_,_,AM _ rfl⟩
def upV (n:Nat):List V:=(List.range n).map λ(k:Nat)=>V.int k
def gP (h:ItemsOf (λi v=>∃ t,v=.int ((0:Int)+i*1) t) acc n):za (upV n) acc.toList:=by
 let⟨hz,hi⟩:=h;have:∀ (xs:Yf) (k:Nat),(∀ j v,xs[j]?=some v -> ∃ t,v=Value.int ((k+j:Nat):Int) t)->za ((List.range' k xs.length).map λ(k:Nat)=>V.int k) xs:=by
  intro xs;induction xs with
  |nil=>intro k _;calc .nil
  |cons x xs ih=>
   intro k hk;rw[B4,List.range'_succ,Af];refine .cons ?_ (ih (k+1) λj v e=>?_)
   .obtain ⟨t,e⟩:=hk 0 x rfl;exact ⟨t,by simpa using e⟩
   .obtain ⟨t,e'⟩:=hk (j+1) v (~~~e);exact ⟨t,by rw[e'];congr 2;omega⟩
 let q:=this acc.toList 0 (λj v e=>by
  let⟨t,e'⟩:=hi j v (~~~e);calc ⟨t,by rw[e'];congr 1;omega⟩)
 erw[upV];rw[List.range_eq_range'];rw[BM,hz]at q;calc q
def Wb (h0:0<=j) (h1:j<=16777216):Builtin.Range.small 0 j 1=true/\Builtin.Range.rangeSize 0 j 1=(j.toNat:Int):=by
 calc ⟨small_one () () () (),?_⟩;rw[rangeSize_one];split <;> omega
def bH (mk:List V->HO):List V->Hp->VK->Prop:=λxs H Q=>∃ r j,xs=[.ref r]/\H r=some (.rng 0 j)/\0<=j/\j<=16777216 /\ ∀ l,H l=none->Q (.ref l) (upd H l (mk (upV j.toNat)))
def cM (n:Nat):(upV n).length=n:=by erw[upV];simp
def Sx (hc:X.calm=true):CY X (.type "tuple") (bH HO.tup):=by
 intro zB s Y H xs us Q I r h;let⟨l,j,rfl,hr,h0,h1,q⟩:=h;let⟨u,rfl,rx⟩:=EH r;ext rx;let⟨t,u,v,er⟩:=(show Ag X.prog X.w H s.heap l (.rng 0 j)from I.hok l _ hr);let⟨sm,sz⟩:=Wb h0 h1
 refine callType_new PySem.F.called_tuple () (PySem.F.typeCall_tuple_1 _) (PySem.F.newCall_tuple_1 _) (λobj=>PySem.F.args_object_init_2 obj _) PySem.F.entry_tuple_new (m9 l 0 j t u v j.toNat sm sz ())
  ⟨I.ok.hd hc,er,λh' tk acc kp it=>⟨⟨_,AM _ rfl,rfl⟩,?_⟩⟩
 let I1:Inv X zB Y H { s with heap:=h',toks:=tk }:=I.kept kp;refine ⟨.ref h'.objs.size,_,I1.laid (t':=tk) (λb o z=>AG _ z) (AF _) ?_,rfl,q _ (I1.hok.fresh (AF _))⟩;calc ⟨by rw[cM,sizeLine_eq];omega,acc.toList,gP it,by simpa using DW.new h' acc⟩
def upD (n:Nat):List D:=(List.range n).map λ(k:Nat)=>D.int k
def cP (n:Nat):zI L H (upD n) (upV n):=by
 have:∀ xs:List Nat,zI L H (xs.map λ(k:Nat)=>D.int k) (xs.map λ(k:Nat)=>V.int k):=by
  intro xs;induction xs with
  |nil=>calc .nil
  |cons x xs ih=>exact .cons Cj ih
 calc this _
def JQ (f:FE):FE:=λY M=>match f Y M with
 |some (.dat (.int j),M1)=>if 0<=j/\j<=16777216 then some (.dat (.tup (upD j.toNat)),M1) else none
 |_=>none
def bI (hc:X.calm=true) (hg:Gl X "tuple") (hm:X.mg "tuple" = none) (hg2:Gl X "range") (hm2:X.mg "range" = none) (ha:QE X a f)
  (he:starEach [Expr.Call (.Name "range" p2) [a] [] pos2] X.env=(false,eval (Expr.Call (.Name "range" p2) [a] [] pos2) X.env)::starEach [] X.env:=by rfl) (hpl:(backTo pos (starEach [] X.env)).any (·.1)=false:=by rfl)
  (he2:starEach [a] X.env=(false,eval a X.env)::starEach [] X.env:=by rfl) (hpl2:(backTo pos2 (starEach [] X.env)).any (·.1)=false:=by rfl) :
  QE X (.Call (.Name "tuple" p) [.Call (.Name "range" p2) [a] [] pos2] [] pos) (JQ f) :=
 .mk <| PE.imp (LK (Sx hc) hg hm (by rfl) (E9 (LK iB hg2 hm2 boot_range (E9 ha.un IK he2) () () he2 hpl2) IK he) () () he hpl) λτ H Q zz=>by
  let⟨L,Y,M,d,M',c,rs,hf,q⟩:=zz;erw[JQ]at hf;cbv at hf
  .rename_i j M1 e1;cbv at hf
   .rename_i hb;ext hf;refine (mkE c rs e1 (λL1 H1 v s1 c1 r1=>⟨j,by erw[zX,Rep]at r1;rw[r1],λl hl=>⟨l,j,rfl,zp,hb.1,hb.2,λk hk=>?_⟩⟩));exact q L1 _ _ ((s1.trans (.upd hl)).trans (.upd hk)) ((c1.upd hl).upd hk) (Rep.newTup hk (cP _))
   .cases hf
  .cases hf
end
def IB:Expr->Bool
 |.Starred .. =>false
 |_=>true
def zF (h:IB e=true):starEach (e::es) env=(false,eval e env)::starEach es env:=by
 cases e <;> first|rfl|ext h
def MK (h:IB e=true):starEach [e] env=[(false,eval e env)]:=zF h
def Tg (h:IB e=true) (h':IB e'=true):starEach [e,e'] env=[(false,eval e env),(false,eval e' env)]:=by rw[zF h,MK h']
theorem Cc:∀ {es:Yi},es.all IB=true->(backTo pos (starEach es env)).any (·.1)=false
 |[],_=>rfl
 |e::es,h=>by
  rw[List.all_cons,Au]at h;rw[zF h.1];have:=Cc (pos:=pos) (env:=env) h.2;simpa [backTo] using this
def Cor.pushO {K:Yb} {L:Yg} {M:List MO} {H:Hp} {p:Yt} {o:HO} {m:MO} (c:Cor K L M H) (h:H p=none) (new:CL K (L++[p]) (L2.upd H p o) p m) :
  Cor K (L++[p]) (M++[m]) (L2.upd H p o)/\Stp L H (L++[p]) (L2.upd H p o):=by
 let hp:p∉L:=λz=>by let⟨o,e⟩:=c.tracked z;rw[h]at e;ext e
 let st:Stp L H (L++[p]) (L2.upd H p o):=by
  refine ⟨⟨[p],rfl⟩,λa ha=>?_,λa o e _ _=>?_,λa o e=>?_,λa o u e=>?_,JJ (λa o u e=>?_) λa ps e=>?_⟩
  .rcases AO.mp ha with z|z
   .exact .inl z
   .have:a=p:=by simpa using z
    subst this;exact .inr h
  all_goals (rw[zU (zm e h)];calc e)
 refine ⟨⟨by simp[c.len],?_,λn a m e1 e2=>?_,c.tab.stp st⟩,st⟩
 .rw[EG];exact ⟨c.nd,by simp,λa ha b hb z=>by
   have:b=p:=by simpa using hb
   subst this;subst z;calc hp ha⟩
 .by_cases hn:n<L.length
  .rw[AY hn]at e1;rw[AY (by rw[<-c.len];calc hn)]at e2;exact (c.obj n a m e1 e2).stp st λo _ e=>by rw[zU (zm e h)];exact e
  .have hn':n=L.length:=by
    have:=(AK.mp e1).1;rw[AW]at this;simp at this;omega
   subst hn';simp at e1;rw[c.len]at e2;simp at e2;subst e1;subst e2;calc new
def CL.nt {K:Yb} {L:Yg} {H:Hp} {a:Yt} {m:MO} (h:CL K L H a m) {o:HO} (e:H a=some o):NT o:=λps z=>by
 subst z;cases m with
 |lst xs=>let⟨vs,e',_⟩:=h;rw[e]at e';ext e'
 |fro xs=>let⟨o,vs,e',_⟩:=h;rw[e]at e';ext e'
 |dict ps=>let⟨vs,e',_⟩:=h;rw[e]at e';ext e'
 |dicT ps=>let⟨vs,e',_⟩:=h;rw[e]at e';ext e'
 |set _=>let⟨o,u,e'⟩:=h;rw[e]at e';ext e'
 |froT ps=>let⟨o,vs,e',_⟩:=h;rw[e]at e';ext e'
 |froK ps=>let⟨o,vs,e',_⟩:=h;rw[e]at e';ext e'
def Cor.nt {K:Yb} {L:Yg} {M:List MO} {H:Hp} {n:Nat} {p:Yt} {o:HO} (c:Cor K L M H) (h1:L[n]?=some p) (ho:H p=some o):NT o :=
 (c.obj n p _ h1 (AL (by rw[<-c.len];calc (AK.mp h1).1))).nt ho
def Cor.put {K:Yb} {L:Yg} {M:List MO} {H:Hp} {n:Nat} {p:Yt} {o o':HO} {m:MO} (c:Cor K L M H) (h1:L[n]?=some p) (ho:H p=some o) (ht:∀ xs,o≠.tup xs) (hf:∀ a u,o≠.frz a u)
  (new:Stp L H L (L2.upd H p o')->CL K L (L2.upd H p o') p m):Cor K L (M.set n m) (L2.upd H p o')/\Stp L H L (L2.upd H p o'):=by
 let st:Stp L H L (L2.upd H p o'):=by
  let nt:=c.nt h1 ho;refine ⟨⟨[],by simp⟩,λa ha=> .inl ha,λa o e ha _=>?_,λa xs e=>?_,λa b u e=>?_,JJ (λa b u e=>?_) λa ps e=>?_⟩
  .rw[zU (show a≠p from λz=>ha (by rw[z];calc BD h1))];exact e
  .rw[zU (DT e ho (λz=>ht xs z.symm))];exact e
  .rw[zU (DT e ho (λz=>hf b u z.symm))];exact e
  .rw[zU (DT e ho (λz=>hf b u z.symm))];exact e
  .rw[zU (DT e ho (λz=>nt ps z.symm))];exact e
 refine ⟨⟨by simp[c.len],c.nd,λk a m' e1 e2=>?_,c.tab.stp st⟩,st⟩;rw[FC]at e2;cbv at e2
 .rename_i hk;subst hk;rw[h1]at e1;ext e1;cbv at e2
  .cases e2;exact new st
  .cases e2
 .rename_i hk;let hne:a≠p:=λz=>hk (by
   subst z;calc (List.getElem?_inj (AK.mp h1).1 c.nd).mp (h1.trans e1.symm))
  exact (c.obj k a m' e1 e2).stp st λo _ e=>by rw[zU hne];calc e
section
variable {X:Cx} {a b e:Expr} {pos:Pos} {f g:FE}
def Jw:FE:=λ_ M=>some (.dat (.ref M.length),M++[.dicT []])
def dZ:QE X (.Dict [] [] pos) Jw:=.mk <| PE.imp iI λτ H Q ⟨L,Y,M,d,M',c,rs,hf,q⟩ p hp=>by
 erw[Jw]at hf;ext hf;let⟨c2,s2⟩:=c.pushO (m:=.dicT []) hp ⟨[],zp,rfl⟩;calc q _ _ _ s2 c2 ?_;erw[zX,Rep];calc ⟨p,rfl,by rw[<-c.len];simp⟩
def KC (h:Rep L H d v) (e:Bu d=some k):v=kV k:=by
 cases d with
 |int i=>ext e;erw[Rep]at h;calc h
 |str x=>ext e;erw[Rep]at h;calc h
 |_=>ext e
def FP (M:Mem):EV->Option (List D)
 |.fl xs=>some xs
 |.dat (.ref n)=>match M[n]? with
  |some (.lst xs)=>some xs
  |_=>none
 |_=>none
def Km {K:Yb} {L:Yg} {M:Mem} {H H0:Hp} {x:EV} {v:V} {xs:List D} (c:Cor K L M H) (r:zX H0 L H x v) (h:FP M x=some xs):∃ a vs,v=.ref a/\H a=some (.lst vs)/\zI L H xs vs:=by
 cases x with
 |fl ys=>
  ext h;let⟨p,vs,rfl,_,e,_,r⟩:=r;calc ⟨p,vs,rfl,e,r⟩
 |dat d=>
  cases d with
  |ref n=>
   erw[zX,Rep]at r;let⟨a,rfl,e⟩:=r;erw[FP]at h;dsimp only at h;cbv at h
   .rename_i ys q;ext h;let⟨vs,e1,r1⟩:=c.obj n a _ e q;exact ⟨a,vs,rfl,e1,r1⟩
   .cases h
  |_=>ext h
def Fs:K2:=λx y M=>match FP M x,FP M y with
 |some xs,some ys=>if xs.length+ys.length<=sizeLine then some (.fl (xs++ys),M) else none
 |_,_=>none
def fI {K:Yb}:A9 K P7 Fs:=by
 intro L M M' H H0 x y d v w Q c rx ry hk q;erw[Fs]at hk;cbv at hk
 .rename_i xs ys e1 e2;cbv at hk
  .rename_i hz;ext hk;let⟨l,vs,rfl,h1,r1⟩:=Km c rx e1;let⟨l2,ws,rfl,h2,r2⟩:=Km c ry e2;refine ⟨l,l2,vs,ws,rfl,rfl,h1,h2,by rw[r1.length,r2.length];exact hz,λp hp=>?_⟩;exact q L _ _ (.upd hp) (c.upd hp) (zX.newLst (.refl L H) c c hp (r1.app r2))
  .cases hk
 .cases hk
def Uk (h1:QE X a f) (h2:QE X b g):QE X (.BinOp a .Add b pos) (fOp Fs f g):=FV fI j4 h1 h2
end
def BS:List D->Option (List Int)
 |[]=>some []
 |.int i::r=>match BS r with
  |some bs=>some (i::bs)
  |none=>none
 |_=>none
theorem LP:∀ {ds:List D} {bs:Ye} {vs:List V},BS ds=some bs->zI L H ds vs->vs=bs.map V.int
 |[],bs,vs,e,r=>by ext e;erw[zI]at r;calc r
 |d::ds,bs,vs,e,r=>by
  erw[zI]at r;let⟨v,r',rfl,r1,r2⟩:=r;cases d with
  |int k=>
   erw[BS]at e;cases q:BS ds with
   |none=>rw[q]at e;ext e
   |some bs'=>
    rw[q]at e;ext e;erw[Rep]at r1;rw[r1,LP q r2];rfl
  |_=>ext e
theorem Fq:∀ xs:List Int,BS (xs.map D.int)=some xs
 |[]=>rfl
 |x::r=>by rw[Af];erw[BS];rw[Fq r]
def Te (xs:Ye):(xs.map V.int).all Ej=true:=by
 rw[Aj];intro x hx;let⟨i,_,rfl⟩:=Ak.mp hx;rfl
def X6 (i:Int) (xs:Ye):inV (.int i) (xs.map V.int)=xs.any λy=>decide (y=i):=by
 erw[inV];rw[List.any_map];congr 1
def kIn (neg:Bool):K2:=λx y M=>match x with
 |.dat (.int i)=>match BA M y with
  |some ds=>match BS ds with
   |some xs=>some (.dat (.bl (if neg then !(xs.any λy=>decide (y=i)) else xs.any λy=>decide (y=i))),M)
   |none=>none
  |none=>none
 |_=>none
def Sn {K:Yb} {neg:Bool}:A9 K (rIn K neg) (kIn neg):=by
 intro L M M' H H0 x y d v w Q cc rx ry hk q;erw[kIn]at hk;cbv at hk
 .rename_i i;cbv at hk
  .rename_i ds e1;cbv at hk
   .rename_i xs e2;ext hk;let ev:v=.int i:=by erw[zX,Rep]at rx;exact rx
    let⟨p,vs,rfl,hs,r⟩:=HF cc ry e1;have:=LP e2 r;subst this;calc ⟨p,_,rfl,hs,by rw[ev];rfl,Te xs,?_⟩;rw[ev,X6];exact q L H _ (.refl L H) cc (Bn (L:=L) (H:=H))
   .cases hk
  .cases hk
 .cases hk
def jN (h1:QE X a f) (h2:QE X b g) (hm:behindInMarks .In b=false:=by rfl):QE X (.Compare a [.In] [b] pos) (fOp (kIn false) f g):=Hs Sn gQ h1 h2 hm
def T5 (h1:QE X a f) (h2:QE X b g) (hm:behindInMarks .NotIn b=false:=by rfl):QT X (.Compare a [.NotIn] [b] pos) (tst (fOp (kIn true) f g)):=Ec Sn mJ h1 h2 hm
end L3
namespace L2
def XF (elt target iter:Expr) (ifs:Yi) (scope:Y0) (pos:Pos) (it acc:Yu) (env:Env) :
  compTurn (.SetComp elt [⟨target,iter,ifs,0⟩] scope pos) 0 it acc env=(do
   standAt iter.pos;match <- pyNext it with
   |none=>pure (.done .next)
   |some v=>
    letOwnedTupleGo target it v;assign target env v;let mut ok:=true
    for c in ifs do
     if ok then ok <- isTrue c env (eval c env)
    if ok then (do let v <- eval elt env;standAt elt.pos;let _ <- call (.builtin "set.add") [acc,v])
    again (.compLoop (.SetComp elt [⟨target,iter,ifs,0⟩] scope pos) 0 it acc env)):=by rfl
def lW (I:Nat->Shared->Prop)
  (turn:∀ n s,I n s->wpAny (model prog w) A (pyNext it) (λr s₁=>match r with
   |none=>R (.ok .next) s₁
   |some v=>wpAny (model prog w) A (letOwnedTupleGo target it v) (λ_ s₁'=>wpAny (model prog w) A (assign target env v) (λ_ s₂=>
     wpAny (model prog w) A (forIn ifs true λc r=>if r=true then do let ok <- isTrue c env (eval c env);pure (ForInStep.yield ok) else pure (ForInStep.yield r)) (λok s₃=>
      if ok=true then wpAny (model prog w) A (eval elt env) (λx s₄=>
       wpAny (model prog w) A (call (.builtin "set.add") [acc,x]) (λ_ s₅=>∃ m,m<n/\I m s₅) (λ_ _=>False) s₄) (λ_ _=>False) s₃
      else ∃ m,m<n/\I m s₃) (λ_ _=>False) s₂) (λ_ _=>False) s₁') (λ_ _=>False) s₁) (λ_ _=>False) s)
  (n:Nat) (h:I n s) :
  codeAny (model prog w) A (.compLoop (.SetComp elt [⟨target,iter,ifs,0⟩] scope pos) 0 it acc env) R s:=by
 refine codeAny_loop rfl I (λn s hI=>?_) n h;show wpAny _ A ((compTurn (.SetComp elt [⟨target,iter,ifs,0⟩] scope pos) 0 it acc env).onRaise (λx=>do noteFrame x env;theTreesLotGoes x)) _ _ s;calc wpAny_noted ?_;rw[XF];refine AA (C3 (AA (AX (turn n s hI) (λr s₁ h₁=>?_) λ_ _ h'=>h'.elim)));cases r with
 |none=>calc AB h₁
 |some v=>
  refine AA (AX h₁ (λ_ s₁' h₁'=>?_) λ_ _ h'=>h'.elim);refine AA (AX h₁' (λ_ s₂ h₂=>AA (AX h₂ (λok s₃ h₃=>?_) λ_ _ h'=>h'.elim)) λ_ _ h'=>h'.elim);cases ok with
  |false=>calc AB ⟨rfl,h₃⟩
  |true=>
   calc AA (AA (AX h₃ (λx s₄ h₄=>AA (C3 (AA (AX h₄ (λ_ s₅ h₅=>AB (AB ⟨rfl,h₅⟩)) λ_ _ h'=>h'.elim)))) λ_ _ h'=>h'.elim))
end L2
end
namespace ST
open PySem
abbrev Up (xs:Array Nat):Prop:=xs.toList.Pairwise (· < ·)
def Up.get (h:Up xs) (hik:i<k) (hk:k<xs.size):xs[i]'()<xs[k]:=by
 have:=List.pairwise_iff_getElem.mp h i k (by simpa using (show i<xs.size by omega)) (~~~hk) hik;simpa using this
theorem Lr (h:Up xs) (j:Nat):∀ (fuel lo hi:Nat),lo<=hi->hi<=xs.size->hi-lo<=fuel->(∀ i (hi':i<xs.size),i<lo->xs[i]<j)->(∀ i (hi':i<xs.size),hi<=i->j<=xs[i]) ->
  (SetTable.below.go xs j fuel lo hi<=xs.size)/\(∀ i (hi':i<xs.size),i<SetTable.below.go xs j fuel lo hi->xs[i]<j)/\(∀ i (hi':i<xs.size),SetTable.below.go xs j fuel lo hi<=i->j<=xs[i])
 |0,lo,hi,h1,h2,h3,a,b=>by
  have:lo=hi:=()
  subst this;erw[SetTable.below.go];calc ⟨h2,a,b⟩
 |fuel+1,lo,hi,h1,h2,h3,a,b=>by
  erw[SetTable.below.go];by_cases hl:lo<hi
  .rw[AD hl];dsimp only;let hm:(lo+hi) / 2<xs.size:=()
   let eg:xs.getD ((lo+hi) / 2) j=xs[(lo+hi) / 2]:=by simp[Array.getD,hm]
   rw[eg];by_cases hc:xs[(lo+hi) / 2]<j
   .rw[AD hc];refine Lr h j fuel _ _ () h2 () (λi hi' hlt=>?_) b;rcases Cw i ((lo+hi) / 2)with z|z
    .exact Nat.lt_trans (h.get z hm) hc
    .have:i=(lo+hi) / 2:=()
     subst this;exact hc
   .rw[AE hc];refine Lr h j fuel _ _ () () () a (λi hi' hge=>?_);rcases Cw ((lo+hi) / 2) i with z|z
    .have:=h.get z hi';omega
    .have:i=(lo+hi) / 2:=()
     subst this;omega
  .rw[AE hl];have:lo=hi:=()
   subst this;calc ⟨h2,a,b⟩
def J3 (h:Up xs) (j:Nat):SetTable.below xs j<=xs.size/\(∀ i (hi':i<xs.size),i<SetTable.below xs j->xs[i]<j)/\(∀ i (hi':i<xs.size),SetTable.below xs j<=i->j<=xs[i]):=by
 erw[SetTable.below];calc Lr h j xs.size 0 xs.size (Bv _) (AF _) () (λi _ z=>()) (λi hi' z=>())
def mR (h:Up xs):SetTable.below xs 0=0:=by
 let⟨a,b,c⟩:=J3 h 0;rcases Nat.eq_zero_or_pos (SetTable.below xs 0)with z|z
 .exact z
 .have:=b 0 () z;omega
def Xj (h:Up xs) (hk:k<xs.size):SetTable.below xs (xs[k]+1)=k+1:=by
 let⟨a,b,c⟩:=J3 h (xs[k]+1);rcases Nat.lt_trichotomy (SetTable.below xs (xs[k]+1)) (k+1)with z|z|z
 .have:=c k hk ();omega
 .exact z
 .have h1:k+1<xs.size:=()
  have:=b (k+1) h1 z;have:=h.get (show k<k+1 by omega) h1;omega
def Tp {α:Type} (xs:Array α) (p:Nat) (x:α):(SetTable.insertAt xs p x).toList=xs.toList.take p++x::xs.toList.drop p:=by
  erw[SetTable.insertAt];simp;have:xs.toList.length<=xs.size:=by simp
  rw[Gq (by simp)]
def Vb (h : Up xs) (hj : j ∉ xs.toList) : Up (SetTable.insertAt xs (SetTable.below xs j) j) := by
  obtain ⟨a, b, c⟩ := J3 h j;unfold Up;rw [Tp];rw [List.pairwise_append];have hT : ∀ x ∈ xs.toList.take (SetTable.below xs j), x < j := fun x hx => by
    let⟨i,hi,e⟩:=ET hx;rw[List.getElem_take]at e;rw[Bp]at hi
    have h1 : i < xs.size := by have : xs.toList.length = xs.size := by simp
                                omega
    have:=b i h1 ();rw[<-e];simpa using this
  have hD : ∀ x ∈ xs.toList.drop (SetTable.below xs j), j < x := fun x hx => by
    let⟨i,hi,e⟩:=ET hx;rw[List.getElem_drop]at e;rw[List.length_drop]at hi
    have h1 : SetTable.below xs j + i < xs.size := by have : xs.toList.length = xs.size := by simp
                                                      omega
    let h2:=c _ h1 ();let h3:x≠j:=λz=>hj (z▸List.mem_of_mem_drop hx);let e':xs[SetTable.below xs j+i]=x:=by simpa using e
    omega
  refine ⟨h.sublist (List.take_sublist _ _),CV.mpr ⟨hD,h.sublist (List.drop_sublist _ _)⟩,λx hx y hy=>?_⟩;rcases AJ.mp hy with z|z
  .rw[z];exact hT x hx
  .exact Nat.lt_trans (hT x hx) (hD y z)
def QC (j:Nat):SetTable.has #[] j=false:=by
 erw[SetTable.has];simp
def gX {t:SetTable} (h:Up t.place) (he:t.slot j=.empty):j∉t.place.toList:=λhm=>by
 let⟨a,b,c⟩:=J3 h j;let⟨k,hk,e⟩:=ET hm;let hk':k<t.place.size:=by simpa using hk
 let e':t.place[k]=j:=by simpa using e
 let eb:SetTable.below t.place j=k:=by
  rcases Nat.lt_trichotomy (SetTable.below t.place j) k with z|z|z
  .have h1:SetTable.below t.place j<t.place.size:=()
   have:=c _ h1 (AF _);have:=h.get z hk';omega
  .exact z
  .have:=b k hk' z;omega
 erw[SetTable.slot]at he;rw[eb,AD (by simp[hk',e'])]at he;ext he
theorem SM (hd:t.dummies = #[]):∀ (fuel:Nat) (p:SetTable.Probe) {j:Nat} {d:Option Nat},p.dummy=none->SetTable.probe.go t hashAt h fuel p=some (.empty j d)->d=none/\t.slot j=.empty
 |0,_,_,_,_,e=>by erw[SetTable.probe.go]at e;ext e
 |fuel+1,p,j,d,hp,e=>by
  erw[SetTable.probe.go]at e;cbv at e
  .rename_i hs;ext e;exact ⟨hp,hs⟩
  .rename_i hs;erw[SetTable.slot]at hs;dsimp only at hs;rw[hd,QC]at hs;split at hs <;> first|cases hs|simp at hs
  .split at e
   .cases e
   .refine SM hd fuel _ ?_ e;erw[SetTable.advance];split <;> simp[hp]
def U9 {t:SetTable} (hu:Up t.place) (hd:t.dummies = #[]) (e:t.freeSlot h=some (j,b)):b=false/\j∉t.place.toList:=by
 erw[SetTable.freeSlot]at e;cbv at e
 .rename_i j' d hp;erw[SetTable.probe]at hp;let⟨h1,h2⟩:=SM hd _ _ (by rfl) hp;subst h1;simp at e;let⟨rfl,rfl⟩:=e;exact ⟨rfl,gX hu h2⟩
 .cases e
structure Ay (w:Yo) (t:SetTable):Prop where
 led:t.led = !w.params.followText "set-order"
 up:Up t.place
 nod:t.dummies = #[]
def Wv (n:Nat):Up (Array.range n):=by
 erw[Up];rw[Array.toList_range];calc List.pairwise_lt_range
def Ay.standIn (h:Ay w t) (n:Nat):Ay w (t.standIn n):=⟨h.led,Wv n,rfl⟩
def Ay.orStandIn (h:Ay w t) (n:Nat):Ay w (t.orStandIn n):=by
 erw[SetTable.orStandIn];split
 .exact h
 .exact h.standIn n
def Ay.put (h:Ay w t) (hj:j∉t.place.toList):Ay w (t.put j).1:=by
 erw[SetTable.put];calc ⟨h.led,Vb h.up hj,?_⟩;rw[h.nod,QC];rfl
theorem Ay.layNew (h:Ay w t) (es:Yw) (hh:Int) (x:Yu):Ay w (layNew t es hh x).2.1:=by
 erw[PySem.layNew];split
 .rename_i j b e;exact (h.put (U9 h.up h.nod e).2).orStandIn _
 .exact h.standIn _
def Ay.relaid (h:Ay w t) (e:t.relaid hs wanted=some (t',order)):Ay w t':=by
 erw[SetTable.relaid,SetTable.laid]at e;cases q:SetTable.layClean (SetTable.sizeAbove wanted-1) hs with
 |none=>rw[q]at e;ext e
 |some owner=>
  rw[q]at e;simp only[Option.bind_eq_bind,Option.bind_some,Option.pure_def,Option.some.injEq,Prod.mk.injEq]at e;let⟨rfl,_⟩:=e;calc ⟨h.led,?_,rfl⟩;erw[Up];rw[List.pairwise_map,List.pairwise_filterMap];refine List.pairwise_lt_range.imp λ{a b} hab x hx y hy=>?_;cases o1:owner.getD a none with
  |none=>rw[o1]at hx;ext hx
  |some u=>
   cases o2:owner.getD b none with
   |none=>rw[o2]at hy;ext hy
   |some v=>
    rw[o1]at hx;rw[o2]at hy;ext hx;ext hy;calc hab
theorem Ay.relayAll (h:Ay w t) (es:Yw) (wanted:Nat):Ay w (relayAll t es wanted).2.1:=by
 erw[PySem.relayAll];split
 .rename_i t' order e;dsimp only;split
  .exact h.relaid e
  .exact h.standIn _
 .exact h.standIn _
theorem Ay.plain (h:Ay w t) (b:Bool):Ay w { t with plain:=b }:=⟨h.led,h.up,h.nod⟩
def Ay.fresh:Ay w (SetTable.fresh 0 0 (!w.params.followText "set-order")):=⟨rfl,List.Pairwise.nil,rfl⟩
open Sem (wp)
set_option genInjectivity true in
inductive F2 {α β:Type} (R:α->β->Prop):List α->List β->Prop
 |nil:F2 R [] []
 |cons {x y xs ys}:R x y->F2 R xs ys->F2 R (x::xs) (y::ys)
section
variable [DecidableEq K]
def K6 (knd:KeyKind prog w K) (e:Int × Value) (k:K):Prop:=(knd.is k e.2=true/\e.1=knd.hash k)/\e.2.scannable=true
structure SetK (knd:KeyKind prog w K) (o:Obj) (es:Yw) (ep:Nat) (t:SetTable) (ks:List K):Prop where
 ex:o.ExactSet
 data:o.data=.set es ep t
 tab:Ay w t
 fits:t.fits es.size=true
 bound:es.size<scanBound
 ent:∃ ks',ks'.Perm ks/\F2 (K6 knd) es.toList ks'
def ins (ks:List K) (k:K):List K:=if k∈ks then ks else ks++[k]
variable {knd:KeyKind prog w K}
theorem Rh {α β:Type} {R:α->β->Prop}:∀ {xs:List α} {ys:List β},F2 R xs ys->xs.length=ys.length
 |_,_,.nil=>rfl
 |_,_,.cons _ h=>by simp[Rh h]
theorem LI {α β:Type} {R:α->β->Prop}:∀ {xs:List α} {ys:List β},F2 R xs ys -> ∀ x∈xs,∃ y∈ys,R x y
 |_,_,.nil,x,hx=>by ext hx
 |_,_,.cons h r,x,hx=>by
  rcases AJ.mp hx with z|z
  .subst z;exact ⟨_,AZ,h⟩
  .obtain ⟨y,hy,q⟩:=LI r x z;calc ⟨y,Aq _ hy,q⟩
theorem QH {α β:Type} {R:α->β->Prop}:∀ {xs:List α} {ys:List β},F2 R xs ys -> ∀ y∈ys,∃ x∈xs,R x y
 |_,_,.nil,x,hx=>by ext hx
 |_,_,.cons h r,x,hx=>by
  rcases AJ.mp hx with z|z
  .subst z;exact ⟨_,AZ,h⟩
  .obtain ⟨y,hy,q⟩:=QH r x z;calc ⟨y,Aq _ hy,q⟩
theorem RT {α β:Type} {R:α->β->Prop}:∀ {xs:List α} {ys:List β} {us:List α} {vs:List β},F2 R xs ys->F2 R us vs->F2 R (xs++us) (ys++vs)
 |_,_,_,_,.nil,h=>h
 |_,_,_,_,.cons h r,q=> .cons h (RT r q)
def Oc {α β:Type} {R:α->β->Prop} {xs xs':List α} (p:xs'.Perm xs):∀ {ys:List β},F2 R xs ys -> ∃ ys',ys'.Perm ys/\F2 R xs' ys':=by
 let p':=p.symm;clear p;induction p' with
 |nil=>intro ys h;calc ⟨ys,.refl _,h⟩
 |cons x _ ih=>
  intro ys h;cases h with
  |cons h r=>
   let⟨ys',q1,q2⟩:=ih r;calc ⟨_,q1.cons _,.cons h q2⟩
 |swap x y l=>
  intro ys h;cases h with
  |cons h r=>
   cases r with
   |cons h2 r=>
    calc ⟨_,List.Perm.swap _ _ _,.cons h2 (.cons h r)⟩
 |trans _ _ ih1 ih2=>
  intro ys h;let⟨ys',q1,q2⟩:=ih1 h;let⟨ys'',r1,r2⟩:=ih2 q2;calc ⟨ys'',r1.trans q1,r2⟩
def SetK.size (h:SetK knd o es ep t ks):es.size=ks.length:=by
 let⟨ks',p,f⟩:=h.ent;rw[<-p.length_eq,<-Rh f,BM]
def SetK.elems (h:SetK knd o es ep t ks):ElemsOf knd es.toList:=λe he=>by
 let⟨ks',p,f⟩:=h.ent;let⟨k,_,q⟩:=LI f e he;calc ⟨⟨k,q.1⟩,q.2⟩
def SetK.mem (h:SetK knd o es ep t ks) (k:K):k∈ks ↔ ∃ e∈es.toList,knd.is k e.2=true:=by
 let⟨ks',p,f⟩:=h.ent;rw[<-p.mem_iff];constructor
 .intro hk;let⟨e,he,q⟩:=QH f k hk;exact ⟨e,he,q.1.1⟩
 .rintro ⟨e,he,q⟩;let⟨k',hk',q'⟩:=LI f e he;rw[knd.inj e.2 k k' q q'.1.1];calc hk'
variable {s:Yl}
def SetK.typeIs (h:SetK knd o es ep t ks) (ho:s.heap.get? a=some o):s.TypeIs (.ref a) "set" := ⟨o,ho,h.ex.1⟩
def RJ {h:Heap} (ho:h.get? a=some o) (hd:o.data=.set es ep t) :
  (h.update a (Obj.putSet es' t')).get? a=some { o with data:=.set es' (ep+1) t' }:=by
 have:=EN (Obj.putSet es' t') ho (by rw[putSet_of es' t' hd];rfl);rw[putSet_of es' t' hd]at this;calc this
def Zb {Q:Bool->Shared->Prop} (hkey:knd.is k x=true) (hsc:x.scannable=true) (ho:s.heap.get? a=some o) (hS:SetK knd o es ep t ks) (hroom:ks.length+1<scanBound)
  (h:∀ h' o' es' ep' t' b,Heap.SameBut a s.heap h'->h'.get? a=some o'->SetK knd o' es' ep' t' (ins ks k)->Q b { s with heap:=h' }) :
  wpAny (model prog w) A (setAddHashed a x (knd.hash k)) Q E s:=by
 let hd:=hS.data;let hf:=hS.fits;let hel:=hS.elems;let hb:=hS.bound;let hb1:es.size+1<scanBound:=by rw[hS.size];exact hroom
 erw[setAddHashed,setAddHashedIn];calc CD (AA (wpAny_setState_of ho hd hf ?_));dsimp only;rw[byScan_of hsc hb hel];simp only[↓reduceIte];erw[setAddByScan];calc AA ?_;calc AA (Bx ?_);calc AA (wpAny_setScan_of hkey ho hd hf hel ?_);cases hr:List.findIdx? (λe=>knd.is k e.2) es.toList with
 |some j=>
  let⟨hj,hpj,_⟩:=List.findIdx?_eq_some_iff_getElem.mp hr;let hSk:k∈ks:=(hS.mem k).mpr ⟨es.toList[j],BF hj,hpj⟩;calc AB (AB ?_);let e:s={ s with heap:=s.heap }:=by ext s;rfl
  rw[e];calc h s.heap o es ep t _ (Heap.SameBut.refl a s.heap) ho ?_;erw[ins];rw[AD hSk];calc hS
 |none=>
  let hSk:k∉ks:=λhk=>by
   let⟨e,he,hp⟩:=(hS.mem k).mp hk;have:=List.findIdx?_eq_none_iff.mp hr e he;rw[hp]at this;exact Bool.noConfusion this
  let hgw:∀ (b:Bool) {s₁:Shared} {Q':Unit->Shared->Prop},Q' Unit.unit s₁->wpAny (model prog w) A (match b with|true=>rule "set.scan.the-table-gave-way" |false=>pure Unit.unit) Q' E s₁ :=
   λb s₁ Q' hq=>by cases b <;> first|exact AB hq|exact Bx hq
  let hperm:=layNew_perm t es (knd.hash k) x;let hfits:=layNew_fits t es (knd.hash k) x;let htab:=hS.tab.layNew es (knd.hash k) x;generalize hL:layNew t es (knd.hash k) x=L at hperm hfits htab ⊢;let⟨es1,t1,wasDummy,gave⟩:=L;rw[Array.toList_push]at hperm;let hb1':es1.size<scanBound:=by rw[<-BM,hperm.length_eq,AW,BM];simpa using hb1
  let⟨ks',p,f⟩:=hS.ent;let f1:F2 (K6 knd) (es.toList++[(knd.hash k,x)]) (ks'++[k]):=RT f (.cons ⟨⟨hkey,rfl⟩,hsc⟩ .nil);let⟨ks1,p1,f2⟩:=Oc hperm f1;let pI:ks1.Perm (ins ks k):=by
   erw[ins];rw[AE hSk];exact p1.trans (p.append_right _)
  refine AA (hgw _ ?_)
  let tail:∀ t2:SetTable,Ay w t2->t2.fits es1.size=true->wpAny (model prog w) A (do
    storeSet a es1 t2
    if (!wasDummy&&t2.tooFull)=true then do
      (match (relayAll t2 es1 (SetTable.grown es1.size)).2.2 with|true=>rule "set.scan.the-table-gave-way" |false=>pure Unit.unit)
      storeSet a (relayAll t2 es1 (SetTable.grown es1.size)).1 (relayAll t2 es1 (SetTable.grown es1.size)).2.1;pure (some true)
     else pure (some true)) (λr s'=>wpAny (model prog w) A (match r with|some added=>pure added|none=>setAddHashedIn a x (knd.hash k) 99999) Q E s') E s:=by
   intro t2 T2 F2;calc AA (wpAny_storeSet_of ho hd ?_ (fits_of_scanBound hb1'));let g1:=RJ (es':=es1) (t':=t2) ho hd;let sb1:=Cy s.heap a (Obj.putSet es1 t2);let S1:SetK knd { o with data:=.set es1 (ep+1) t2 } es1 (ep+1) t2 (ins ks k):=⟨hS.ex,rfl,T2,F2,hb1',ks1,pI,f2⟩;split
   .have hp:=relayAll_perm t2 es1 (SetTable.grown es1.size);let hfr:=relayAll_fits t2 es1 (SetTable.grown es1.size);let htr:=T2.relayAll es1 (SetTable.grown es1.size);generalize hRl:relayAll t2 es1 (SetTable.grown es1.size)=Rl at hp hfr htr ⊢;let⟨es2,t3,gave2⟩:=Rl;let hsz:es2.size=es1.size:=by rw[<-BM,hp.length_eq,BM]
    let hb2:es2.size<scanBound:=by rw[hsz];exact hb1'
    let⟨ks2,p2,f3⟩:=Oc hp f2;calc AA (hgw _ ?_);calc AA (wpAny_storeSet_of g1 rfl ?_ (fits_of_scanBound hb2));let g2:=RJ (es':=es2) (t':=t3) g1 rfl;exact AB (AB (h _ _ _ _ _ _ (sb1.trans (Cy _ a _)) g2 ⟨hS.ex,rfl,htr,hfr,hb2,ks2,p2.trans pI,f3⟩))
   .exact AB (AB (h _ _ _ _ _ _ sb1 g1 S1))
  split
  .refine AA ?_;rw[hashByValue_scannable 8 hsc];refine AB ?_;refine tail _ ?_ ?_
   .split
    .exact htab
    .exact htab.plain _
   .split
    .exact hfits
    .exact SetTable.fits_plain_off hfits
  .refine AA (AB ?_);simp only[↓reduceIte];calc tail _ htab hfits
def cR (hkey:knd.is k x=true) (hsc:x.scannable=true) (ho:s.heap.get? a=some o) (hS:SetK knd o es ep t ks) (hroom:ks.length+1<scanBound)
  (h:∀ h' o' es' ep' t',Heap.SameBut a s.heap h'->h'.get? a=some o'->SetK knd o' es' ep' t' (ins ks k)->Q .none { s with heap:=h',toks:=s.toks+1 }) :
  wpAny (model prog w) A (call (.builtin "set.add") [.ref a,x]) Q E s:=by
 calc BQ F.slot_set_add (hS.typeIs ho) F.entry_set_add ?_ (F.args_set_add_2 _ _);unfold Builtin.«set.add» Builtin.Frozenset.oneOther;simp only[List.isEmpty_nil,bind_assoc];erw[Builtin.Frozenset.addrOf,setAdd];calc AA (AB ?_);try dsimp only
 calc AA (AB ?_);try dsimp only
 calc AA ?_;calc CD ?_;calc AA (knd.pyHash hkey ?_);refine Zb hkey hsc ho hS hroom λh' o' es' ep' t' b hsb ho' hS'=>?_;calc AB ⟨_,rfl,h h' o' es' ep' t' hsb ho' hS'⟩
def Fc (w:World):Obj:={ cls:=.type "set", dict:=none,data:=.set #[] 0 (.fresh 0 0 (!w.params.followText "set-order")) }
def SetK.fresh:SetK knd (Fc w) #[] 0 (.fresh 0 0 (!w.params.followText "set-order")) []:=⟨⟨rfl,rfl,rfl⟩,rfl,.fresh,by rfl,(),[],.refl _,.nil⟩
def mV (h:Q (.ref ⇑s) { s with heap:=s.heap.push (Fc w) }) :
  wpAny (model prog w) A (newSet (.type "set")) Q E s:=by
 erw[newSet,setsByText];calc AA (AA (wpAny_askSetting (AB ?_)));simp only[newObj];calc AA (wpAny_alloc (AB h))
end
open PySem.Spec PyProof.Rows
open Sem (wp)
def Rq:Manifest.owners.lookup (String.ofList ['r','o','t','a','r','e','t','i','_','t','e','s'].reverse)=some Manifest.sig_set_iterator:=by kernel_rfl
def Dz:Slot "set_iterator" "__next__" "set_iterator.__next__" := .of (owner := "set_iterator") (n := "__next__") (by rw[typeLookup_type,builtinLookup_eq_fast];kernel_rfl) (by decide+kernel) (by decide+kernel) (by decide+kernel) (by first|exact .inl (by decide+kernel)|calc .inr (by decide+kernel)) (by rw[isSubtype_type];kernel_rfl)
def Se:Slot "set_iterator" "__iter__" "set_iterator.__iter__" := .of (owner := "set_iterator") (n := "__iter__") (by rw[typeLookup_type,builtinLookup_eq_fast];kernel_rfl) (by decide+kernel) (by decide+kernel) (by decide+kernel) (by first|exact .inl (by decide+kernel)|calc .inr (by decide+kernel)) (by rw[isSubtype_type];kernel_rfl)
def JY (a:Value):argsOk "set_iterator.__next__" ⟨[a],[]⟩:=by
 erw[argsOk];rw[signature?_of (n:=['_','_','t','x','e','n','_','_']) (by kernel_rfl) Rq];kernel_rfl
def UN (a:Value):argsOk "set_iterator.__iter__" ⟨[a],[]⟩:=by
 erw[argsOk];rw[signature?_of (n:=['_','_','r','e','t','i','_','_']) (by kernel_rfl) Rq];kernel_rfl
def KI:entryFor table "set_iterator.__next__" = some Builtin.«set_iterator.__next__»:=entryFor_of_tree (by kernel_rfl)
def V3:entryFor table "set_iterator.__iter__" = some Builtin.«dict_keyiterator.__iter__» :=
 entryFor_alias (id' := "dict_keyiterator.__iter__") (by kernel_rfl) (by first|rfl|decide+kernel|(erw[String.splitOn];simp +decide [String.splitOnAux])) (by decide+kernel) (by kernel_rfl)
def T6:entryFor table "set.__iter__" = some Builtin.«frozenset.__iter__» :=
 entryFor_alias (id' := "frozenset.__iter__") (by kernel_rfl) rfl (by decide+kernel) (by kernel_rfl)
def Bc (f:Value) (i:Nat) (a:Addr) (n ep:Nat):Obj:={ cls:=.type "set_iterator", data:=.fields #[f,rawInt i,.ref a,rawInt n,rawInt ep] }
theorem NF {α:Type}:∀ {l:List α} {i:Nat} (h:i<l.length),(l[i]::l.eraseIdx i).Perm l
 |[],i,h=>by simp at h
 |x::l,0,h=>by simp
 |x::l,i+1,h=>by
  have:=NF (~~~h);rw[List.getElem_cons_succ,List.eraseIdx_cons_succ];calc (List.Perm.swap _ _ _).trans (this.cons x)
def Qx {α:Type} {l:List α} (h:i<l.length) (e:n+1=l.length):n=(l.eraseIdx i).length:=by
 rw[List.length_eraseIdx,AD h];omega
theorem OM {α:Type} (next:Nat->Nat):∀ (fuel k:Nat) (left:List α) (out:Array α),fuel=left.length->(pickOrder.go next fuel k left out).toList.Perm (out.toList++left)
 |0,k,left,out,h=>by
  have:left=[]:=F3.mp h.symm;subst this;erw[pickOrder.go];simp
 |fuel+1,k,left,out,h=>by
  erw[pickOrder.go];let hl:0<left.length:=()
  let hm:next k % left.length<left.length:=Nat.mod_lt _ hl
  rw[AL hm];calc (OM next fuel (k+1) _ _ (Qx hm h)).trans ?_;rw[Array.toList_push,B7];calc (NF hm).append_left _
def PY {α:Type} (next:Nat->Nat) (xs:Array α):(pickOrder next xs).toList.Perm xs.toList:=by
 erw[pickOrder];simpa using OM next xs.size 0 xs.toList #[] (by simp)
section
variable {s:Yl}
def aV (h0:n≠0) (h:∀ r d,r<n->Q r { s with drawn:=d }):wpAny (model prog w) A (choose src n) Q E s :=
 λΓ p hΓ=>⟨h0,h _ _ (Nat.mod_lt _ ())⟩
theorem SE {α:Type}:∀ (n:Nat) (xs:List α) {s:Yl} {Q:List α->Shared->Prop},n=xs.length->(∀ ys d,ys.Perm xs->Q ys { s with drawn:=d })->wpAny (model prog w) A (drawOrder n xs) Q E s
 |0,xs,s,Q,h,q=>by
  have:xs=[]:=F3.mp h.symm;subst this;let e:s={ s with drawn:=s.drawn }:=by ext s;rfl
  rw[e];calc AB (q [] s.drawn (.refl _))
 |n+1,[],s,Q,h,q=>by ext h
 |n+1,x::xs,s,Q,h,q=>by
  erw[drawOrder];refine AA (aV (by simp) λr d hr=>?_);rw[AL hr];refine AA (SE n _ (Qx hr h) λys d' hp=>AB ?_);calc q _ d' ((hp.cons _).trans (NF hr))
variable {K:Type} [DecidableEq K] {ks:List K}
def Fp (h:s.heap.get? I=some (Bc f i a n ep)):s.TypeIs (.ref I) "set_iterator" := ⟨_,h,rfl⟩
def OW (hI:s.heap.get? I=some (Bc f i a n ep)) (h:Q (.ref I) s):wpAny (model prog w) A (pyIter (.ref I)) Q E s:=by
 calc wpAny_pyIter_slot (Fp hI) Se (BQ Se (Fp hI) V3 ?_ (UN _));calc AB ⟨_,rfl, "set_iterator", _,Fp hI,Dz.lookup,h⟩
structure Nexts (prog:Ym) (w:Yo) (o:Obj) (a:Yt) (ep:Nat) (n:Nat) (at_:Nat->Nat) (ord:Yf):Prop where
 len:ord.length=n
 nx:∀ (A:Yn) (E:Yc) (i:Nat) (s:Yl) (Q:Option (Value × Nat)->Shared->Prop),i<=n->s.heap.get? a=some o->Q ((ord[i]?).map λx=>(x,at_ (i+1))) s->wpAny (model prog w) A (setNext a (at_ i) i ep) Q E s
def Ts (N:Nexts prog w o a ep ks.length at_ ord) (hS:SetK knd o es ep t ks) (hI:s.heap.get? I=some (Bc (rawInt (at_ i)) i a ks.length ep)) (ho:s.heap.get? a=some o)
  (hx:ord[i]?=some x) (hQ:∀ h',h'.get? I=some (Bc (rawInt (at_ (i+1))) (i+1) a ks.length ep)->Heap.SameBut I s.heap h'->Q (some x) { s with heap:=h' }):wpAny (model prog w) A (pyNext (.ref I)) Q E s:=by
 let hT:=Fp hI;let hi:i<ks.length:=by have:=(AK.mp hx).1;rw[N.len]at this;exact this
 erw[pyNext];calc AA (DM (CG hT Dz (BQ Dz hT KI ?_ (JY _))));unfold Builtin.«set_iterator.__next__» slotArgs;simp only[List.isEmpty_nil,Bool.not_true,C0,↓reduceIte,DV,bne_self_eq_false,pure_bind,bind_assoc];calc AA (wpAny_fieldsOf hI rfl ?_);dsimp only[rawInt];calc AA (wpAny_setEntries_of ho hS.data hS.fits ?_);rw[AE (by rw[hS.size];simp)];calc AA (N.nx _ _ i s _ () ho ?_);rw[hx];dsimp only[Option.map];calc AA (Dt hI rfl (by simp) ?_);let e1:=EN (Obj.mapFields λvs=>vs.set! 0 (rawInt (at_ (i+1)))) hI (Obj.isFreed_of_fields (Dx rfl _));calc AA (Dt e1 (Dx rfl _) (by simp) ?_);let e2:=EN (Obj.mapFields λvs=>vs.set! 1 (rawInt ((i:Int)+1))) e1 (Obj.isFreed_of_fields (Dx (Dx rfl _) _));calc AB ⟨x,rfl,AB (hQ _ ?_ ((Cy ..).trans (Cy ..)))⟩;calc e2.trans ?_;simp[Obj.mapFields,Bc,rawInt]
end
open Sem (wp)
section
variable {K:Type} [DecidableEq K] {knd:KeyKind prog w K}
def NU (hh:A.handled=none) (N:Nexts prog w o a ep ks.length at_ ord) (hS:SetK knd o es ep t ks) (hI:s.heap.get? I=some (Bc (rawInt (at_ ks.length)) ks.length a ks.length ep)) (ho:s.heap.get? a=some o)
  (hQ:∀ h',Heap.ExtBut I s.heap h'->Q none { s with heap:=h' }):wpAny (model prog w) A (pyNext (.ref I)) Q E s:=by
 let hT:=Fp hI;erw[pyNext];calc AA (DM (CG hT Dz (BQ Dz hT KI ?_ (JY _))));unfold Builtin.«set_iterator.__next__» slotArgs;simp only[List.isEmpty_nil,Bool.not_true,C0,↓reduceIte,DV,bne_self_eq_false,pure_bind,bind_assoc];calc AA (wpAny_fieldsOf hI rfl ?_);dsimp only[rawInt];calc AA (wpAny_setEntries_of ho hS.data hS.fits ?_);rw[AE (by rw[hS.size];simp)];calc AA (N.nx _ _ ks.length s _ (AF _) ho ?_);rw[E4 (by rw[N.len];calc AF _)];dsimp only[Option.map];calc AA (Dt hI rfl (by simp) ?_);simp only[newExc,newTuple,bind_assoc,pure_bind];calc AA (BI (AA (wpAny_of_eq (by first|rfl|(simp only[firstArgMember];rfl)) (AA (BI ?_ (by size_fits))))) (by size_fits));simp only[raiseNew];calc AA (wpAny_handled ?_);rw[show A.in1.handled=none from hh];calc AA (AB (wpAny_throw ?_));calc AA (wpAny_isInstance ⟨_,AM _ rfl,rfl⟩ isSubtype_stop (AB ?_));calc hQ _ (((Cy ..).extBut.push _).push _)
def nF (hh:A.handled=none) (hne:a≠I) (N:Nexts prog w o a ep ks.length at_ ord) (hS:SetK knd o es ep t ks) :
  Walks prog w A I [I,a] [I] ks.length (λi v=>ord[i]?=some v) (λi h=>h.get? I=some (Bc (rawInt (at_ i)) i a ks.length ep)/\h.get? a=some o) where
 sub:=λb hb=>by simp at hb;simp[hb]
 frame:=λ_ _ _ st hk=>⟨hk I (by simp) _ st.1,hk a (by simp) _ st.2⟩;item:=λi s Q E hi st hQ=>by
  let hx:ord[i]?=some (ord[i]'(by rw[N.len];calc hi)):=AL _;refine Ts N hS st.1 st.2 hx λh' hI' hs'=>?_;exact hQ _ h' s.toks hx ⟨hI',hs'.extBut a o hne st.2⟩ λb u hb ee=>hs'.extBut b u (λh=>hb (by simp[h])) ee
 done:=λs Q E st hQ=>NU hh N hS st.1 st.2 λh' he'=>hQ h' s.toks λb u hb ee=>he' b u (λh=>hb (by simp[h])) ee;self:=λ_ _ _ _ st hQ=>OW st.1 hQ
def T3 {pl:Yj} (hS:SetK knd o es ep t ks) (hl:pl.length=ks.length) (hI:s.heap.get? I=some (Bc (.ref T) i a ks.length ep)) (ho:s.heap.get? a=some o)
  (hT:IsTup s.heap T (pl.map λ(k:Nat)=>rawInt k).toArray)
  (hx:(pl[i]?).bind (λk=>(es[k]?).map (·.2))=some x) (hQ:∀ h',h'.get? I=some (Bc (.ref T) (i+1) a ks.length ep)->Heap.SameBut I s.heap h'->Q (some x) { s with heap:=h' }):wpAny (model prog w) A (pyNext (.ref I)) Q E s:=by
 let hTy:=Fp hI;let⟨oT,hoT,hcT,nT,hdT⟩:=id hT;cases hp:pl[i]? with
 |none=>rw[hp]at hx;ext hx
 |some k=>
  rw[hp]at hx;cases he:es[k]? with
  |none=>simp only[Option.bind_some]at hx;rw[he]at hx;ext hx
  |some e=>
   simp only[Option.bind_some]at hx;rw[he]at hx;ext hx;erw[pyNext];calc AA (DM (CG hTy Dz (BQ Dz hTy KI ?_ (JY _))));unfold Builtin.«set_iterator.__next__» slotArgs;simp only[List.isEmpty_nil,Bool.not_true,C0,↓reduceIte,DV,bne_self_eq_false,pure_bind,bind_assoc];calc AA (wpAny_fieldsOf hI rfl ?_);dsimp only[rawInt];calc AA (wpAny_setEntries_of ho hS.data hS.fits ?_);rw[AE (by rw[hS.size];simp)];calc AA (D7 hoT hdT ?_);dsimp only;let e5:(List.map (λ(k:Nat)=>rawInt k) pl).toArray[(i:Int).toNat]?=some (rawInt k):=by simp[hp]
   rw[e5];dsimp only[rawInt];erw[setNextDrawn];simp only[bind_assoc];calc AA (wpAny_setState_of ho hS.data hS.fits ?_);rw[AE (by simp)];let e6:es[(k:Int).toNat]?=some e:=by simpa using he
   rw[e6];let⟨e1,e2⟩:=e;simp only[pure_bind];calc AA (Dt hI rfl (by simp) ?_);calc AB ⟨e2,rfl,AB (hQ _ ?_ (Cy ..))⟩;calc (EN _ hI (Obj.isFreed_of_fields (Dx rfl _))).trans ?_;simp[Obj.mapFields,Bc,rawInt]
def j3 {pl:Yj} (hh:A.handled=none) (hS:SetK knd o es ep t ks) (hl:pl.length=ks.length) (hI:s.heap.get? I=some (Bc (.ref T) ks.length a ks.length ep)) (ho:s.heap.get? a=some o)
  (hT:IsTup s.heap T (pl.map λ(k:Nat)=>rawInt k).toArray) (hQ:∀ h',Heap.ExtBut I s.heap h'->Q none { s with heap:=h' }):wpAny (model prog w) A (pyNext (.ref I)) Q E s:=by
 let hTy:=Fp hI;let⟨oT,hoT,hcT,nT,hdT⟩:=id hT;erw[pyNext];calc AA (DM (CG hTy Dz (BQ Dz hTy KI ?_ (JY _))));unfold Builtin.«set_iterator.__next__» slotArgs;simp only[List.isEmpty_nil,Bool.not_true,C0,↓reduceIte,DV,bne_self_eq_false,pure_bind,bind_assoc];calc AA (wpAny_fieldsOf hI rfl ?_);dsimp only[rawInt];calc AA (wpAny_setEntries_of ho hS.data hS.fits ?_);rw[AE (by rw[hS.size];simp)];calc AA (D7 hoT hdT ?_);dsimp only;let e5:(List.map (λ(k:Nat)=>rawInt k) pl).toArray[(ks.length:Int).toNat]?=none:=by simp[hl]
 rw[e5];dsimp only[rawInt];calc AA (Dt hI rfl (by simp) ?_);let e1:=EN (Obj.mapFields λvs=>vs.set! 0 (rawInt 0)) hI (Obj.isFreed_of_fields (Dx rfl _));calc AA (Dt e1 (Dx rfl _) (by simp) ?_);simp only[newExc,newTuple,bind_assoc,pure_bind];calc AA (BI (AA (wpAny_of_eq (by first|rfl|(simp only[firstArgMember];rfl)) (AA (BI ?_ (by size_fits))))) (by size_fits));simp only[raiseNew];calc AA (wpAny_handled ?_);rw[show A.in1.handled=none from hh];calc AA (AB (wpAny_throw ?_));calc AA (wpAny_isInstance ⟨_,AM _ rfl,rfl⟩ isSubtype_stop (AB ?_));calc hQ _ ((((Cy ..).trans (Cy ..)).extBut.push _).push _)
def bS {pl:Yj} (hh:A.handled=none) (hne:a≠I) (hneT:T≠I) (hS:SetK knd o es ep t ks) (hl:pl.length=ks.length) (hb:∀ k∈pl,k<es.size) :
  Walks prog w A I [I,a,T] [I] ks.length (λi v=>(pl[i]?).bind (λk=>(es[k]?).map (·.2))=some v) (λi h=>h.get? I=some (Bc (.ref T) i a ks.length ep)/\h.get? a=some o/\IsTup h T (pl.map λ(k:Nat)=>rawInt k).toArray) where
 sub:=λb hb=>by simp at hb;simp[hb]
 frame:=λ_ _ _ st hk=>⟨hk I (by simp) _ st.1,hk a (by simp) _ st.2.1,let ⟨oT,ho,r⟩:=st.2.2;⟨oT,hk T (by simp) oT ho,r⟩⟩;item:=λi s Q E hi st hQ=>by
  let hi':i<pl.length:=by rw[hl];exact hi
  let hk:pl[i]<es.size:=hb _ (BF hi');let hx:(pl[i]?).bind (λk=>(es[k]?).map (·.2))=some (es[pl[i]].2):=by
   rw[AL hi'];simp[hk]
  refine T3 hS hl st.1 st.2.1 st.2.2 hx λh' hI' hs'=>?_;exact hQ _ h' s.toks hx ⟨hI',hs'.extBut a o hne st.2.1,st.2.2.extBut hs'.extBut hneT⟩ λb u hb ee=>hs'.extBut b u (λh=>hb (by simp[h])) ee
 done:=λs Q E st hQ=>j3 hh hS hl st.1 st.2.1 st.2.2 λh' he'=>hQ h' s.toks λb u hb ee=>he' b u (λh=>hb (by simp[h])) ee;self:=λ_ _ _ _ st hQ=>OW st.1 hQ
end
open Sem (wp)
def Xg {prog:Ym} {w:Yo} {A:Yn} {I:Yt} {fp wr:Yg} {n:Nat} {P P':Nat->Value->Prop} {St:Nat->Heap->Prop} (W:Walks prog w A I fp wr n P St) (h:∀ i v,P i v->P' i v):Walks prog w A I fp wr n P' St where
 sub:=W.sub;frame:=W.frame;item:=λi s Q E hi st hQ=>W.item i s Q E hi st λv h' tk hP=>hQ v h' tk (h i v hP);done:=W.done;self:=W.self
section
variable {K:Type} [DecidableEq K] {knd:KeyKind prog w K}
def J9 (h:Q (w.params.followText "set-order") s):wpAny (model prog w) A setsByText Q E s:=by
 erw[setsByText];calc AA (wpAny_askSetting (AB h))
def mB (hS:SetK knd o es ep t ks) (hT:w.params.followText "set-order" = true):Nexts prog w o a ep ks.length (λ_=>0) ((pickOrder (w.params.setOrder a ep) es).toList.map (·.2)) where
 len:=by rw[AI,(PY _ es).length_eq,BM,hS.size]
 nx:=λA E i s Q hi ho hQ=>by
  erw[setNext];refine AA (wpAny_setState_of ho hS.data hS.fits ?_);refine AA (J9 ?_);rw[hT,AD rfl,AE (by simp)];refine AA ?_;erw[setWalk];refine AA (wpAny_setState_of ho hS.data hS.fits ?_);refine AA (J9 ?_);rw[hT,AD rfl];refine AA (wpAny_askSetting (AB ?_));refine AB ?_;let e:(Option.map (λ(e:Int × Value)=>(e.2,0)) (pickOrder (w.params.setOrder a ep) es)[i]?)=Option.map (λx=>(x,0)) ((pickOrder (w.params.setOrder a ep) es).toList.map (·.2))[i]?:=by
   rw[Ac,BZ];cases (pickOrder (w.params.setOrder a ep) es)[i]? <;> rfl
  show Q (Option.map (λ(e:Int × Value)=>(e.2,0)) (pickOrder (w.params.setOrder a ep) es)[i]?) s;rw[e];calc hQ
def Mj (t:SetTable):Nat->Nat
 |0=>0
 |i+1=>t.place.getD i 0+1
def XC (h:Up t.place) (hi:i<=t.place.size):SetTable.below t.place (Mj t i)=i:=by
 cases i with
 |zero=>calc mR h
 |succ i=>
  show SetTable.below t.place (t.place.getD i 0+1)=i+1;let hl:i<t.place.size:=()
  let e:t.place.getD i 0=t.place[i]:=by simp[Array.getD,hl]
  rw[e];calc Xj h hl
def Xi (hS:SetK knd o es ep t ks):t.place.size=es.size:=by
 have:=hS.fits;simp only[SetTable.fits,Au,beq_iff_eq]at this;calc this.1
def YK (hS:SetK knd o es ep t ks) (hT:w.params.followText "set-order" = false) (hd:(!t.plain&&decide (es.size>1))=false):Nexts prog w o a ep ks.length (Mj t) (es.toList.map (·.2)) where
 len:=by rw[AI,BM,hS.size]
 nx:=λA E i s Q hi ho hQ=>by
  let hz:=Xi hS;erw[setNext];calc AA (wpAny_setState_of ho hS.data hS.fits ?_);calc AA (J9 ?_);rw[hT,AE ()];show wpAny _ _ (if (!t.plain&&decide (es.size>1))=true then _ else _) _ _ _;rw[AE (by rw[hd];decide)];let hl:t.led=true:=by rw[hS.tab.led,hT];rfl
  calc AA ?_;show wpAny _ _ (if (!t.led && !es.isEmpty)=true then unsupported "set:maker-not-led" else pure Unit.unit) _ _ _;rw[AE (by rw[hl];simp)];calc AB ?_;rw[XC hS.tab.up (by rw[hz,hS.size];calc hi)];calc AB ?_;rw[Ac,BZ]at hQ;by_cases q:i<es.size
  .have q2:i<t.place.size:=by rw[hz];exact q
   rw[Co q,Co q2];rw[Co q]at hQ;let e:Mj t (i+1)=t.place[i]+1:=by
    show t.place.getD i 0+1=_;simp[Array.getD,q2]
   simp only[Option.map]at hQ;rw[e]at hQ;exact hQ
  .have:i=es.size:=by rw[hS.size]at q ⊢;omega
   rw[Array.getElem?_eq_none ()]at hQ ⊢;calc hQ
def gI (ho:s.heap.get? a=some o) (hS:SetK knd o es ep t ks)
  (h:∀ (h':Heap) (d:Drawn) (I:Yt) (fp:Yg) (ord:Yf) (St:Nat->Heap->Prop),(∀ b u,s.heap.get? b=some u->h'.get? b=some u)->⇑s<=I->(∀ b∈fp,b<h'.objs.size/\(b=a\/⇑s<=b)) ->
   (∀ A:Around,A.handled=none->Walks prog w A I fp [I] ks.length (λi v=>ord[i]?=some v) St)->St 0 h'->ord.Perm (es.toList.map (·.2))->Q (.ref I) { s with heap:=h',drawn:=d }) :
  wpAny (model prog w) A (pyIter (.ref a)) Q E s:=by
 let hT:=hS.typeIs ho;let hal:a<⇑s:=AH ho;refine wpAny_pyIter_slot hT F.slot_set_iter (BQ F.slot_set_iter hT T6 ?_ (F.args_set_iter_1 _));unfold Builtin.«frozenset.__iter__» Builtin.Frozenset.slot0 slotArgs Builtin.Frozenset.addrOf Builtin.Frozenset.sizeOf;simp only[List.isEmpty_nil,Bool.not_true,C0,↓reduceIte,DV,bne_self_eq_false,pure_bind,bind_assoc];refine AA (wpAny_setEntries_of ho hS.data hS.fits ?_);erw[setDrawn];simp only[bind_assoc];refine AA (wpAny_setState_of ho hS.data hS.fits ?_);refine AA (J9 ?_);simp only[pure_bind];let hsz:=hS.size;let plain:∀ (at_:Nat->Nat) (ord:Yf),at_ 0=0->Nexts prog w o a ep ks.length at_ ord->ord.Perm (es.toList.map (·.2))->Q (.ref ⇑s) { s with heap:=s.heap.push (Bc (rawInt 0) 0 a ks.length ep) }:=by
  intro at_ ord h0 N hp;let e:s.heap.push (Bc (rawInt 0) 0 a ks.length ep)=s.heap.push (Bc (rawInt 0) 0 a ks.length ep):=rfl
  have:=h (s.heap.push (Bc (rawInt 0) 0 a ks.length ep)) s.drawn ⇑s [⇑s,a] ord (λi h=>h.get? ⇑s=some (Bc (rawInt (at_ i)) i a ks.length ep)/\h.get? a=some o)
   (λb u e=>AG _ e) (AF _) (λb hb=>by
    rw[CF];rcases AJ.mp hb with z|z
    .rw[z];exact ⟨Ek _,.inr (AF _)⟩
    .rw[AR.mp z];calc ⟨ER hal,.inl rfl⟩)
   (λA hh=>nF hh (Ad hal) N hS) ⟨by rw[h0];calc AM _ rfl,AG _ ho⟩ hp
  exact this
 let mk:∀ (s1:Yl) (f:Yu) (hv:s1.heap.get? a=some o) {Q':Fin->Shared->Prop},Q' (.done (.ret (.ref ⇑s1))) { s1 with heap:=s1.heap.push (Bc f 0 a ks.length ep) }->wpAny (model prog w) A.in1 (do
   let e <- setEpoch a;let r <- newFields "set_iterator" [f,rawInt 0,Value.ref a,rawInt es.size,rawInt e];ret r) Q' E s1:=by
  intro s1 f hv Q' hq;calc AA (wpAny_setEpoch_of hv hS.data hS.fits ?_);erw[newFields];calc AA (BI (AB ?_));rw[hsz];exact hq
 let ty:∀ (s1:Shared) (f:Value),(∃ T' r,Shared.TypeIs { s1 with heap:=s1.heap.push (Bc f 0 a ks.length ep) } (.ref ⇑s1) T'/\typeLookup (Value.type T') (Str.ofString "__next__")=pure (some r)/\True):=λs1 f=>⟨"set_iterator", _,⟨_,AM _ rfl,rfl⟩,Dz.lookup,trivial⟩;show wpAny _ _ (if (!w.params.followText "set-order" && (!t.plain&&decide (es.size>1)))=true then _ else _) _ _ _;by_cases hc:(!w.params.followText "set-order" && (!t.plain&&decide (es.size>1)))=true
 .rw[AD hc];refine AA (SE _ _ (by simp) λpl d hp=>?_);refine AA ?_;erw[newTuple];let hpl:pl.length=ks.length:=by rw[hp.length_eq,List.length_range,hsz]
  refine BI ?_ (by
   show (List.map (λ(i:Nat)=>rawInt i) pl).toArray.size<=sizeLine;rw[AU,AI,hpl,<-hsz];calc fits_of_scanBound hS.bound)
  generalize hH:s.heap.push { cls:=.type "tuple", data:=.seq (List.map (λ(i:Nat)=>rawInt i) pl).toArray }=H;let kH:∀ b u,s.heap.get? b=some u->H.get? b=some u:=λb u e=>by rw[<-hH];exact AG _ e
  let hT1:IsTup H ⇑s (pl.map λ(k:Nat)=>rawInt k).toArray:=⟨_,by rw[<-hH];calc AM _ rfl,rfl,0,rfl⟩;let szH:H.objs.size=⇑s+1:=by rw[<-hH];exact CF ..
  let szlt:⇑s<H.objs.size:=by rw[szH];exact Ek _
  let alt:a<H.objs.size:=Nat.lt_trans hal szlt;calc mk { s with heap:=H,drawn:=d } (.ref ⇑s) (kH _ _ ho) ?_;let⟨T',r,e1,e2,_⟩:=ty { s with heap:=H,drawn:=d } (.ref ⇑s);calc ⟨_,rfl,T',r,e1,e2,?_⟩;let kH2:∀ b u,s.heap.get? b=some u->(H.push (Bc (.ref ⇑s) 0 a ks.length ep)).get? b=some u:=λb u e=>AG _ (kH b u e);refine h _ d H.objs.size [H.objs.size,a,⇑s] (pl.map λk=>((es[k]?).map (·.2)).getD .none) (λi h=>h.get? H.objs.size=some (Bc (.ref ⇑s) i a ks.length ep)/\h.get? a=some o/\IsTup h ⇑s (pl.map λ(k:Nat)=>rawInt k).toArray) kH2 (by rw[szH];calc Nat.le_succ _) (λb hb=>?_) (λA hh=>?_) ⟨AM _ rfl,kH2 a o ho,?_⟩ ?_
  .rw[CF];simp only[AJ,CN,or_false]at hb;rcases hb with z|z|z
   .rw[z];exact ⟨Ek _,.inr (Ce szlt)⟩
   .rw[z];exact ⟨ER alt,.inl rfl⟩
   .rw[z];exact ⟨ER szlt,.inr (AF _)⟩
  .have hb:∀ k∈pl,k<es.size:=λk hk=>by have:=hp.mem_iff.mp hk;simpa using this
   refine Xg (bS hh (Ad alt) (Ad szlt) hS hpl hb) λi v hv=>?_;rw[Ac];cases q:pl[i]? with
   |none=>rw[q]at hv;ext hv
   |some k=>
    rw[q]at hv;simp only[Option.bind_some]at hv;rw[Option.map_some,hv];rfl
  .exact hT1.push _
  .have e:es.toList.map (·.2)=(List.range es.size).map λk=>((es[k]?).map (·.2)).getD .none:=by
    apply List.ext_getElem?;intro i;rw[Ac,Ac,BZ];by_cases q:i<es.size
    .rw[List.getElem?_range q,Co q];simp[q]
    .rw[Array.getElem?_eq_none (),E4 (by simp;omega)];rfl
   rw[e];exact hp.map _
 .rw[AE hc];calc mk s (rawInt 0) ho ?_;let⟨T',r,e1,e2,_⟩:=ty s (rawInt 0);calc ⟨_,rfl,T',r,e1,e2,?_⟩;cases hX:w.params.followText "set-order" with
  |true=>calc plain _ _ rfl (mB hS hX) ((PY _ es).map _)
  |false=>
   rw[hX]at hc;calc plain _ _ rfl (YK hS hX (~~~hc)) (.refl _)
end
open Sem (wp)
section
variable {K:Type} [DecidableEq K] {knd:KeyKind prog w K}
def k9:isSubtype (.type "set") (.type "set")=pure true:=sub_set_self
def cI (hT:s.TypeIs (.ref a) "set") (h:Q false s):wpAny (model prog w) A (Builtin.List.listLengthHint (.ref a)) Q E s:=by
 erw[Builtin.List.listLengthHint];calc AA (wpAny_specialOf hT F.slot_set_len.lookup ?_);let hsp:splitId "set.__len__" = some ("set", "__len__"):=by decide+kernel
 dsimp only;rw[hsp];calc AA (wpAny_isInstance hT k9 ?_);rw[AE (),AD (by decide+kernel)];calc AA (wpAny_typeOf hT ?_);calc AB h
def VN (hh:A.handled=none) (ho:s.heap.get? a=some o) (hS:SetK knd o es ep t ks)
  (hQ:∀ (s':Yl) (acc:Yf),(∀ b u,s.heap.get? b=some u->s'.heap.get? b=some u)->s'.os=s.os->s'.gens=s.gens->acc.Perm (es.toList.map (·.2))->Q acc s'):wpAny (model prog w) A (collect (.ref a)) Q E s:=by
 let hal:a<⇑s:=AH ho;let hn:ks.length<=sizeLine:=by rw[<-hS.size];exact fits_of_scanBound hS.bound
 erw[collect];calc AA (wpAny_runValue (Ez F.entry_proto_collect ?_));rw[Fy F.plain_proto_collect _];calc AA (BI (AB ⟨plainId_quiet F.plain_list_iadd _,Ez F.entry_list_iadd ?_⟩));rw[Fy F.plain_list_iadd _];generalize hH:s.heap.push { cls:=.type "list", data:=.seq ([]:List Value).toArray }=H;let kH:∀ b u,s.heap.get? b=some u->H.get? b=some u:=λb u e=>by rw[<-hH];exact AG _ e
 let szH:H.objs.size=⇑s+1:=by rw[<-hH];exact CF ..
 let hL1:H.get? ⇑s=some { cls:=.type "list", data:=.seq ([]:List Value).toArray }:=by rw[<-hH];exact AM _ rfl
 let ho1:=kH a o ho;show wpAny _ A.in1 (Builtin.List.listExtendWith (.ref ⇑s) (.ref a) (.ref ⇑s)) _ _ { s with heap:=H };erw[Builtin.List.listExtendWith];let hT1:Shared.TypeIs { s with heap:=H } (.ref a) "set" := ⟨o,ho1,hS.ex.1⟩;calc AA (wpAny_typeOf hT1 ?_);let hneL:⇑s≠a:=Cz hal;let h1:Builtin.List.listSameRef (.ref ⇑s) (.ref a)=false:=by simp[Builtin.List.listSameRef,hneL]
 let h2:(Value.type "set" == Value.type "list")=false:=()
 let h3:(Value.type "set" == Value.type "tuple")=false:=()
 simp only[h1,h2,h3,Bool.or_false,C0,if_false];refine AA (gI ho1 hS λh2 d I fp ord St k2 hI2 hfp W st0 hp=>?_);let ho2:=k2 a o ho1;refine AA (CD (cI ⟨o,ho2,hS.ex.1⟩ ?_));rw[AD (by decide+kernel)];refine AA (Bx (AA ?_));let hL2:=k2 _ _ hL1;refine AA (wpAny_updateSeq hL2 rfl ?_);let hS2:=EN (Obj.mapSeq (·.push Value.none)) hL2 rfl;refine wpAny_updateSeq hS2 rfl ?_;let hS3:=EN (Obj.mapSeq (·.pop)) hS2 rfl;generalize hH3:(h2.update ⇑s (Obj.mapSeq (·.push Value.none))).update ⇑s (Obj.mapSeq (·.pop))=H3 at hS3;let oth:∀ b u,b≠⇑s->h2.get? b=some u->H3.get? b=some u:=λb u hb e=>by
  rw[<-hH3];exact (EF _ _ (Ne.symm hb)).trans ((EF _ _ (Ne.symm hb)).trans e)
 let hSf:⇑s∉fp:=λhm=>by
  rcases (hfp _ hm).2 with z|z
  .exact hneL z
  .have z':H.objs.size<=⇑s:=z;rw[szH]at z';exact absurd z' (Nat.not_succ_le_self _)
 let WS:=(W A.in1.in1 hh).toS;let st3:St 0 H3:=(W A.in1.in1 hh).frame 0 _ _ st0 λb hb u e=>oth b u (λz=>hSf (z▸hb)) e;let hI3:I≠⇑s:=λz=>by
  let z':H.objs.size<=I:=hI2;rw[szH,z]at z';exact absurd z' (Nat.not_succ_le_self _)
 refine AB ⟨plainId_quiet F.plain_extend_loop _,codeAny_extend_loopS (WalksS.of_in1 WS) hn _ hSf _ ks.length 0 { s with heap:=H3,drawn:=d } _ _ rfl (Bv _) st3 hS3 (ItemsOf.nil _) λs' acc' c' hm hS' hacc=>?_⟩;refine AA (wpAny_load hS' (AB (hQ s' _ (λb u e=>hm.heap b u (λq=>?_) (oth b u (λz=>BY _ (z▸AH e)) (k2 b u (kH b u e)))) hm.os hm.gens ?_)))
 .rcases AJ.mp q with z|z
  .exact BY _ (z▸AH e)
  .have z':H.objs.size<=I:=hI2;rw[<-AR.mp z,szH]at z';exact BY _ (Nat.lt_trans (A0 (Ek _) z') (AH e))
 .have e:acc'.toList=ord:=by
   let hl:ord.length=ks.length:=by rw[hp.length_eq,AI,BM,hS.size]
   apply List.ext_getElem?;intro i;rw[BZ];by_cases q:i<ks.length
   .have q':i<acc'.size:=by rw[hacc.1];exact q
    rw[Co q'];exact (hacc.2 i _ (Co q')).symm
   .rw[Array.getElem?_eq_none (by rw[hacc.1];omega),E4 ()]
  rw[e];calc hp
end
end ST
section
open PySem PySem.Spec PyProof.Rows
namespace L2
open ST
def iO {elt target iter ifs rest scope pos it acc env}
  (h0:codeAny (model prog w) A (.compLoop (.SetComp elt (⟨target,iter,ifs,0⟩::rest) scope pos) 0 it acc env) R s)
  (h:wpAny (model prog w) A (pyIter it) (λit' s'=>codeAny (model prog w) A (.compLoop (.SetComp elt (⟨target,iter,ifs,0⟩::rest) scope pos) 0 it' acc env) R s')
   (notedBy (model prog w) A env λx s'=>R (.error x) s') s) :
  codeAny (model prog w) A (.compStart (.SetComp elt (⟨target,iter,ifs,0⟩::rest) scope pos) 0 it acc env) R s:=by
 calc codeAny_of_tree ?_;show wpAny _ _ ((compStart (.SetComp elt (⟨target,iter,ifs,0⟩::rest) scope pos) 0 it acc env).onRaise (λx=>do noteFrame x env;standAt theWindowsPlace)) _ _ s;calc wpAny_notedAt ?_;erw[compStart];calc AA (wpAny_askSetting (wpAny_ite ?_));split
 .first
   |calc AA (AB (AB (And.intro rfl h0)))
   |exact AB (And.intro rfl h0)
 .first
   |exact AA (Bx (AA (C3 (AA (AX h (λit' s' h'=>AB (And.intro rfl h')) λ_ _ x=>x)))))
   | (calc AA (Bx ?_);show wpAny _ _ (standAt iter.pos >>= _) _ _ s;calc AA (C3 (AA (AX h (λit' s' h'=>AB (And.intro rfl h')) λ_ _ x=>x))))
section
variable {pos:Pos}
 {own:Yj} {g:TG} {tc:TT} {te:TE} {E:Yc}
def lN (h:SetK (intKind prog w) o es ep t ks):∀ v,o.data≠.cell v:=λv z=>by rw[h.data]at z;ext z
def YM (C:CompIn X scope own) (hcalm:X.calm=true) (I:Inv X zB Y H s) (T:Turn X.prog X.w X.K tg J fp it tn) (st:tn 0 s.heap) (hf:∀ b∈fp,Bd X zB H b)
  (c1:∀ x c,cl.lookup x=some c->X.env.cells.lookup x=some c) (c2:∀ y∈scope.names,y.2=.free->(cl.lookup y.1).isSome=true)
  (hg:PG (zP X zB scope cl s H fp) tg g) (hi:Dk (zP X zB scope cl s H fp) ifs tc) (he:PE (zP X zB scope cl s H fp) elt te)
  {RR:Value->Addr->Result->Shared->Prop} {QQ:List Int->Hp->Prop} {W:Nat->Nat->List Int->Hp->Prop} {m0:Nat} (w0:W 0 m0 [] H)
  (turn:∀ i m ys H,W i m ys H->(J.stop i H/\QQ ys H) \/
   (J.go i H /\ ∀ x H',J.yld i H x H'->g x (clr own Y) H' λσ2 H2=>Ext (clr own Y) σ2/\tc σ2 H2 λb H3=>
    if b=true then te σ2 H3 λv H4=>∃ k,v=.int k/\ys.length+1<scanBound /\ ∃ m',m'<m/\W (i+1) m' (ins ys k) H4 else ∃ m',m'<m/\W (i+1) m' ys H3))
  (fin:∀ σc H' s' o es ep t ys,Inv (zP X zB scope cl s H fp) [(⇑s,o)] σc H' s'->SetK (intKind X.prog X.w) o es ep t ys->QQ ys H'->RR (.ref ⇑s) (⇑s+1) (.ok .next) s') :
  wpAny (model X.prog X.w) X.A (newSet (.type "set")) (λacc s₃=>wpAny (model X.prog X.w) X.A (newFunctionEnv scope X.env.globals cl [] X.env.qual none .none (some X.env)) (λcenv s₄=>
   codeAny (model X.prog X.w) X.A (.compStart (.SetComp elt [⟨tg,iter,ifs,0⟩] scope pos) 0 (.ref it) acc { cenv with scope:=relabel scope X.env }) (RR acc cenv.locals) s₄) E s₃) E s:=by
 let ob:∀ b:Nat,b∈fp->b<⇑s:=λb hb=>let ⟨_,e,_⟩:=T.obj 0 _ st b hb;AH e;refine mV (LO ?_);let sz1:(s.heap.push (Fc X.w)).objs.size=⇑s+1:=CF ..;let I4:=LR C.sc I hf ob c1 c2 (GW own Y) (λi x v h1 h2 h3=>by
  let⟨a,b⟩:=F7 own Y i v h2;rcases C.nm i x h1 with z|z|z
  .exact absurd z b
  .exact absurd (Ms x z) h3
  .exact ⟨z,a⟩) (Fc X.w) (by intro v z;ext z) rfl rfl
 let st4:tn 0 (pushCells ((s.heap.push (Fc X.w)).push { cls:=.type "dict", data:=.dict #[] }) scope.names):=T.keep 0 _ _ st λb _ o e=>pushCells_keeps _ _ b o (AG _ (AG _ e));erw[newEnv];rw[sz1];let hDfp:⇑s∉fp:=λz=>BY _ (ob _ z);let hcD:∀ x c,(zP X zB scope cl s H fp).env.cells.lookup x=some c->c≠⇑s:=λx c e z=>by
  let⟨v,o,ho,hd⟩:=I4.cell x c e;let⟨q,_⟩:=I4.pin (⇑s,Fc X.w) (by simp);rw[z,q]at ho;ext ho;ext hd
 let fpk:∀ {H':Hp} {pl:Yd},(∀ b∈fp,H' b=none)->(∀ p∈pl,p.1=⇑s) -> ∀ b∈fp,Bd (zP X zB scope cl s H fp) pl H' b:=λ{H' pl} hn hp b hb=>
  ⟨hn b hb,(I4.ok.exf b hb).1,I4.ok.exfs b hb,.inl hb,(I4.ok.exf b hb).2,λp hq=>by
   rcases AO.mp hq with z|z
   .exact (hf b hb).2.2.2.2.2 p z
   .intro e;let e2:=hp p z;rw[e]at e2;calc hDfp (e2▸hb)⟩
 let loop:codeAny (model X.prog X.w) X.A (.compLoop (.SetComp elt [⟨tg,iter,ifs,0⟩] scope pos) 0 (.ref it) (.ref ⇑s) (zP X zB scope cl s H fp).env) (RR (.ref ⇑s) (⇑s+1))
   { s with heap:=pushCells ((s.heap.push (Fc X.w)).push { cls:=.type "dict", data:=.dict #[] }) scope.names }:=by
  refine lW (λn s'=>∃ i H' ys o es ep t,Inv (zP X zB scope cl s H fp) [(⇑s,o)] (clr own Y) H' s'/\SetK (intKind X.prog X.w) o es ep t ys/\tn i s'.heap/\(∀ b∈fp,H' b=none)/\W i n ys H') ?_ m0
   ⟨0,H,[],Fc X.w,_,_,_,I4,.fresh,st4,λb hb=>(hf b hb).1,w0⟩
  rintro n s5 ⟨i,H5,ys,o,es,ep,t,I5,r5,st5,f5,w5⟩;let pinD:∀ p∈[(⇑s,o)],p.1=⇑s:=λp hp=>by
   have:p=(⇑s,o):=by simpa using hp
   rw[this]
  rcases turn i n ys H5 w5 with ⟨stop,qq⟩|⟨go,step⟩
  .refine thn (T.done (zP X zB scope cl s H fp) rfl rfl rfl hcalm i _ s5 _ H5 _ I5 (fpk f5 pinD) st5 stop) λr s6 ⟨hr,I6⟩=>?_;subst hr;exact fin _ H5 s6 o es ep t ys I6 r5 qq
  .refine thn (T.item (zP X zB scope cl s H fp) rfl rfl rfl hcalm i _ s5 _ H5 _ I5 (fpk f5 pinD) st5 go) λr s6 ⟨u,hr,h6⟩=>?_;subst hr;refine thn h6 λ_ s7 ⟨x,H7,I7,r7,y7,st7,f7⟩=>?_;let I7':=I7.pinned (fpk f7 pinD) (T.obj _ _ st7);refine thn (hg _ s7 _ H7 x u _ I7' r7 (step x H7 y7)) λ_ s8 ⟨σ8,H8,I8,x8,q8⟩=>?_;refine thn (hi _ s8 σ8 H8 _ I8 q8) λok s9 ⟨H9,I9,q9⟩=>?_;let back:∀ {s':Yl} {Hx:Hp},Inv (zP X zB scope cl s H fp) ([(⇑s,o)]++Ew fp s7.heap) σ8 Hx s'->tn (i+1) s'.heap /\ ∀ b∈fp,Hx b=none:=λ{s' Hx} Ix=>
    ⟨T.keep _ _ _ st7 λb hb o e=>(Ix.pin (b,o) (Ax _ (Ax _ (EM hb e)))).1,λb hb=>by
     let⟨o,e,d⟩:=T.obj _ _ st7 b hb;calc (Ix.pin (b,o) (Ax _ (Ax _ (EM hb e)))).2.1⟩
   cases ok with
   |false=>
    let⟨m',hm,w'⟩:=q9;let⟨b1,b2⟩:=back I9;calc ⟨m',hm,i+1,H9,ys,o,es,ep,t,(I9.weak (by rw[x8.1]) x8.2).unpinned,r5,b1,b2,w'⟩
   |true=>
    refine thn (he _ s9 σ8 H9 _ I9 q9) λv s10 ⟨y,H10,I10,r10,k,hk,hlt,m',hm,w'⟩=>?_;subst hk;let⟨b1,b2⟩:=back I10;let J10:=(I10.weak (by rw[x8.1]) x8.2).unpinned;let⟨e10,n10,ne10,nf10,d10⟩:=J10.pin (⇑s,o) (by simp);obtain ⟨tk,hv⟩:∃ tk,v=.int k tk:=r10;subst hv;refine cR (intKind_is _ _ _ _) rfl e10 r5 hlt λh' o' es' ep' t' hs' e' S'=>?_;refine ⟨m',hm,i+1,H10,ins ys k,o',es',ep',t',?_,S',T.keep _ _ _ b1 λb hb o e=>hs'.extBut b o (λz=>hDfp (z▸hb)) e,b2,w'⟩;refine (Inv.repin (pl:=[]) J10 (λp hp=>?_) hs' (AF _) hcD e' (lN S')).tok _;rw[CU]at hp;let hp':p∈X.pn++zB:=hp;exact Ad (AH (I.pin p hp').1)
 calc iO loop (T.self _ 0 _ _ _ st4 loop)
def mE (I:Inv X zB Y H s) (hf:∀ b∈fp,Bd X zB H b)
  (Ic:Inv (zP X zB scope cl s H fp) [(⇑s,oD)] σc H' s') (hs:Heap.SameBut (⇑s+1) s'.heap h') :
  Inv X zB Y H' { s' with heap:=h' }/\h'.get? ⇑s=some oD:=by
 let⟨eD,nD,_⟩:=Ic.pin (⇑s,oD) (by simp);let nC:H' (⇑s+1)=none:=Ic.free;let eD':h'.get? ⇑s=some oD:=hs.extBut _ _ (Ad (Ek _)) eD;let lt1:∀ {b:Yt} {o:Obj},s.heap.get? b=some o->b≠⇑s+1:=λe=>Ad (ER (AH e));let tr:∀ b u,H' b=some u->b≠⇑s+1:=λb u e z=>by rw[z,nC]at e;ext e
 refine ⟨?_,eD'⟩;let B:=Ic.base;let un:Un (frs X.stack) fp H H' s.heap h':=by
  refine ⟨λb o e q hb hx=>hs.extBut b o (lt1 e) (B.keep b o e q hb hx),λb o e q hb hx=>?_,λb o e q hx=>B.free b o e q hx,λb o e hx=>?_,λb xs e=>B.tups b xs e,λb o xs e=>B.frzs b o xs e,λb ps e=>B.tbls b ps e⟩
  .obtain ⟨sl,e1⟩:=B.slot b o e q hb hx;exact ⟨sl,hs.extBut b _ (lt1 e) e1⟩
  .obtain ⟨o',e1⟩:=B.there b o e hx;exact ⟨o',hs.extBut b _ (lt1 e) e1⟩
 let hok:HOk X.prog X.w H' h':=λb u e=>by
  refine (Ic.hok b u e).stay (λc v hc q=>hs.extBut c v ?_ q) (λc q=>q) λc xs q=>q;rcases hc with z|z
  .rw[z];exact tr b u e
  .exact tr c _ z
 calc I.call' Ic.os un hok Ic.bare λb hb=>⟨(hf b hb).2.2.2.1,(hf b hb).2.1,(hf b hb).2.2.2.2.1,(hf b hb).2.2.2.2.2⟩
end
abbrev TZ:=St->Hp->(List Int->Hp->Prop)->Prop
def PZ (X:Cx) (e:Expr) (t:TZ):Prop:=∀ (zB:Yd) (s:Yl) (Y:St) (H:Hp) (Q:List Int->Hp->Prop),Inv X zB Y H s->t Y H Q ->
 wpAny (model X.prog X.w) X.A (eval e X.env) (λv s'=>∃ a o es ep tb ks H',v=.ref a/\s'.heap.get? a=some o/\SetK (intKind X.prog X.w) o es ep tb ks/\Inv X zB Y H' s'/\Q ks H') X.xe s
def PH (own:Yj) (wi:TI) (g:TG) (tc:TT) (te:TE):TZ:=λY H Q=>wi Y H λJ H1=>∃ W:Nat->Nat->List Int->Hp->Prop,(∃ m,W 0 m [] H1) /\ ∀ i m ys H,W i m ys H ->
 (J.stop i H/\Q ys H) \/
 (J.go i H /\ ∀ x H',J.yld i H x H'->g x (clr own Y) H' λσ2 H2=>Ext (clr own Y) σ2/\tc σ2 H2 λb H3=>
  if b=true then te σ2 H3 λv H4=>∃ k,v=.int k/\ys.length+1<scanBound /\ ∃ m',m'<m/\W (i+1) m' (ins ys k) H4 else ∃ m',m'<m/\W (i+1) m' ys H3)
def TB (C:CompIn X scope own) (hcalm:X.calm=true) (hi:PI X tg iter wi) (p:CompParts X scope tg ifs elt g tc te) (hs:∀ x,foldedSetIterable iter X.env x=pure x:=by intro _;rfl) :
  PZ X (.SetComp elt [⟨tg,iter,ifs,0⟩] scope pos) (PH own wi g tc te):=by
 intro zB s Y H Q I h;let⟨cl,hcl,c1,c2⟩:=C.sc.closure I;rw[arm_eval_SetComp];refine wpAny_comprehension_free rfl hs hcl C.sc.kind C.sc.names (thn (hi zB s Y H _ I h) λv s1 h1=>thn h1 λitv s2 h2=>?_);let⟨it,fp,tn,J,H2,e,I2,T,st2,f2,W,⟨m0,w0⟩,turn⟩:=h2;subst e;calc YM C hcalm I2 T st2 f2 c1 c2 (p.g _ _ _ _ _) (p.c _ _ _ _ _) (p.e _ _ _ _ _) w0 turn ?_;intro σc H' s' o es ep t ys Ic rv qq;let⟨m,hn,_⟩:=Ic.loc;refine ⟨m,hn,λh' hs'=>?_⟩;let⟨J',eD⟩:=mE I2 f2 Ic hs';calc ⟨_,o,es,ep,t,ys,H',rfl,eD,rv,J',qq⟩
end L2
namespace ST
open PySem.Sem (wp)
section
variable {prog:Ym} {w:Yo} {A:Yn} {E:Yc} {s:Yl}
variable {K:Type} [DecidableEq K] {knd:KeyKind prog w K}
def CH (ks:List K):List K:=ks.foldl ins []
def X9 (ks:List K) (k:K):CH (ks++[k])=ins (CH ks) k:=by erw[CH];rw[List.foldl_append];rfl
def eZ (ks:List K) (k:K):(ins ks k).length<=ks.length+1:=by erw[ins];split <;> simp
def OU (ks:List K):(CH ks).length<=ks.length:=by
 have:∀ (l acc:List K),(l.foldl ins acc).length<=acc.length+l.length:=by
  intro l;induction l with
  |nil=>intro acc;simp
  |cons x r ih=>intro acc;have:=ih (ins acc x);have:=eZ acc x;simp only[List.foldl_cons,B4];omega
 simpa [CH] using this ks []
def Vt (ks:List K) (k x:K):x∈ins ks k ↔ x∈ks\/x=k:=by
 erw[ins];split
 .rename_i h;constructor
  .exact .inl
  .rintro (z|z)
   .exact z
   .rw[z];exact h
 .simp
def UB (ks:List K) (x:K):x∈CH ks ↔ x∈ks:=by
  have:∀ (l acc:List K),x∈l.foldl ins acc ↔ x∈acc\/x∈l:=by
    intro l;induction l with
    |nil=>intro acc;simp
    |cons y r ih=>intro acc;rw[List.foldl_cons,ih,Vt,AJ];simp[or_assoc]
  simpa [CH] using this ks []
def k5 (h : ks.Nodup) (k : K) : (ins ks k).Nodup := by
  erw[ins];split
  .exact h
  · rename_i q
    rw[EG]
    exact ⟨h, by simp, fun a ha b hb z => by have : b = k := by simpa using hb
                                             subst this;subst z;calc q ha⟩
def mT (ks:List K):(CH ks).Nodup:=by
 have:∀ (l acc:List K),acc.Nodup->(l.foldl ins acc).Nodup:=by
  intro l;induction l with
  |nil=>intro acc h;calc h
  |cons y r ih=>intro acc h;exact ih _ (k5 h y)
 calc this ks [] (by simp)
variable {R:Yx} {I:Yt} {fp wr:Yg} {G:Array GenState->Array GenState->Prop} {n:Nat} {P:Nat->Value->Prop} {St:Nat->Shared->Prop}
end
def Bj (ks:Ye):List Int:=ks.mergeSort λa b=>decide (a<=b)
def Fo (ks:Ye):(Bj ks).Perm ks:=List.mergeSort_perm _ _
def JN (ks:Ye):(Bj ks).Pairwise (· <= ·):=by
 have:=List.pairwise_mergeSort (le:=λ(a b:Int)=>decide (a<=b)) (λa b c h1 h2=>by simp at h1 h2 ⊢;omega) (λa b=>by simp;omega) ks;calc this.imp λh=>by simpa using h
theorem OO:∀ {xs ys:Ye},xs.Perm ys->xs.Pairwise (· <= ·)->ys.Pairwise (· <= ·)->xs=ys
 |[],ys,p,_,_=>by have:=p.length_eq;simp at this;rw[F3.mp this.symm]
 |x::xs,[],p,_,_=>by have:=p.length_eq;simp at this
 |x::xs,y::ys,p,h1,h2=>by
  let hx:=CV.mp h1;let hy:=CV.mp h2;let e:x=y:=by
   let a:x∈y::ys:=p.mem_iff.mp AZ;let b:y∈x::xs:=p.mem_iff.mpr AZ;rcases AJ.mp a with z|z
   .exact z
   .rcases AJ.mp b with q|q
    .exact q.symm
    .exact Int.le_antisymm (hx.1 y q) (hy.1 x z)
  subst e;rw[OO (p.cons_inv) hx.2 hy.2]
def Ri (p:xs.Perm ys) (h:xs.Pairwise (· <= ·)):xs=Bj ys:=OO (p.trans (Fo ys).symm) h (JN ys)
def Pf
  (hc:wpAny (model prog w) A.in1 (collect v) (λvs s1=>∃ ns,IntsAre vs ns/\vs.length<64 /\ ∀ (h':Heap) (out:List Value) (n:Nat),(∀ b u,s1.heap.get? b=some u->h'.get? b=some u)->h'.get? ⇑s1=some (seqObj "list" out.toArray n)->IntsAre out (Bj ns)->Q (.ref ⇑s1) { s1 with heap:=h' }) E s) :
  wpAny (model prog w) A (call (.builtin "sorted") [v]) Q E s:=by
 calc Calls.call_function_entry kind_sorted plain_sorted entry_sorted (args_sorted1 _) ?_;unfold Builtin.«sorted»;calc AA (AB ?_);refine AA (AX hc (λvs s1 h1=>?_) λ_ _ h'=>h');let⟨ns,hI,h64,h⟩:=h1;calc AA (wpAny_newList ?_ (by rw[sizeLine_eq];omega));let hoL:(s1.heap.push (seqObj "list" vs.toArray 0)).get? ⇑s1=some (seqObj "list" vs.toArray 0):=AM _ rfl;refine AA (CD (BQ slot_list_sort ⟨_,hoL,rfl⟩ entry_list_sort (list_sort_tree hoL hI h64 λout ns' a1 a2 a3=>⟨_,rfl,?_⟩) (args_list_sort _)));calc AB ⟨_,rfl,?_⟩;let g1:=get?_update_seq hoL (λ_=> #[]);let g2:(((s1.heap.push (seqObj "list" vs.toArray 0)).update ⇑s1 (Obj.mapSeq λ_=> #[])).push (seqObj "tuple" vs.toArray 0)).get? ⇑s1=_:=AG _ g1;let g3:=AG (seqObj "list" #[] 0) g2;let g4:=get?_update_seq g3 (λ_=>out);let eS:=Ri a2 a3;subst eS;refine h _ out.toList _ (λb u e=>?_) (by rw[Array.toArray_toList];calc g4) a1;let hb:⇑s1≠b:=λz=>BY _ (z▸AH e);calc (EF _ _ hb).trans (AG _ (AG _ ((EF _ _ hb).trans (AG _ e))))
def iF (h:F2 (K6 (intKind prog w)) es ks):IntsAre (es.map (·.2)) ks:=by
 induction h with
 |nil=>calc .nil
 |cons h _ ih=>
  let⟨⟨h1,_⟩,_⟩:=h;let⟨t,e⟩:=Value.isInt_shape h1;rw[Af,e];calc .cons _ _ ih
def iU (p:us.Perm vs):∀ {ks:Ye},IntsAre vs ks -> ∃ ks',ks'.Perm ks/\IntsAre us ks':=by
 let p':=p.symm;clear p;induction p' with
 |nil=>intro ks h;calc ⟨ks,.refl _,h⟩
 |cons x _ ih=>
  intro ks h;cases h with
  |cons n t r=>
   let⟨ys',q1,q2⟩:=ih r;calc ⟨_,q1.cons _,.cons _ _ q2⟩
 |swap x y l=>
  intro ks h;cases h with
  |cons n t r=>
   cases r with
   |cons n2 t2 r=>calc ⟨_,List.Perm.swap _ _ _,.cons _ _ (.cons _ _ r)⟩
 |trans _ _ ih1 ih2=>
  intro ks h;let⟨ys',q1,q2⟩:=ih1 h;let⟨ys'',r1,r2⟩:=ih2 q2;calc ⟨ys'',r1.trans q1,r2⟩
def d8 (p:xs.Perm ys):Bj xs=Bj ys:=Ri ((Fo xs).trans p) (JN xs)
def dI (hh:A.handled=none) (ho:s.heap.get? a=some o) (hS:SetK (intKind prog w) o es ep t ks) (h64:ks.length<64)
  (h:∀ (s1:Shared) (h':Heap) (out:List Value) (n:Nat),(∀ b u,s.heap.get? b=some u->s1.heap.get? b=some u)->s1.os=s.os->s1.gens=s.gens->(∀ b u,s1.heap.get? b=some u->h'.get? b=some u)->h'.get? ⇑s1=some (seqObj "list" out.toArray n)->IntsAre out (Bj ks)->Q (.ref ⇑s1) { s1 with heap:=h' }) :
  wpAny (model prog w) A (call (.builtin "sorted") [.ref a]) Q E s:=by
 refine Pf (VN hh ho hS λs' acc k1 k2 k3 hp=>?_);let⟨ks',p,f⟩:=hS.ent;let⟨ks2,p2,f2⟩:=iU hp (iF f);refine ⟨ks2,f2,?_,λh' out n e1 e2 e3=>?_⟩
 .rw[hp.length_eq,AI,BM,hS.size];exact h64
 .rw[d8 (p2.trans p)]at e3;calc h s' h' out n k1 k2 k3 e1 e2 e3
def cT (hty:ty = "list" \/ ty = "tuple") (hl:∃ ol,s.heap.get? l=some ol/\ol.cls=.type ty /\ ∃ nl,ol.data=.seq vs.toArray nl)
  (h:Q vs { s with heap:=(s.heap.push (seqObj "list" #[] 0)).update ⇑s (Obj.mapSeq (· ++ vs.toArray)) }) (hsz:vs.length<=sizeLine) :
  wpAny (model prog w) A (collect (.ref l)) Q E s:=by
 let⟨o,ho,hc,n,hd⟩:=id hl;erw[collect];calc AA (wpAny_runValue (Ez entry_proto_collect' ?_));calc AA (wpAny_newList (AB ⟨Code.quiet_builtin _ (by decide+kernel),Ez entry_list_iadd' ?_⟩));show wpAny _ _ (Builtin.List.listExtendWith (.ref ⇑s) (.ref l) (.ref ⇑s)) _ _ { s with heap:=s.heap.push (seqObj "list" #[] 0) };erw[Builtin.List.listExtendWith];let ho':(s.heap.push (seqObj "list" #[] 0)).get? l=some o:=AG _ ho;calc AA (wpAny_typeOf ⟨o,ho',hc⟩ ?_);let ht:(Value.type ty==Value.type "list" || Value.type ty==Value.type "tuple")=true:=by rcases hty with rfl|rfl <;> decide
 rw[AD (by rw[Bool.or_assoc,ht];simp)];calc AA (listItems_at ho' hd ?_);calc AA (listItems_at (AM _ rfl) rfl ?_);rw[AE (by simp)];calc AA (listUpdate_at (AM _ rfl) rfl ?_ (Bv _) (by show (#[]++vs.toArray).size<=sizeLine+1;simp only[Array.size_append,AU,DV];omega));refine AB ?_
 show wpAny (model prog w) A (do
   let o <- load ⇑s;match o.data with
   |.seq xs _=>pure xs.toList
   |_=>unsupported "internal:collect") Q E { s with heap:=(s.heap.push (seqObj "list" #[] 0)).update ⇑s (Obj.mapSeq (· ++ vs.toArray)) }
 calc AA (wpAny_load (get?_update_seq (AM _ rfl) _) ?_);show wpAny _ _ (pure ((#[]:Array Value)++vs.toArray).toList) Q E _;rw[show ((#[]:Array Value)++vs.toArray).toList=vs by simp];calc AB h
def Zk (hty:ty = "list" \/ ty = "tuple") (hl:∃ ol,s.heap.get? l=some ol/\ol.cls=.type ty /\ ∃ nl,ol.data=.seq vs.toArray nl) (hI:IntsAre vs ns) (h64:vs.length<64)
  (h:∀ (h1 h':Heap) (out:List Value) (n:Nat),(∀ b u,s.heap.get? b=some u->h1.get? b=some u)->(∀ b u,h1.get? b=some u->h'.get? b=some u)->h'.get? h1.objs.size=some (seqObj "list" out.toArray n)->IntsAre out (Bj ns)->Q (.ref h1.objs.size) { s with heap:=h' }) :
  wpAny (model prog w) A (call (.builtin "sorted") [.ref l]) Q E s:=by
 refine Pf (cT hty hl ⟨ns,hI,h64,λh' out n e1 e2 e3=>h _ h' out n (λb u e=>?_) e1 e2 e3⟩ (by rw[sizeLine_eq];omega));let hb:⇑s≠b:=λz=>BY _ (z▸AH e);calc (EF _ _ hb).trans (AG _ e)
end ST
namespace L2
open ST
def Inv.kept' (I:Inv X zB Y H s) (k:∀ b u,s.heap.get? b=some u->s1.heap.get? b=some u) (ho:s1.os=s.os) (hg:s1.gens=s.gens):Inv X zB Y H s1 :=
 I.call' (ch:=[]) ho (Un.kept k) (I.hok.kept k) (by rw[hg];calc I.bare) λb hb=>nomatch hb
theorem Lc:∀ {ns:Ye} {us:Yf},IntsAre us ns->za (ns.map V.int) us
 |_,_,.nil=> .nil
 |_,_,.cons n t h=> .cons ⟨t,rfl⟩ (Lc h)
theorem OS:∀ {ns:Ye} {us:Yf},za (ns.map V.int) us->IntsAre us ns
 |[],_,.nil=> .nil
 |n::ns,_,.cons r h=>by let⟨t,rfl⟩:=r;calc .cons n t (OS h)
def OX (ks:Ye):(Bj ks).length=ks.length:=(Fo ks).length_eq
def dH (hc:X.calm=true) (hg:Gl X "sorted") (hm:X.mg "sorted" = none) (ha:PZ X e t) (hs:starEach [e] X.env=(false,eval e X.env)::starEach [] X.env:=by rfl) (hpl:(backTo pos (starEach [] X.env)).any (·.1)=false:=by rfl) :
  PE X (.Call (.Name "sorted" p) [e] [] pos) (λY H Q=>t Y H λks H1=>ks.length<64 /\ ∀ q,H1 q=none->Q (.ref q) (upd H1 q (.lst ((Bj ks).map V.int)))):=by
 intro zB s Y H Q I h;calc wpAny_Call_Name_kw (E5 I hg hm (by rfl) ?_ () ());calc callWith_builtin1 ?_ hs hpl;rw[hs];refine Calls.spliced_cons (thn (ha zB s Y H _ I h) λu s1 ⟨a,o,es,ep,tb,ks,H1,hv,ho,hS,I1,h64,q⟩=>Calls.spliced_nil ?_);subst hv;refine dI (I1.ok.hd hc) ho hS h64 λs2 h' out n k1 k2 k3 k4 e4 i4=>?_;let I2:Inv X zB Y H1 s2:=I1.kept' k1 k2 k3;let hf:H1 ⇑s2=none:=I2.hok.fresh (AF _);calc ⟨.ref ⇑s2,upd H1 ⇑s2 (.lst ((Bj ks).map V.int)),I2.laid k4 (AF _) ⟨by rw[AI,OX,sizeLine_eq];omega,out,n,Lc i4,e4⟩,rfl,q _ hf⟩
def Uh:CY X (.builtin "sorted") (λxs H Q=>∃ a ns,xs=[.ref a]/\(SqL X.K H a (ns.map V.int)\/SqT X.K H a (ns.map V.int))/\ns.length<64 /\ ∀ q,H q=none->Q (.ref q) (upd H q (.lst ((Bj ns).map V.int)))):=by
 intro zB s Y H xs us Q I r h;let⟨a,ns,rfl,hq,h64,q⟩:=h;obtain ⟨u,rfl,rfl⟩:∃ u,us=[u]/\u=.ref a:=by
  cases r with
  |cons r1 r2=>ext r2;exact ⟨_,rfl,r1⟩
 let key:∃ (ty:String) (its:List Value),(ty = "list" \/ ty = "tuple")/\(∃ ol,s.heap.get? a=some ol/\ol.cls=.type ty /\ ∃ nl,ol.data=.seq its.toArray nl)/\za (ns.map V.int) its:=by
  rcases hq with hq|hq
  .obtain ⟨its,rv,⟨ol,nl,e1,e2,_,e3⟩,_⟩:=I.list hq;exact ⟨"list", its,.inl rfl,⟨ol,e1,e2,nl,e3⟩,rv⟩
  .obtain ⟨its,rv,⟨ol,e1,e2,nl,e3⟩,_⟩:=I.tuple hq;exact ⟨"tuple", its,.inr rfl,⟨ol,e1,e2,nl,e3⟩,rv⟩
 let⟨ty,its,hty,hl,rv⟩:=key;refine Zk hty hl (OS rv) (by rw[<-rv.length,AI];calc h64) λh1 h' out n k1 k4 e4 i4=>?_;let I2:Inv X zB Y H { s with heap:=h1 }:=I.kept k1;let hf:H h1.objs.size=none:=I2.hok.fresh (AF _);calc ⟨.ref h1.objs.size,upd H h1.objs.size (.lst ((Bj ns).map V.int)),I2.laid k4 (AF _) ⟨by rw[AI,OX,sizeLine_eq];omega,out,n,Lc i4,e4⟩,rfl,q _ hf⟩
end L2
namespace L3
open L2 ST
abbrev FZ:=Sd->Mem->Option (List Int × Mem)
def trZ (K:Yb) (f:FZ):TZ:=λτ H Q=>∃ L Y M ks M',Cor K L M H/\Al L H Y τ/\f Y M=some (ks,M') /\ ∀ L' H',Stp L H L' H'->Cor K L' M' H'->Q ks H'
structure QZ (X:Cx) (e:Expr) (f:FZ):Prop where
 un:PZ X e (trZ X.K f)
def PZ.imp (h:PZ X e t) (hi:∀ τ H Q,t' τ H Q->t τ H Q):PZ X e t':=λzB s Y H Q I q=>h zB s Y H Q I (hi _ _ _ q)
def Gd (own:Yj) (fi:FI) (g:FG) (tc:FT) (te:FE):FZ:=λY M=>match Ae own fi g tc te Y M with
 |some (.fl ys,M2)=>match BS ys with
  |some ks=>if ks.length+1<scanBound then some (CH ks,M2) else none
  |none=>none
 |_=>none
theorem Oq:∀ {as bs:List D} {zs:Ye},BS (as++bs)=some zs -> ∃ xs ys,BS as=some xs/\BS bs=some ys/\zs=xs++ys
 |[],bs,zs,h=>⟨[],zs,rfl,h,rfl⟩
 |a::as,bs,zs,h=>by
  cases a with
  |int i=>
   rw[List.cons_append]at h;erw[BS]at h;cbv at h
   .rename_i us e;ext h;let⟨xs,ys,e1,e2,e3⟩:=Oq e;calc ⟨i::xs,ys,?_,e2,by rw[e3];rfl⟩;erw[BS];rw[e1]
   .cases h
  |_=>ext h
def VP (h:BS as=some xs):BS (as++[.int i])=some (xs++[i]):=by
 induction as generalizing xs with
 |nil=>ext h;rfl
 |cons a as ih=>
  cases a with
  |int j=>
   erw[BS]at h;cbv at h
   .rename_i us e;ext h;rw[List.cons_append];erw[BS];rw[ih e];rfl
   .cases h
  |_=>ext h
def fA {K:Yb} {own:Yj} {fi:FI} {g:TG} {fg:FG} {tc:FT} {te:FE} (hg:Dp own g fg) {τ:Sv} {H:Hp} {Q:List Int->Hp->Prop} (h:trZ K (Gd own fi fg tc te) τ H Q):PH own (trI K fi) g (trT K tc) (trD K (toD te)) τ H Q:=by
 let⟨L,Y,M,d,Mf,c,rs,hf,q⟩:=h;erw[Gd,Ae]at hf;cases e1:fi Y M with
 |none=>rw[e1]at hf;ext hf
 |some r=>
  let⟨xs,gd,M1⟩:=r;rw[e1]at hf;dsimp only at hf;by_cases hz:xs.length<=sizeLine
  .rw[AD hz]at hf;cases e2:BX fg tc te (Bi own Y) xs gd xs M1 with
   |none=>rw[e2]at hf;ext hf
   |some r=>
    let⟨zs,M2⟩:=r;rw[e2]at hf;dsimp only at hf;cbv at hf
    .rename_i kz ez;cbv at hf
     .rename_i hb;ext hf;refine (mkI c rs e1 (λL1 H1 J s1 c1 it=>?_))
      refine ⟨λi m ys H'=>m=xs.length-i/\i<=xs.length /\ ∃ L' M' as bs ka,Stp L1 H1 L' H'/\Cor K L' M' H'/\BS as=some ka/\ys=CH ka/\BX fg tc te (Bi own Y) xs gd (xs.drop i) M'=some (bs,Mf)/\as++bs=zs,
       ⟨xs.length,by simp,Bv _,L1,M1,[],zs,[],.refl _ _,c1,rfl,rfl,by simpa using e2,rfl⟩,?_⟩
      intro i m ys H' hI;refine qz λG=>?_;let⟨eI1,hi,L',M',as,bs,ka,s',c',r',hl,e',hab⟩:=hI;calc G ?_;clear G;subst eI1;by_cases hlt:i<xs.length
      .rw[Hf hlt]at e';erw[BX]at e';cbv at e'
       .rename_i hgd;let⟨step,_⟩:=it L' H' M' s' c' hgd;let⟨go,yl⟩:=step i xs[i] (AL hlt);cbv at e'
        .rename_i σ1 eg;refine .inr ⟨go,λv H2 hy=>?_⟩;let⟨gr,rv⟩:=yl v H2 hy;let s2:Stp L1 H1 L' H2:=s'.yld gr;refine hg (Il own ((rs.stp s1).stp s2)) (.refl _) rv eg λτ2 r2 x2=>⟨x2,?_⟩;cbv at e'
         .rename_i M3 e3;cbv at e'
          .rename_i d M4 e4;cbv at e'
           .rename_i ds M5 e5;ext e';refine (mkT (c'.grow gr) r2 e3 (λL3 H3 s3 c3=>Dv ?_));refine (mkD c3 (r2.stp s3) e4 (λL4 H4 w s4 c4 r4=>?_));let st:Stp L' H' L4 H4:=((Stp.grow gr).trans s3).trans s4;let ez':=ez;rw[<-hab]at ez';let⟨x1,y1,g1,g2,g3⟩:=Oq ez';obtain ⟨k,hk⟩:∃ k,d=.int k:=by
             cases d with
             |int k=>calc ⟨k,rfl⟩
             |_=>ext g2
            subst hk;let ew:w=.int k:=by erw[Rep]at r4;exact r4
            let hka:ka.length<=kz.length:=by
             rw[r']at g1;ext g1;rw[g3,AW];omega
            calc ⟨k,ew,?_,xs.length-(i+1),(),rfl,hlt,L4,M4,as++[.int k],ds,ka++[k],s'.trans st,c4,VP r',by rw[hl,X9],e5,by rw[<-hab];simp⟩;rw[hl];have:=OU ka;omega
           .cases e'
          .cases e'
         .rename_i M3 e3;refine (mkT (c'.grow gr) r2 e3 (λL3 H3 s3 c3=>Dc ?_));let st:Stp L' H' L3 H3:=(Stp.grow gr).trans s3;exact ⟨xs.length-(i+1),(),rfl,hlt,L3,M3,as,bs,ka,s'.trans st,c3,r',hl,e',hab⟩
         .cases e'
        .cases e'
       .cases e'
      .have hi':i=xs.length:=()
       subst hi';rw[List.drop_length]at e';erw[BX]at e';cbv at e'
       .rename_i hgd;ext e';let⟨_,stop⟩:=it L' H' _ s' c' hgd;rw[CU]at hab;subst hab;rw[r']at ez;ext ez;calc .inl ⟨stop,?_⟩;rw[hl];exact q L' H' (s1.trans s') c'
       .cases e'
     .cases hf
    .cases hf
  .rw[AE hz]at hf;ext hf
section
variable {X:Cx} {scope:Y0} {tg elt iter:Expr} {ifs:Yi} {pos p:Pos} {own:Yj} {e:Expr} {f:FE}
def W3 (hg:Dp own g fg) (C:CompIn X scope own) (hcalm:X.calm=true) (hi:QI X tg iter fi) (p:QParts X scope tg ifs elt g tc te) (hs:∀ x,foldedSetIterable iter X.env x=pure x:=by intro _;rfl) :
  QZ X (.SetComp elt [⟨tg,iter,ifs,0⟩] scope pos) (Gd own fi fg tc te) :=
 .mk <| PZ.imp (TB C hcalm hi.un p.parts hs) λ_ _ _ h=>fA hg h
def IG (f:FZ):FE:=λY M=>match f Y M with
 |some (ks,M1)=>if ks.length<64 then some (.fl ((Bj ks).map D.int),M1) else none
 |none=>none
theorem NC:∀ (ns:Ye),zI L H (ns.map D.int) (ns.map V.int)
 |[]=> .nil
 |n::ns=> .cons Cj (NC ns)
def jG (hc:X.calm=true) (hg:Gl X "sorted") (hm:X.mg "sorted" = none) (h:QZ X e fz) (hs:starEach [e] X.env=(false,eval e X.env)::starEach [] X.env:=by rfl) (hpl:(backTo pos (starEach [] X.env)).any (·.1)=false:=by rfl) :
  QE X (.Call (.Name "sorted" p) [e] [] pos) (IG fz):=.mk <| PE.imp (dH hc hg hm h.un hs hpl) λτ H Q zz=>by
 let⟨L,Y,M,d,M',c,rs,hf,q⟩:=zz;erw[IG]at hf;cbv at hf
 .rename_i ks M1 e1;cbv at hf
  .rename_i hb;ext hf;refine ⟨L,Y,M,_,_,c,rs,e1,λL1 H1 s1 c1=>⟨hb,λp hp=>?_⟩⟩;exact q L1 _ _ (s1.trans (.upd hp)) (c1.upd hp) (zX.newLst s1 c c1 hp (NC _))
  .cases hf
 .cases hf
def HN:KB:=λxs M=>match xs with
 |[x]=>match BA M x with
  |some ds=>match BS ds with
   |some ks=>if ks.length<64 then some (.fl ((Bj ks).map D.int),M) else none
   |none=>none
  |none=>none
 |_=>none
def zX.newLst' {L:Yg} {H:Hp} {K:Yb} {M:List MO} {p:Yt} {ds:List D} {vs:List V} (c:Cor K L M H) (hp:H p=none) (r:zI L H ds vs):zX H L (upd H p (.lst vs)) (.fl ds) (.ref p):=zX.newLst (.refl L H) c c hp r
def XQ:ED X.K (λxs H Q=>∃ a ns,xs=[.ref a]/\(SqL X.K H a (ns.map V.int)\/SqT X.K H a (ns.map V.int))/\ns.length<64 /\ ∀ q,H q=none->Q (.ref q) (upd H q (.lst ((Bj ns).map V.int)))) HN:=by
 intro L M M' H H0 xs d vs Q c r hk q;erw[HN]at hk;cbv at hk
 .rename_i x;cbv at hk
  .rename_i ys e1;cbv at hk
   .rename_i ks e2;cbv at hk
    .rename_i hb;ext hk;let⟨v,rfl,r1⟩:=r.one;let⟨a,ws,rfl,hs,r2⟩:=HF c r1 e1;have:=LP e2 r2;subst this;exact ⟨a,ks,rfl,hs,hb,λp hp=>q L _ _ (.upd hp) (c.upd hp) (zX.newLst' c hp (NC _))⟩
    .cases hk
   .cases hk
  .cases hk
 .cases hk
def Vw (hg:Gl X "sorted") (hm:X.mg "sorted" = none) (ha:QAE X [e] fa) (he:starEach [e] X.env=(false,eval e X.env)::starEach [] X.env:=by rfl) (hpl:(backTo pos (starEach [] X.env)).any (·.1)=false:=by rfl):QE X (.Call (.Name "sorted" p) [e] [] pos) (fB HN fa) :=
 Hc XQ Uh (by rfl) hg hm ha () () he hpl
end
open AutoSeq1 (wpAny_loadPart')
def YC (hh:A.handled=none) (it l:Yt) (hne:l≠it) (items:Yp) :
  Draws prog w A it [it,l] items.size (λi v=>items[i]?=some v) (λi h=>h.IsTupleIter it l i/\h.IsTuple l items) where
 live:=λ_ _ st=>let ⟨o,ho,_⟩:=st.1;⟨o,ho⟩;frame:=λ_ _ _ st hk=>⟨let ⟨o,ho,r⟩:=st.1;⟨o,hk it (by simp) o ho,r⟩,let ⟨o,ho,r⟩:=st.2;⟨o,hk l (by simp) o ho,r⟩⟩;item:=λi s Q E hi st hQ=>by
  refine JT st.1 st.2 (x:=items[i]) (by simp[hi]) λh' hit' hs'=>?_;exact hQ _ h' s.toks (by simp[hi]) ⟨hit',Tup.but st.2 hs'.extBut hne⟩ hs'
 done:=λs Q E st hE=>JO hh st.1 st.2 (by simp) hE
def Uv (l:Yt) (items:Yp) (n:Nat) (dct:Option Addr) (sl:Array (Option Value)) :
  Meets (Builtin.«enumerate.__new__» ⟨[.type "enumerate", .ref l],[]⟩) (λ_ R s=>s.heap.get? l=some { cls:=.type "tuple", dict:=dct,data:=.seq items n,slots:=sl } /\
   R (.ok (.ret (.ref (s.heap.push { cls:=.type "tuple_iterator", data:=.fields #[.ref l,.int 0 0] }).objs.size)))
    { s with heap:=(s.heap.push { cls:=.type "tuple_iterator", data:=.fields #[.ref l,.int 0 0] }).push { cls:=.type "enumerate", data:=.fields #[.none,.bool false,.ref ⇑s,rawInt 0,.none,.none] } }) :=
 .of_wp λprog w A R s h=>by
  let⟨hp,g,d,tk,os⟩:=s;let⟨hl,h⟩:=h;let hsub:=sub_enumerate;let hL:Heap.IsTuple (Shared.heap ⟨hp,g,d,tk,os⟩) l items:=⟨_,hl,rfl,n,rfl⟩;wp_walk using wpAny_loadPart' hl;refine wpAny_stack_any λst=>AB ?_;split
  .rename_i c _ _ _ _ _;cases (c==Value.type "enumerate")
   .wp_walk using wpAny_loadPart' hl,wpAny_pyIter_tuple hL;exact ⟨_,rfl,h⟩
   .wp_walk using wpAny_loadPart' hl,wpAny_pyIter_tuple hL;exact ⟨_,rfl,h⟩
  .wp_walk using wpAny_loadPart' hl,wpAny_pyIter_tuple hL;calc ⟨_,rfl,h⟩
def aJ (hL:s.heap.IsTuple l items)
  (h:∀ h',IsEnum h' (⇑s+1) ⇑s 0 .none->h'.IsTupleIter ⇑s l 0->(∀ c o,s.heap.get? c=some o->h'.get? c=some o)->Q (.ref (⇑s+1)) { s with heap:=h' }) :
  wpAny (model prog w) A (call (.type "enumerate") [.ref l]) Q E s:=by
 let⟨o,ho,hc,n,hd⟩:=hL;let⟨ocls,odict,odata,oslots⟩:=o;simp only at hc hd;subst hc;subst hd;refine callType_new PySem.F.called_enumerate () (PySem.F.typeCall_enumerate_1 _) (PySem.F.newCall_enumerate_1 _) (λobj=>PySem.F.args_object_init_2 obj _) PySem.F.entry_enumerate_new (Uv l items n odict oslots) ⟨ho,?_⟩;let q1:(s.heap.push { cls:=.type "tuple_iterator", data:=.fields #[.ref l,.int 0 0] }).objs.size=⇑s+1:=CF ..;let p2:((s.heap.push { cls:=.type "tuple_iterator", data:=.fields #[.ref l,.int 0 0] }).push { cls:=.type "enumerate", data:=.fields #[.none,.bool false,.ref ⇑s,rawInt 0,.none,.none] }).get? (s.heap.push { cls:=.type "tuple_iterator", data:=.fields #[.ref l,.int 0 0] }).objs.size=some _:=AM _ rfl;rw[q1]at p2;rw[q1];calc ⟨⟨_,p2,rfl⟩,h _ p2 ⟨_,AG _ (AM _ rfl),rfl,rfl⟩ λc o x=>AG _ (AG _ x)⟩
def RB (he:IsEnum s.heap e it i old)
  (hn:∀ (Q':Value->Shared->Prop) (E':Value->Shared->Prop),(∀ h' x,Heap.ExtBut it s.heap h'->(∃ o,h'.get? x=some o/\o.cls=.type "StopIteration")->E' (.ref x) { s with heap:=h' })->wpAny (model prog w) A.in1 (Builtin.SmallTypes.nextOf (.ref it)) Q' E' s)
  (hQ:∀ h',Heap.ExtBut it s.heap h'->Q none { s with heap:=h' }):wpAny (model prog w) A (pyNext (.ref e)) Q E s:=by
 let hT:s.TypeIs (.ref e) "enumerate" := ⟨_,he,rfl⟩;erw[pyNext]
 refine AA (DM (CG hT PySem.F.slot_enumerate_next
  (BQ PySem.F.slot_enumerate_next hT PySem.F.entry_enumerate_next ?_ (PySem.F.args_enumerate_next_1 _))))
 show wpAny _ _ (field (.ref e) 2 >>= _) _ _ _;calc AA (Bg he rfl rfl ?_);refine AA (hn _ _ λh' x he' hx'=>?_);let⟨o,ho,hc⟩:=hx';calc AA (wpAny_isInstance ⟨o,ho,hc⟩ isSubtype_stop ?_);calc AB (hQ _ he')
def FQ (K:Yb) (isT:Bool) (a:Yt):It :=
 ⟨λi H=>∃ xs x,(if isT then SqT K H a xs else SqL K H a xs)/\xs[i]?=some x,
  λi H v H'=>∃ T x,v=.ref T/\H T=none/\H'=upd H T (.tup [.int i,x]) /\ ∀ xs,(if isT then SqT K H a xs else SqL K H a xs)->xs[i]?=some x,
  λi H=>∃ xs,(if isT then SqT K H a xs else SqL K H a xs)/\xs.length<=i⟩
def Jl (isT:Bool) (it a:Yt) (i:Nat) (h:Heap):Prop:=if isT then h.IsTupleIter it a i else h.IsListIter it a i
def d9 {P:Ym} {w:Yo} {K:Yb} {es:Yi} {ek:Nat} {ep:Pos} {isT:Bool} {e it a:Yt} (hei:e≠it) (hae:a≠e) (hai:a≠it) :
  Turn P w K (.Tuple es ek ep) (FQ K isT a) [e,it] e (λi h=>(∃ old,IsEnum h e it i old)/\Jl isT it a i h) where
 mem:=by simp
 obj:=λi h ⟨⟨old,he⟩,st⟩ c hc=>by
  simp only[AJ,CN,or_false]at hc;rcases hc with rfl|rfl
  .exact ⟨_,he,λv m=>by ext m⟩
  .cases isT with
   |true=>let⟨o1,e1,_,d1⟩:=(show h.IsTupleIter c a i from st);exact ⟨_,e1,λv m=>by rw[d1]at m;ext m⟩
   |false=>let⟨o1,e1,_,d1⟩:=(show h.IsListIter c a i from st);exact ⟨_,e1,λv m=>by rw[d1]at m;ext m⟩
 keep:=λi h h' ⟨⟨old,he⟩,st⟩ k=>by
  calc ⟨⟨old,k e (by simp) _ he⟩,?_⟩;cases isT with
  |true=>let⟨o1,e1,r⟩:=(show h.IsTupleIter it a i from st);calc ⟨o1,k it (by simp) _ e1,r⟩
  |false=>let⟨o1,e1,r⟩:=(show h.IsListIter it a i from st);exact ⟨o1,k it (by simp) _ e1,r⟩
 item:=by
  intro X hP hw hK hc i zB s Y H E I hf Z hg;subst hP hw hK;let⟨⟨old,he⟩,st⟩:=Z;let⟨xs,x,sa,hx⟩:=hg;let hch:∀ c∈[e,it],Bd X zB H c:=hf;let elt:e<⇑s:=AH he
  let fin:∀ (its:List Value) (u:Value) (h':Heap) (tk:Nat),za xs its->its[i]?=some u->IsEnumOut h' e it ((i:Int)+1) u ⇑s->Jl isT it a (i+1) h'->h'.get? ⇑s=some { cls:=.type "tuple", data:=.seq #[.int i tk,u] } ->
    (∀ b o,b≠e->b≠it->s.heap.get? b=some o->h'.get? b=some o)->it<⇑s ->
    ∃ u',some (Value.ref ⇑s)=some u'/\wpAny (model X.prog X.w) X.A (letOwnedTupleGo (.Tuple es ek ep) (.ref e) u') (λ_ s2=>∃ x H',Inv X zB Y H' s2/\zk x u'/\(FQ X.K isT a).yld i H x H'/\((∃ old,IsEnum s2.heap e it ((i+1:Nat):Int) old)/\Jl isT it a (i+1) s2.heap) /\ ∀ b∈[e,it],H' b=none) E { s with heap:=h',toks:=tk+1 }:=by
   intro its u h' tk rv hu ho st' hT hk ilt;refine ⟨_,rfl,wpAny_letOwnedTupleGo_enum ho λh2 he2 e2=>?_⟩;let kk:∀ c o,c∉[e,it]->s.heap.get? c=some o->h2.get? c=some o:=λc o n q=>by
    simp only[AJ,CN,or_false,not_or]at n;exact e2.extBut _ _ n.1 (hk c o n.1 n.2 q)
   let NT:=e2.extBut _ _ (Cz elt) hT;let hfr:H ⇑s=none:=I.hok.fresh (AF _);let⟨u2,hu2,ru⟩:=rv.get hx;rw[hu]at hu2;ext hu2;refine ⟨.ref ⇑s,upd H ⇑s (.tup [.int i,x]),ME (s:=s) I hch kk (AF _) ?_,rfl,⟨_,x,rfl,hfr,rfl,λws hw=>?_⟩,⟨⟨u,by simpa using he2⟩,?_⟩,λc hm=>?_⟩
   .exact ⟨by show 2<=sizeLine;decide,[.int i tk,u],.cons ⟨tk,rfl⟩ (.cons ru .nil),⟨_,NT,rfl,⟨_,rfl⟩,rfl⟩⟩
   .cases isT with
    |true=>rw[I.tuple_inj hw sa];calc hx
    |false=>rw[I.list_inj hw sa];exact hx
   .cases isT with
    |true=>let⟨o1,e1,r⟩:=(show h'.IsTupleIter it a (i+1)from st');calc ⟨o1,e2.extBut _ _ hei.symm e1,r⟩
    |false=>let⟨o1,e1,r⟩:=(show h'.IsListIter it a (i+1)from st');exact ⟨o1,e2.extBut _ _ hei.symm e1,r⟩
   .have lt:c<⇑s:=by
     simp only[AJ,CN,or_false]at hm;rcases hm with rfl|rfl
     .exact elt
     .exact ilt
    rw[zU (Ad lt)];exact (hf c hm).1
  let hef:e∉[it,a]:=by simp only[AJ,CN,or_false,not_or];exact ⟨hei,hae.symm⟩
  cases isT with
  |true=>
   let⟨its,rv,p1,z1⟩:=I.tuple sa;let st':s.heap.IsTupleIter it a i:=st;let⟨o1,e1,_⟩:=id st';refine wpAny_pyNext_enum_itemD (YC (prog:=X.prog) (w:=X.w) (A:=X.A.in1) (I.ok.hd hc) it a hai its.toArray) he ⟨st',show s.heap.IsTuple a its.toArray from p1⟩ (by have:=rv.length;have:=(AK.mp hx).1;rw[AU];omega) hei hef λu h' tk hu ho hs hT _ hk=>?_;calc fin its u h' tk rv (~~~hu) ho hs.1 hT hk (AH e1)
  |false=>
   let⟨its,rv,p1,z1⟩:=I.list sa;let st':s.heap.IsListIter it a i:=st;let⟨o1,e1,_⟩:=id st';refine wpAny_pyNext_enum_itemD (Draws.list (prog:=X.prog) (w:=X.w) (A:=X.A.in1) (I.ok.hd hc) it a hai its.toArray) he ⟨st',p1.isList⟩ (by have:=rv.length;have:=(AK.mp hx).1;rw[AU];omega) hei hef λu h' tk hu ho hs hT _ hk=>?_;exact fin its u h' tk rv (~~~hu) ho hs.1 hT hk (AH e1)
 done:=by
  intro X hP hw hK hc i zB s Y H E I hf Z hg;subst hP hw hK;let⟨⟨old,he⟩,st⟩:=Z;let⟨xs,sa,hz⟩:=hg;let out:∀ h',Heap.ExtBut it s.heap h'->(none:Option Value)=none/\Inv X zB Y H { s with heap:=h' }:=λh' x=>⟨rfl,Iy I hf λc o n q=>x c o (λm=>n (by simp[m])) q⟩;cases isT with
  |true=>
   let⟨its,rv,p1,z1⟩:=I.tuple sa;refine RB he (λQ' E' hq=>JO (I.ok.hd hc) (show s.heap.IsTupleIter it a i from st) (show s.heap.IsTuple a its.toArray from p1) (by have:=rv.length;simp;omega) hq) out
  |false=>
   let⟨its,rv,p1,z1⟩:=I.list sa;refine RB he (λQ' E' hq=>wpAny_nextOf_list_end (I.ok.hd hc) (show s.heap.IsListIter it a i from st) p1.isList (by have:=rv.length;simp;omega) hq) out
 self:=λ_ _ _ _ _ Z h=>let ⟨⟨_,he⟩,_⟩:=Z;wpAny_pyIter_enum he h
def VS {te:TE} (hg:Gl X "enumerate") (hm:X.mg "enumerate" = none) (ha:PE X a te) (hs:starEach [a] X.env=(false,eval a X.env)::starEach [] X.env:=by rfl) (hpl:(backTo pos (starEach [] X.env)).any (·.1)=false:=by rfl) :
  PI X (.Tuple es ek ep) (.Call (.Name "enumerate" p) [a] [] pos) (λY H R=>te Y H λx H1=>∃ l,x=.ref l/\((∃ xs,SqT X.K H1 l xs)/\R (FQ X.K true l) H1\/(∃ xs,SqL X.K H1 l xs)/\R (FQ X.K false l) H1)):=by
 intro zB s Y H R I h;calc wpAny_Call_Name_kw (E5 I hg hm (by rfl) ?_ () ());calc callWith_type1 ?_ hs hpl;rw[hs];refine Calls.spliced_cons (thn (ha zB s Y H _ I h) λu s1 ⟨x,H1,I1,r1,l,hx,q⟩=>Calls.spliced_nil ?_);subst hx;ext r1
 let out:∀ (isT:Bool) (h':Heap),l<⇑s1->IsEnum h' (⇑s1+1) ⇑s1 0 .none->Jl isT ⇑s1 l 0 h'->(∀ c o,s1.heap.get? c=some o->h'.get? c=some o)->R (FQ X.K isT l) H1 ->
   wpAny (model X.prog X.w) X.A (pyIter (.ref (⇑s1+1))) (PIE X zB Y (.Tuple es ek ep) R) X.xe { s1 with heap:=h' }:=by
  intro isT h' hl he st kp q;refine wpAny_pyIter_enum he ?_;refine ⟨⇑s1+1,[⇑s1+1,⇑s1],_,_,H1,rfl,I1.kept kp,d9 (Cz (Ek _)) (Ad (ER hl)) (Ad hl),⟨⟨_,he⟩,st⟩,λc hc=>?_,q⟩;let ge:⇑s1<=c:=by
   simp only[AJ,CN,or_false]at hc;rcases hc with rfl|rfl
   .exact Nat.le_succ _
   .exact AF _
  exact I1.fpOk ge (I1.hok.fresh ge)
 rcases q with ⟨⟨xs,hq⟩,q⟩|⟨⟨xs,hq⟩,q⟩
 .obtain ⟨its,rv,p1,_⟩:=I1.tuple hq;let hl:l<⇑s1:=by let⟨_,e,_⟩:=p1;exact AH e
  exact aJ (show s1.heap.IsTuple l its.toArray from p1) λh' he st kp=>out true h' hl he st kp q
 .obtain ⟨its,rv,p1,_⟩:=I1.list hq;let hl:l<⇑s1:=by let⟨_,_,e,_⟩:=p1;exact AH e
  calc call_enumerate_list p1.isList λh' he st _ kp=>out false h' hl he st kp q
def Dm (xs:List D):List D:=((List.range xs.length).zip xs).map λq=>D.tup [.int (q.1:Nat),q.2]
def ZE {xs:List D} {i:Nat} {d:D} (h:(Dm xs)[i]?=some d):∃ x,xs[i]?=some x/\d=.tup [.int (i:Nat),x]:=by
 erw[Dm]at h;rw[Ac]at h;cases e:((List.range xs.length).zip xs)[i]? with
 |none=>rw[e]at h;ext h
 |some pr=>
  rw[e]at h;ext h;let⟨f1,f2⟩:=List.getElem?_zip_eq_some.mp e;let hi:i<xs.length:=(AK.mp f2).1;rw[List.getElem?_range hi]at f1;ext f1;calc ⟨pr.2,f2,rfl⟩
def dF (xs:List D):(Dm xs).length=xs.length:=by erw[Dm];simp
def FX (f:FE):FI:=λY M=>match f Y M with
 |some (x,M1)=>match BA M1 x with
  |some xs=>some (Dm xs,IS x xs,M1)
  |none=>none
 |none=>none
def YI {g:FE} (hg:Gl X "enumerate") (hm:X.mg "enumerate" = none) (h:QE X a g) (hs:starEach [a] X.env=(false,eval a X.env)::starEach [] X.env:=by rfl) (hpl:(backTo pos (starEach [] X.env)).any (·.1)=false:=by rfl) :
  QI X (.Tuple es ek ep) (.Call (.Name "enumerate" p) [a] [] pos) (FX g):=.mk <| PI.imp (VS hg hm h.un hs hpl) λτ H R zz=>by
 let⟨L,Y,M,xs,gd,M',c,rs,hf,q⟩:=zz;erw[FX]at hf;cbv at hf
 .rename_i y M1 e1;cbv at hf
  .rename_i zs e2;ext hf;refine ⟨L,Y,M,_,_,c,rs,e1,λL1 H1 v s1 c1 r1=>?_⟩
   let step:∀ (isT:Bool) (l:Yt) (L2:Yg) (H2:Hp) (vs:List V),(if isT then SqT X.K H2 l vs else SqL X.K H2 l vs)->zI L2 H2 zs vs ->
     (∀ (i:Nat) d,(Dm zs)[i]?=some d->(FQ X.K isT l).go i H2 /\ ∀ v H'',(FQ X.K isT l).yld i H2 v H''->(∀ a o,H2 a=some o->H'' a=some o)/\Rep L2 H'' d v)/\(FQ X.K isT l).stop (Dm zs).length H2:=by
    intro isT l L2 H2 vs hq r;refine ⟨λi d hd=>?_,⟨vs,hq,by rw[dF,r.length];calc AF _⟩⟩;let⟨x,hx,rfl⟩:=ZE hd;let⟨u,hu,ru⟩:=r.get hx;refine ⟨⟨vs,u,hq,hu⟩,λv H3 hy=>?_⟩;let⟨T,x',rfl,hT,rfl,hxx⟩:=hy;let ex:=hxx vs hq;rw[hu]at ex;ext ex;exact ⟨λa o e=>by rw[zU (zm e hT)];calc e,Rep.newTup hT (.cons Cj (.cons ru .nil))⟩
   erw[BA]at e2;cases t:CP y with
   |some ws=>
    rw[t]at e2;ext e2;let⟨a,vs,rfl,e3,r3⟩:=EC r1 t;refine ⟨a,rfl,.inl ⟨⟨vs,.of e3⟩,q L1 H1 _ s1 c1 λL2 H2 M2 s2 c2 _=>?_⟩⟩;calc step true a L2 H2 vs (.of (s2.tup a vs e3)) (r3.stp s2)
   |none=>
    rw[t]at e2;let⟨a,vs,rfl,e3,r3⟩:=Dj c1 r1 e2;refine ⟨a,rfl,.inr ⟨⟨vs,.inl e3⟩,q L1 H1 _ s1 c1 λL2 H2 M2 s2 c2 hgd=>?_⟩⟩;let key:∃ vs',SqL X.K H2 a vs'/\zI L2 H2 zs vs':=by
     cases y with
     |fl ys=>
      ext e2;let⟨p',vs',hp',_,e5,e6,r6⟩:=r1;ext hp';calc ⟨vs',.of (s2.old _ _ e5 e6 (by intro _ z;ext z)),r6.stp s2⟩
     |dat d=>
      cases d with
      |ref n=>
       erw[zX,Rep]at r1;let⟨a',ha',e5⟩:=r1;ext ha';let e6:L2[n]?=some a:=by let⟨N,hN⟩:=s2.pre;rw[hN];exact Gm e5
       rcases hgd with z|z
       .obtain ⟨vs',e7,r7⟩:=c2.obj n a _ e6 z;exact ⟨vs',.of e7,r7⟩
       .obtain ⟨o,vs',e7,r7⟩:=c2.obj n a _ e6 z;calc ⟨vs',.inl (.inr ⟨o,e7⟩),r7⟩
      |_=>ext e2
    let⟨vs',hq,r7⟩:=key;exact step false a L2 H2 vs' hq r7
  .cases hf
 .cases hf
section
variable {κ:Type} [DecidableEq κ]
def DG (kf:D->Option κ) (kvs:List (D × D)) (k:κ):Option D:=(kvs.find? λp=>decide (kf p.1=some k)).map (·.2)
def Fd (kf:D->Option κ) (kvs:List (D × D)) (k:κ) (kd v:D):List (D × D) :=
 if (kvs.any λp=>decide (kf p.1=some k))=true then kvs.map λp=>if kf p.1=some k then (p.1,v) else p else kvs++[(kd,v)]
theorem Ip (k:κ):∀ {kvs:List (D × D)} {vs:List (κ × V)},AQ kf L H kvs vs->(DG kf kvs k=none/\By vs k=none) \/ ∃ d v,DG kf kvs k=some d/\By vs k=some v/\Rep L H d v
 |[],vs,h=>by erw[AQ]at h;subst h;calc .inl ⟨rfl,rfl⟩
 |p::r,vs,h=>by
  let⟨k',v,r',rfl,e,h1,h2⟩:=h;by_cases q:k'=k
  .subst q;exact .inr ⟨p.2,v,by erw[DG];rw[EZ,e];simp,by rw[Jy rfl],h1⟩
  .have e1:DG kf (p::r) k=DG kf r k:=by erw[DG];rw[EZ,e];simp[q]
   rw[e1,JG q];calc Ip k h2
theorem Pm (k:κ):∀ {kvs:List (D × D)} {vs:List (κ × V)},AQ kf L H kvs vs->(kvs.any λp=>decide (kf p.1=some k))=(vs.any λkv=>decide (kv.1=k))
 |[],vs,h=>by erw[AQ]at h;subst h;rfl
 |p::r,vs,h=>by
  let⟨k',v,r',rfl,e,h1,h2⟩:=h;rw[List.any_cons,List.any_cons,Pm k h2,e];simp
theorem Mo (k:κ) (hd:Rep L H d u):∀ {kvs:List (D × D)} {vs:List (κ × V)},AQ kf L H kvs vs->AQ kf L H (kvs.map λp=>if kf p.1=some k then (p.1,d) else p) (vs.map λkv=>if kv.1=k then (kv.1,u) else kv)
 |[],vs,h=>by erw[AQ]at h;subst h;rfl
 |p::r,vs,h=>by
  let⟨k',v,r',rfl,e,h1,h2⟩:=h;rw[Af,Af];by_cases q:k'=k
  .subst q;rw[AD e,AD rfl];exact ⟨k',u,_,rfl,e,hd,Mo k' hd h2⟩
  .rw[AE (by rw[e];simpa using q),AE q];calc ⟨k',v,_,rfl,e,h1,Mo k hd h2⟩
theorem Pq (hk:kf kd=some k) (hd:Rep L H d u):∀ {kvs:List (D × D)} {vs:List (κ × V)},AQ kf L H kvs vs->AQ kf L H (kvs++[(kd,d)]) (vs++[(k,u)])
 |[],vs,h=>by erw[AQ]at h;subst h;calc ⟨k,u,[],rfl,hk,hd,rfl⟩
 |p::r,vs,h=>by
  let⟨k',v,r',rfl,e,h1,h2⟩:=h;calc ⟨k',v,_,rfl,e,h1,Pq hk hd h2⟩
def Pr {kf:D->Option κ} {L:Yg} {H:Hp} {k:κ} {kd d:D} {u:V} (hk:kf kd=some k) (hd:Rep L H d u) {kvs:List (D × D)} {vs:List (κ × V)} (h:AQ kf L H kvs vs):AQ kf L H (Fd kf kvs k kd d) (BL vs k u):=by
 erw[Fd,BL];rw[Pm k h];split
 .exact Mo k hd h
 .exact Pq hk hd h
end
theorem Rj:∀ {ds:List D} {vs:List V} {ks:List Key},zI L H ds vs->C1 ds=some ks->vs=ks.map kV
 |[],vs,ks,h,e=>by ext e;erw[zI]at h;calc h
 |d::ds,vs,ks,h,e=>by
  erw[zI]at h;let⟨v,r,rfl,h1,h2⟩:=h;erw[C1]at e;cases e1:Bu d with
  |none=>rw[e1]at e;ext e
  |some k=>
   cases e2:C1 ds with
   |none=>rw[e1,e2]at e;ext e
   |some ks'=>
    rw[e1,e2]at e;ext e;rw[KC h1 e1,Rj h2 e2];rfl
def MP (h:Rep L H d v) (e:tkD d=some ks):∃ b,v=.ref b/\H b=some (.tup (ks.map kV)):=by
 cases d with
 |tup ds=>
  erw[Rep]at h;let⟨a,vs,rfl,e1,r⟩:=h;calc ⟨a,rfl,by rw[e1,Rj r e]⟩
 |_=>ext e
def GR (M:Mem) (x:EV) (k:D):Option (Option D):=match x with
 |.dat (.ref n)=>match M[n]? with
  |some (.dict kvs)=>match Bu k with
   |some kk=>some (DG Bu kvs kk)
   |none=>none
  |some (.dicT kvs)=>match tkD k with
   |some kk=>some (DG tkD kvs kk)
   |none=>none
  |some (.froK kvs)=>match Bu k with
   |some kk=>some (DG Bu kvs kk)
   |none=>none
  |some (.froT kvs)=>match tkD k with
   |some kk=>some (DG tkD kvs kk)
   |none=>none
  |_=>none
 |_=>none
def OB (L:Yg) (H:Hp):Option D->Option V->Prop
 |none,o=>o=none
 |some d,o=>∃ v,o=some v/\Rep L H d v
def MB {K:Yb} {L:Yg} {M:Mem} {H H0:Hp} {x:EV} {v w:V} {k:D} {o:Option D} (c:Cor K L M H) (rx:zX H0 L H x v) (rk:Rep L H k w) (e:GR M x k=some o):∃ a ov,v=.ref a/\B9 H a w ov/\OB L H o ov:=by
 cases x with
 |fl xs=>ext e
 |dat d=>
  cases d with
  |ref n=>
   erw[zX,Rep]at rx;let⟨a,rfl,ea⟩:=rx;erw[GR]at e;dsimp only at e;cases q:M[n]? with
   |none=>rw[q]at e;ext e
   |some m=>
    rw[q]at e;let z:=c.obj n a m ea q;cases m with
    |dict kvs=>
     dsimp only at e;cases e2:Bu k with
     |none=>rw[e2]at e;ext e
     |some kk=>
      rw[e2]at e;ext e;let⟨vs,e3,r⟩:=z;refine ⟨a,By vs kk,rfl,?_,?_⟩
      .rw[KC rk e2];exact B9.k e3
      .rcases Ip kk r with ⟨h1,h2⟩|⟨d,v,h1,h2,h3⟩
       .rw[h1,h2];rfl
       .rw[h1,h2];calc ⟨v,rfl,h3⟩
    |dicT kvs=>
     dsimp only at e;cases e2:tkD k with
     |none=>rw[e2]at e;ext e
     |some kk=>
      rw[e2]at e;ext e;let⟨vs,e3,r⟩:=z;let⟨b,rfl,eb⟩:=MP rk e2;calc ⟨a,By vs kk,rfl,B9.t e3 eb,?_⟩;rcases Ip kk r with ⟨h1,h2⟩|⟨d,v,h1,h2,h3⟩
      .rw[h1,h2];rfl
      .rw[h1,h2];calc ⟨v,rfl,h3⟩
    |froK kvs=>
     dsimp only at e;cases e2:Bu k with
     |none=>rw[e2]at e;ext e
     |some kk=>
      rw[e2]at e;ext e;let⟨ob,vs,e3,r⟩:=z;calc ⟨a,By vs kk,rfl,.inl ⟨vs,kk,.inr ⟨ob,e3⟩,KC rk e2,rfl⟩,?_⟩;rcases Ip kk r with ⟨h1,h2⟩|⟨d,v,h1,h2,h3⟩
      .rw[h1,h2];rfl
      .rw[h1,h2];calc ⟨v,rfl,h3⟩
    |froT kvs=>
     dsimp only at e;cases e2:tkD k with
     |none=>rw[e2]at e;ext e
     |some kk=>
      rw[e2]at e;ext e;let⟨ob,vs,e3,r⟩:=z;let⟨b,rfl,eb⟩:=MP rk e2;calc ⟨a,By vs kk,rfl,.inr ⟨vs,kk,b,.inr ⟨ob,e3⟩,rfl,eb,rfl⟩,?_⟩;rcases Ip kk r with ⟨h1,h2⟩|⟨d,v,h1,h2,h3⟩
      .rw[h1,h2];rfl
      .rw[h1,h2];calc ⟨v,rfl,h3⟩
    |_=>ext e
  |_=>ext e
def DY (M:Mem) (n:Nat) (k v:D):Option Mem:=match M[n]? with
 |some (.dict kvs)=>match Bu k with
  |some kk=>if kvs.length<sizeLine then some (M.set n (.dict (Fd Bu kvs kk k v))) else none
  |none=>none
 |some (.dicT kvs)=>match tkD k with
  |some kk=>if kvs.length<sizeLine then some (M.set n (.dicT (Fd tkD kvs kk k v))) else none
  |none=>none
 |_=>none
def Pt {K:Yb} {L:Yg} {M M':Mem} {H:Hp} {n:Nat} {a:Yt} {k v:D} {w u:V} (c:Cor K L M H) (ea:L[n]?=some a) (rk:Rep L H k w) (rv:Rep L H v u) (e:DY M n k v=some M'):∃ H',DL H a w u H'/\Cor K L M' H'/\Stp L H L H':=by
 erw[DY]at e;cases q:M[n]? with
 |none=>rw[q]at e;ext e
 |some m=>
  rw[q]at e;let z:=c.obj n a m ea q;cases m with
  |dict kvs=>
   dsimp only at e;cases e2:Bu k with
   |none=>rw[e2]at e;ext e
   |some kk=>
    rw[e2]at e;dsimp only at e;cbv at e
    .rename_i hl;ext e;let⟨vs,e3,r⟩:=z;let⟨c3,s3⟩:=c.put (m:=.dict (Fd Bu kvs kk k v)) (o':=.dK (BL vs kk u)) ea e3 (λ_ z=>by ext z) (λ_ _ z=>by ext z) λs3=>⟨_,zp,(Pr e2 rv r).stp s3⟩;calc ⟨_,?_,c3,s3⟩;rw[KC rk e2];exact DL.k e3 (by rw[r.length];calc hl)
    .cases e
  |dicT kvs=>
   dsimp only at e;cases e2:tkD k with
   |none=>rw[e2]at e;ext e
   |some kk=>
    rw[e2]at e;dsimp only at e;cbv at e
    .rename_i hl;ext e;let⟨vs,e3,r⟩:=z;let⟨b,rfl,eb⟩:=MP rk e2;let⟨c3,s3⟩:=c.put (m:=.dicT (Fd tkD kvs kk k v)) (o':=.dT (BL vs kk u)) ea e3 (λ_ z=>by ext z) (λ_ _ z=>by ext z) λs3=>⟨_,zp,(Pr e2 rv r).stp s3⟩;exact ⟨_,DL.t e3 eb (by rw[r.length];calc hl),c3,s3⟩
    .cases e
  |_=>ext e
section
variable {X:Cx} {a b e o i value:Expr} {pos pos' apos cpos:Pos} {f g h:FE}
def BB:K2:=λx y M=>match y with
 |.dat k=>match GR M x k with
  |some (some d)=>some (.dat d,M)
  |_=>none
 |_=>none
def WD {K:Yb}:A9 K (λx y H Q=>∃ a v,x=.ref a/\B9 H a y (some v)/\Q v H) BB:=by
 intro L M M' H H0 x y d v w Q c rx ry hk q;erw[BB]at hk;cbv at hk
 .rename_i k;cbv at hk
  .rename_i d' e1;ext hk;let⟨a,ov,rfl,h1,h2⟩:=MB c rx ry e1;let⟨u,rfl,r⟩:=h2;exact ⟨a,u,rfl,h1,q L H u (.refl L H) c r⟩
  .cases hk
 .cases hk
def ZR (hu:X.A.units+1<cLine) (h1:QE X o f) (h2:QE X i g) (hs:Lo i:=by intro _ _;rfl):QE X (.Subscript o i pos) (fOp BB f g):=.mk <| PE.imp (U8 hu h1.un h2.un hs) λ_ _ _ h=>GQ WD h
def Ck (neg:Bool):K2:=λx y M=>match x with
  |.dat k=>match GR M y k with
    |some o=>some (.dat (.bl (if neg then !o.isSome else o.isSome)),M)
    |none=>none
  |_=>none
def OD {o:Option D} {ov:Option V} (h:OB L H o ov):ov.isSome=o.isSome:=by
  cases o with
  | none => have h' : ov = none := h
            rw[h'];rfl
  |some d=>let⟨v,rfl,_⟩:=h;rfl
def Zr {K:Yb}:A9 K (λy x H Q=>∃ a o,x=.ref a/\B9 H a y o/\Q (.bl o.isSome) H) (Ck false):=by
 intro L M M' H H0 x y d v w Q c rx ry hk q;erw[Ck]at hk;cbv at hk
 .rename_i k;cbv at hk
  .rename_i o e1;ext hk;let⟨a,ov,rfl,h1,h2⟩:=MB c ry rx e1;calc ⟨a,ov,rfl,h1,?_⟩;rw[OD h2];exact q L H _ (.refl L H) c (Bn (L:=L) (H:=H))
  .cases hk
 .cases hk
def Tz {K:Yb}:A9 K (λy x H Q=>∃ a o,x=.ref a/\B9 H a y o/\Q (.bl (!o.isSome)) H) (Ck true):=by
 intro L M M' H H0 x y d v w Q c rx ry hk q;erw[Ck]at hk;cbv at hk
 .rename_i k;cbv at hk
  .rename_i o e1;ext hk;let⟨a,ov,rfl,h1,h2⟩:=MB c ry rx e1;calc ⟨a,ov,rfl,h1,?_⟩;rw[OD h2];exact q L H _ (.refl L H) c (Bn (L:=L) (H:=H))
  .cases hk
 .cases hk
def iH (hu:X.A.units+1<cLine) (h1:QE X a f) (h2:QE X b g) (hm:behindInMarks .In b=false:=by rfl):QE X (.Compare a [.In] [b] pos) (fOp (Ck false) f g):=.mk <| PE.imp (T4 (ZK hu h1.un h2.un) hm) λ_ _ _ h=>GQ Zr h
def VR (hu:X.A.units+1<cLine) (h1:QE X a f) (h2:QE X b g) (hm:behindInMarks .NotIn b=false:=by rfl):QT X (.Compare a [.NotIn] [b] pos) (tst (fOp (Ck true) f g)):=.mk <| PT.imp (dD (WJ hu h1.un h2.un) hm) λ_ _ _ h=>RM (λ_ _ _ z=>GQ Tz z) (Ni h)
def C9 (fv fo fi:FE):FS:=λY M=>match toD fv Y M with
 |some (v,M1)=>match toD fo Y M1 with
  |some (.ref n,M2)=>match toD fi Y M2 with
   |some (k,M3)=>match DY M3 n k v with
    |some M4=>some (.nx,Y,M4)
    |none=>none
   |none=>none
  |_=>none
 |none=>none
def mH (hu:X.A.units+1<cLine) (hv:QE X value f) (ho:QE X o g) (hi:QE X i h) (hs:swapsWith value (some (.Subscript o i pos')) pos.line X.env=pure false:=by rfl):QS X (.Assign [.Subscript o i pos'] value pos) (C9 f g h) :=
 .mk <| PS.imp (jF hu (Ai ho).un (Ai hi).un (Ai hv).un hs) λE τ H zz=>by
  let⟨L,Y,M,out,Y',M',c,rs,hf,q⟩:=zz;erw[C9]at hf;cbv at hf
  .rename_i v M1 e1;cbv at hf
   .rename_i n M2 e2;cbv at hf
    .rename_i k M3 e3;cbv at hf
     .rename_i M4 e4;ext hf;refine (mkD c rs e1 (λL1 H1 u s1 c1 r1=>(mkD c1 (rs.stp s1) e2 (λL2 H2 y s2 c2 r2=>(mkD c2 ((rs.stp s1).stp s2) e3 (λL3 H3 z s3 c3 r3=>?_))))));erw[Rep]at r2;let⟨a,rfl,ea⟩:=r2;let ea3:L3[n]?=some a:=by let⟨N,hN⟩:=s3.pre;rw[hN];exact Gm ea
      let⟨H4,h1,h2,h3⟩:=Pt c3 ea3 r3 ((r1.stp s2).stp s3) e4;exact ⟨a,H4,rfl,h1,q L3 H4 (((s1.trans s2).trans s3).trans h3) h2 τ ((((rs.stp s1).stp s2).stp s3).stp h3)⟩
     .cases hf
    .cases hf
   .cases hf
  .cases hf
end
end L3
namespace L2
def Tn (hu:A.units+1<cLine) (I:Inv X zB Y H s) (g:DL H a y v H') (ry:zk y u) (rv:zk v r) (h:∀ s',Inv X zB Y H' s'->Heap.SameBut a s.heap s'.heap->Q Unit.unit s') :
  wpAny (model X.prog X.w) A (dictSet a u r) Q E s:=by
 rcases g with ⟨kvs,k,e,ey,l,eH⟩|⟨kvs,k,b,e,ey,eb,l,eH⟩
 .subst ey eH;let⟨z,hd,vs,rel,dd⟩:=Kz I.hok e;let hz:vs.length<=sizeLine:=by rw[<-rel.length];exact z
  let hl:(BL kvs k v).length<=sizeLine:=by have:=Hk kvs k v;omega
  refine wpAny_dictSet_pairs (Fx ry) dd λh' dd' hs=>h _ ?_ hs;let he:∃ q,h'.get? a=some q:=let ⟨q,_,_,hq,_⟩:=dd';⟨q,hq⟩;exact HH I (by rw[e];calc True.intro) hs he (MD hl hd (rel.put k rv) dd')
 .subst ey eH;cases (show u=Value.ref b from ry);let⟨z,hd,xs,rel,dd⟩:=SO I.hok e;let hz:xs.length<=sizeLine:=by rw[<-Paired.length rel];exact z
  let hl:(BL kvs k v).length<=sizeLine:=by have:=Hk kvs k v;omega
  refine wpAny_dictSet_heap (show (tupleKind (Bl X.prog X.w)).room A from Nat.lt_of_succ_lt hu) (Gb I.hok eb) dd λh' dd' hs=>h _ ?_ hs;let⟨q,es,ep,hq,h2,h3,h4,_,h5⟩:=dd';refine HH I (by rw[e];calc True.intro) hs ⟨q,hq⟩ ⟨hl,hd,_,(rel.put k eb rv).keeps λc ys ec=>?_,q,es,ep,hq,h2,h3,h4,h5⟩;rw[zU (DT ec e (λz=>nomatch z))];calc ec
end L2
namespace L3
open L2
def zh:Nat->D->Bool
 |0,.int _=>true
 |n+1,.tup ds=>ds.all (zh n)
 |_,_=>false
def An:Nat->D->D->Bool
 |0,.int i,.int j=>decide (i=j)
 |n+1,.tup xs,.tup ys=>xs.length==ys.length&&(xs.zip ys).all λq=>An n q.1 q.2
 |_,_,_=>false
theorem Jb:∀ (n:Nat) (x:D),zh n x=true->An n x x=true
 |0,.int i,_=>by simp[An]
 |n+1,.tup xs,h=>by
  erw[zh]at h;erw[An];rw[Aj]at h;simp only[beq_self_eq_true,Bool.true_and];rw[Aj];intro q hq;have:q.1=q.2:=by
   let⟨i,hi,e⟩:=ET hq;rw[List.getElem_zip]at e;rw[<-e]
  rw[<-this];calc Jb n _ (h q.1 (List.of_mem_zip hq).1)
 |0,.non,h=>by ext h
 |0,.bl _,h=>by ext h
 |0,.str _,h=>by ext h
 |0,.tup _,h=>by ext h
 |0,.ref _,h=>by ext h
 |n+1,.non,h=>by ext h
 |n+1,.bl _,h=>by ext h
 |n+1,.int _,h=>by ext h
 |n+1,.str _,h=>by ext h
 |n+1,.ref _,h=>by ext h
def S5:∀ (n:Nat) (x y:D),zh n x=true->zh n y=true->An n x y=true->x=y:=by
 intro n;induction n with
 |zero=>
  intro x y hx hy h;cases x <;> first|cases hx|skip
  cases y <;> first|cases hy|skip
  erw[An]at h;rw[CZ h]
 |succ n ih=>
  intro x y hx hy h;cases x <;> first|cases hx|skip
  cases y <;> first|cases hy|skip
  rename_i xs ys;unfold zh at hx hy;erw[An]at h;rw[Aj]at hx hy;rw[Au,beq_iff_eq,Aj]at h;congr 1;apply List.ext_getElem h.1;intro i h1 h2;refine ih _ _ (hx _ (BF h1)) (hy _ (BF h2)) ?_;exact h.2 (xs[i],ys[i]) (by
   let hz:i<(xs.zip ys).length:=by rw[List.length_zip];omega
   have:=BF hz;rw[List.getElem_zip]at this;calc this)
def Rg:∀ (n:Nat) (x y:D) (v:V),zh n x=true->zh n y=true->Rep L H x v->Rep L H y v->x=y:=by
 intro n;induction n with
 |zero=>
  intro x y v hx hy rx ry;cases x <;> first|cases hx|skip
  cases y <;> first|cases hy|skip
  unfold Rep at rx ry;rw[rx]at ry;ext ry;rfl
 |succ n ih=>
  intro x y v hx hy rx ry;cases x <;> first|cases hx|skip
  cases y <;> first|cases hy|skip
  rename_i xs ys;unfold zh at hx hy;rw[Aj]at hx hy;unfold Rep at rx ry;let⟨a,vs,rfl,e,r⟩:=rx;let⟨a',vs',e1,e2,r'⟩:=ry;ext e1;rw[e]at e2;ext e2;congr 1;let hl:xs.length=ys.length:=by rw[<-r.length,r'.length]
  apply List.ext_getElem hl;intro i h1 h2;let⟨u,hu,ru⟩:=r.get (AL h1);let⟨u',hu',ru'⟩:=r'.get (AL h2);rw[hu]at hu';ext hu';calc ih _ _ u (hx _ (BF h1)) (hy _ (BF h2)) ru ru'
def Ny {xs ys:List D} (f:D->D->Bool) (h:xs.length=ys.length):((List.range xs.length).all λj=>f (xs.getD j .non) (ys.getD j .non))=(xs.zip ys).all λq=>f q.1 q.2:=by
  rw[Ex,Aj,Aj];constructor
  . intro hh q hq
    let⟨i,hi,e⟩:=ET hq;rw[List.getElem_zip]at e;rw[List.length_zip]at hi;have:=hh i (by simp;omega);rw[<-e];simpa [DU,show i<xs.length by omega,show i<ys.length by omega] using this
  . intro hh i hi
    let h1:i<xs.length:=by simpa using hi
    let h2:i<ys.length:=()
    let hz:i<(xs.zip ys).length:=by rw[List.length_zip];omega
    have:=hh (xs.zip ys)[i] (BF hz);rw[List.getElem_zip]at this;simpa [DU,h1,h2] using this
def Q9 (I : Inv X zB Y H s) : ∀ (n : Nat) (A : Around) (x y : D) (v w : V) (u u' : Value), A.units + n < cLine -> zh n x = true -> zh n y = true -> Rep L H x v -> Rep L H y w -> zk v u -> zk w u' -> SeqAt.EqAt A s u u' (An n x y) := by
  intro n;induction n with
  |zero=>
    intro A x y v w u u' hu hx hy rx ry ru ru';cases x <;> first|cases hx|skip
    cases y <;> first|cases hy|skip
    unfold Rep at rx ry;subst rx;subst ry;let⟨t,rfl⟩:=ru;let⟨t',rfl⟩:=ru';have:=SeqAt.EqAt.int_int (A:=A) (s:=s) ‹Int› t ‹Int› t';erw[An];rename_i i j;let h:=SeqAt.EqAt.int_int (A:=A) (s:=s) i t j t';let e:(i==j)=decide (i=j):=by by_cases q:i=j <;> simp[q]
    rw[e]at h;calc h
  | succ n ih =>
    intro A x y v w u u' hu hx hy rx ry ru ru';cases x <;> first|cases hx|skip
    cases y <;> first|cases hy|skip
    rename_i xs ys;let hx':=hx;let hy':=hy;let rx':=rx;let ry':=ry;unfold zh at hx hy;rw[Aj]at hx hy;unfold Rep at rx ry;let⟨a,vs,rfl,e,r⟩:=rx;let⟨b,ws,rfl,e2,r2⟩:=ry;ext ru;ext ru';by_cases hab:a=b
    . subst hab
      have:=Rg (n+1) _ _ _ hx' hy' rx' ry';rw[this,Jb (n+1) _ hy'];exact SeqAt.EqAt.same _
    · refine SeqAt.EqAt.of_refs hab ?_
      let⟨its,rv,p1,_⟩:=I.tuple (.of e);let⟨its2,rv2,p2,_⟩:=I.tuple (.of e2);let l1:its.toArray.size=xs.length:=by rw[AU,<-rv.length,r.length]
      let l2:its2.toArray.size=ys.length:=by rw[AU,<-rv2.length,r2.length]
      have key := SeqAt.RcAt.tuples (A := A) (items := its.toArray) (items2 := its2.toArray) (e := fun j => An n (xs.getD j .non) (ys.getD j .non)) p1 p2 (by omega) (fun j h1 h2 => by
        let j1:j<xs.length:=()
        let j2:j<ys.length:=()
        let⟨q1,g1,t1⟩:=r.get (AL j1);let⟨q2,g2,t2⟩:=r2.get (AL j2);let⟨o1,k1,m1⟩:=rv.get g1;let⟨o2,k2,m2⟩:=rv2.get g2
        have z1 : its.toArray[j] = o1 := by have : its.toArray[j]? = some o1 := by simpa using k1
                                            rw[Co h1]at this;exact Bh this
        have z2 : its2.toArray[j] = o2 := by have : its2.toArray[j]? = some o2 := by simpa using k2
                                             rw[Co h2]at this;exact Bh this
        rw[z1,z2];let w1:xs.getD j .non=xs[j]:=by simp[DU,j1]
        let w2:ys.getD j .non=ys[j]:=by simp[DU,j2]
        rw[w1,w2];calc ih A.in1 _ _ _ _ _ _ (by show A.units+1+n<cLine;omega) (hx _ (BF j1)) (hy _ (BF j2)) t1 t2 m1 m2)
      let fin:((List.range (min its.toArray.size its2.toArray.size)).all (λj=>An n (xs.getD j .non) (ys.getD j .non))&&its.toArray.size==its2.toArray.size)=An (n+1) (.tup xs) (.tup ys):=by
        rw[l1,l2];show _=(xs.length==ys.length&&(xs.zip ys).all λq=>An n q.1 q.2);by_cases hl:xs.length=ys.length
        .rw[hl,Nat.min_self,<-hl,Ny (An n) hl,Bool.and_comm]
        . have:(xs.length==ys.length)=false:=by simpa using hl
          rw[this];simp
      rw[fin]at key;calc key
def nb (neg b:Bool):Bool:=if neg then !b else b
def rTr (neg:Bool) (K:Yb) (n:Nat):R2:=λx y H Q=>∃ (L:Yg) (xs ys:List D),(xs.all (zh n)=true/\ys.all (zh n)=true) /\
 ((Rep L H (.tup xs) x/\Rep L H (.tup ys) y) \/ ∃ a b vs ws,x=.ref a/\y=.ref b/\SqL K H a vs/\SqL K H b ws/\zI L H xs vs/\zI L H ys ws)/\Q (.bl (nb neg (An (n+1) (.tup xs) (.tup ys)))) H
def QY (I:Inv X zB Y H s) (hu:A.units+n<cLine) (hx:xs.all (zh n)=true) (hy:ys.all (zh n)=true) (r:zI L H xs vs) (r2:zI L H ys ws) (rv:za vs its) (rv2:za ws its2) (j:Nat) (h1:j<its.toArray.size) (h2:j<its2.toArray.size) :
  SeqAt.EqAt A s its.toArray[j] its2.toArray[j] (An n (xs.getD j .non) (ys.getD j .non)):=by
 rw[Aj]at hx hy;let l1:its.toArray.size=xs.length:=by rw[AU,<-rv.length,r.length]
 let l2:its2.toArray.size=ys.length:=by rw[AU,<-rv2.length,r2.length]
 let j1:j<xs.length:=()
 let j2:j<ys.length:=()
 let⟨q1,g1,t1⟩:=r.get (AL j1);let⟨q2,g2,t2⟩:=r2.get (AL j2);let⟨o1,k1,m1⟩:=rv.get g1;let⟨o2,k2,m2⟩:=rv2.get g2;let z1:its.toArray[j]=o1:=by
  have:its.toArray[j]?=some o1:=by simpa using k1
  rw[Co h1]at this;exact Bh this
 let z2:its2.toArray[j]=o2:=by
  have:its2.toArray[j]?=some o2:=by simpa using k2
  rw[Co h2]at this;exact Bh this
 let w1:xs.getD j .non=xs[j]:=by simp[DU,j1]
 let w2:ys.getD j .non=ys[j]:=by simp[DU,j2]
 rw[z1,z2,w1,w2];calc Q9 I n A _ _ _ _ _ _ hu (hx _ (BF j1)) (hy _ (BF j2)) t1 t2 m1 m2
def Qh (l1:a=xs.length) (l2:b=ys.length):((List.range (min a b)).all (λj=>An n (xs.getD j .non) (ys.getD j .non))&&a==b)=An (n+1) (.tup xs) (.tup ys):=by
 subst l1 l2;show _=(xs.length==ys.length&&(xs.zip ys).all λq=>An n q.1 q.2);by_cases hl:xs.length=ys.length
 .rw[hl,Nat.min_self,<-hl,Ny (An n) hl,Bool.and_comm]
 .have:(xs.length==ys.length)=false:=by simpa using hl
  rw[this];simp
def YZ (hl:xs.length=ys.length):((List.range xs.length).all λj=>An n (xs.getD j .non) (ys.getD j .non))=An (n+1) (.tup xs) (.tup ys):=by
 rw[<-Qh rfl rfl,hl,Nat.min_self];simp
def bQ (hl:xs.length≠ys.length):An (n+1) (.tup xs) (.tup ys)=false:=by
 show (xs.length==ys.length&&_)=false;rw[show (xs.length==ys.length)=false by simpa using hl];rfl
def T9 (n:Nat) (hu:X.A.units+1+n<cLine):OpR X (compareOp .NotEq) (rTr true X.K n):=by
 intro zB s Y H x y v u Q I rx ry h;let⟨L,xs,ys,⟨hx,hy⟩,hc,q⟩:=h;let hu1:X.A.in1.units+n<cLine:=hu;rcases hc with ⟨p1,p2⟩|⟨a,b,vs,ws,rfl,rfl,s1,s2,r1,r2⟩
 .unfold Rep at p1 p2;let⟨a,vs,rfl,e1,r1⟩:=p1;let⟨b,ws,rfl,e2,r2⟩:=p2;ext rx;ext ry;let⟨its,rv,t1,_⟩:=I.tuple (.of e1);let⟨its2,rv2,t2,_⟩:=I.tuple (.of e2);refine SeqAt.RcNeAt.tuples t1 t2 () (λj h1 h2=>QY I hu1 hx hy r1 r2 rv rv2 j h1 h2) _ _ _ _ ?_;rw[Qh (by rw[AU,<-rv.length,r1.length]) (by rw[AU,<-rv2.length,r2.length])];exact ⟨.bl _,H,I,rfl,q⟩
 .cases rx;ext ry;let⟨its,rv,t1,_⟩:=I.list s1;let⟨its2,rv2,t2,_⟩:=I.list s2;let l1:its.toArray.size=xs.length:=by rw[AU,<-rv.length,r1.length]
  let l2:its2.toArray.size=ys.length:=by rw[AU,<-rv2.length,r2.length]
  by_cases hl:xs.length=ys.length
  .refine SeqAt.RcNeAt.lists t1.isList t2.isList () () (λj h1 h2=>QY I hu1 hx hy r1 r2 rv rv2 j h1 h2) _ _ _ _ ?_;rw[l1,YZ hl];exact ⟨.bl _,H,I,rfl,q⟩
  .refine SeqAt.RcNeAt.lists_lengths t1.isList t2.isList (by rw[l1,l2];simpa using hl) () _ _ _ _ ?_;rw[bQ hl]at q;calc ⟨.bl true,H,I,rfl,q⟩
def kTr (neg:Bool) (n:Nat):K2:=λx y M=>match CP x,CP y with
 |some xs,some ys=>if xs.all (zh n)&&ys.all (zh n) then some (.dat (.bl (nb neg (An (n+1) (.tup xs) (.tup ys)))),M) else none
 |_,_=>match B6 M x,B6 M y with
  |some xs,some ys=>if xs.all (zh n)&&ys.all (zh n) then some (.dat (.bl (nb neg (An (n+1) (.tup xs) (.tup ys)))),M) else none
  |_,_=>none
def a9 {K:Yb} {neg:Bool} {n:Nat}:A9 K (rTr neg K n) (kTr neg n):=by
 intro L M M' H H0 x y d v w Q c rx ry hk q;erw[kTr]at hk;cbv at hk
 .rename_i xs ys e1 e2;cbv at hk
  .rename_i hb;ext hk;rw[Au]at hb;let⟨p,vs,rfl,h1,r1⟩:=EC rx e1;let⟨p',ws,rfl,h2,r2⟩:=EC ry e2;refine ⟨L,xs,ys,hb,.inl ⟨?_,?_⟩,q L H _ (.refl L H) c (Bn (L:=L) (H:=H))⟩
   .unfold Rep;exact ⟨p,vs,rfl,h1,r1⟩
   .unfold Rep;exact ⟨p',ws,rfl,h2,r2⟩
  .cases hk
 .split at hk
  .rename_i xs ys e1 e2;cbv at hk
   .rename_i hb;ext hk;rw[Au]at hb;let⟨p,vs,rfl,h1,r1⟩:=Dj c rx e1;let⟨p',ws,rfl,h2,r2⟩:=Dj c ry e2;exact ⟨L,xs,ys,hb,.inr ⟨p,p',vs,ws,rfl,rfl,.inl h1,.inl h2,r1,r2⟩,q L H _ (.refl L H) c (Bn (L:=L) (H:=H))⟩
   .cases hk
  .cases hk
def WV (n:Nat) (hu:X.A.units+1+n<cLine) (h1:QE X a f) (h2:QE X b g):QT X (.Compare a [.NotEq] [b] pos) (tst (fOp (kTr true n) f g)):=Ec a9 (T9 n hu) h1 h2 (De _)
def Po (n:Nat) (hn:n<=8) (hr:Room k A):A.units+1+n<cLine:=by
 have:=hr.units;omega
open Builtin
def W6:fillsNumberSlot (.type "tuple") "mul" = pure false :=
 PySem.fillsNumberSlot_seq F.slot_tuple_mul.lookup (by decide+kernel) F.slot_tuple_rmul.lookup (by decide+kernel)
def Xm:seqRepeat? (.type "tuple")=pure (some (.builtin "tuple.__mul__")):=by
 erw[seqRepeat?];rw[PySem.seqSlot_of (name := "__mul__") F.slot_tuple_mul.lookup (by decide+kernel),PySem.seqSlot_of (name := "__rmul__") (id := "tuple.__rmul__") F.slot_tuple_rmul.lookup (by decide+kernel)];rfl
def X4 (a:Int) (t:Tok) (l:Yt) (items:Yp) (n:Nat) (dd:Option Addr) (sl:Array (Option Value)) :
  Meets (Builtin.«int.__rmul__» ⟨[.int a t,.ref l],[]⟩) (λ_ R s=>s.heap.get? l=some { cls:=.type "tuple", dict:=dd,data:=.seq items n,slots:=sl }/\R (.ok (.ret Value.notImplemented)) s) :=
 .of_wp λprog w A R s h=>by let⟨hp,g,d,tk,os⟩:=s;let⟨hl,h⟩:=h;wp_walk using wpAny_loadPart' hl;calc ⟨_,rfl,h⟩
def S9 (l:Yt) (items:Yp) (n:Nat) (dd:Option Addr) (sl:Array (Option Value)) (u:Tok) :
  Meets (Builtin.«tuple.__mul__» ⟨[.ref l,.int 1 u],[]⟩) (λ_ R s=>s.heap.get? l=some { cls:=.type "tuple", dict:=dd,data:=.seq items n,slots:=sl }/\R (.ok (.ret (.ref l))) s) :=
 .of_wp λprog w A R s h=>by
  let⟨hp,g,d,tk,os⟩:=s;let⟨hl,h⟩:=h;let f1:=AutoSeq1.idx_int;wp_walk using wpAny_loadPart' hl;calc ⟨_,rfl,h⟩
def i3 (l:Yt) (items:Yp) (n:Nat) (dd:Option Addr) (sl:Array (Option Value)) (x:Int) (u:Tok) (h0:¬ (decide (x < -(2 ^ 63))||decide (x≥2 ^ 63))=true) (h1:¬ (items.isEmpty||x==1)=true) (h2:¬ (decide (x<=0)||items.isEmpty)=true) (h3:¬ (items.size:Int)*x>(2 ^ 63-1) / 8) (h4:¬ Builtin.Tuple.tupleTooMany (items.size*x)=true)
  (hsz:(List.foldl (λx1 x2=>x1++x2) #[] (List.replicate x.toNat items)).size<=sizeLine) :
  Meets (Builtin.«tuple.__mul__» ⟨[.ref l,.int x u],[]⟩) (λ_ R s=>s.heap.get? l=some { cls:=.type "tuple", dict:=dd,data:=.seq items n,slots:=sl }/\R (.ok (.ret (Value.ref ⇑s))) { s with heap:=s.heap.push { cls:=Value.type "tuple", data:=Data.seq (List.foldl (λx1 x2=>x1++x2) #[] (List.replicate x.toNat items)) },toks:=s.toks }) :=
 .of_wp λprog w A R s h=>by
  let⟨hp,g,d,tk,os⟩:=s;let⟨hl,h⟩:=h;let f1:=AutoSeq1.idx_int;wp_walk using wpAny_loadPart' hl;rw[AE h0];wp_walk using wpAny_loadPart' hl;rw[AE h3];wp_walk using wpAny_loadPart' hl;all_goals first|exact ⟨_,rfl,h⟩|skip
def Pp (K:Yb):R2:=λx y H Q=>∃ a k xs,x=.ref a/\y=.int k/\SqT K H a xs/\xs≠[]/\1<=k/\xs.length*k.toNat<=sizeLine /\
 (k=1->Q (.ref a) H)/\(k≠1 -> ∀ p,H p=none->Q (.ref p) (upd H p (.tup (List.replicate k.toNat xs).flatten)))
def aP:OpR X (binaryOp .Mult) (Pp X.K):=by
 intro zB s Y H x y v u Q I rx ry h;let⟨a,k,xs,rfl,rfl,ha,hx,hk,hz,q1,q2⟩:=h;ext rx;let⟨t,rfl⟩:=ry;let⟨its,r,p1,_⟩:=I.tuple ha;let⟨⟨cls,dd,data,sl⟩,ho,hc,n,hd⟩:=id p1;simp only at hc hd;subst hc hd;let hl:its.toArray.size=xs.length:=by rw[AU];exact r.length.symm
 let hx0:0<xs.length:=List.length_pos_iff.mpr hx;let hkz:k.toNat<=sizeLine:=Ar (Nat.le_mul_of_pos_left _ hx0) hz;let hk63:k<2 ^ 63:=by
  have:(sizeLine:Nat)<2 ^ 62:=()
  omega
 refine wpAny_binaryOp_repeat_ref () ⟨_,ho,rfl⟩ (λs'=>typeIs_int s' k t) W6 F.fills_int_mul F.slot_int_rmul Xm F.slot_int_index.lookup
  (call_meets F.slot_int_rmul (typeIs_int s k t) F.entry_int_rmul (F.args_int_rmul_2 _ _) (X4 k t a its.toArray n dd sl)
   ⟨ho,rfl,⟨_,ho,rfl⟩,?_⟩)
 by_cases h1:k=1
 .subst h1;exact call_meets F.slot_tuple_mul ⟨_,ho,rfl⟩ F.entry_tuple_mul (F.args_tuple_mul_2 _ _) (S9 a its.toArray n dd sl t) ⟨ho,⟨.ref a,H,I,rfl,q1 rfl⟩⟩
 .have hnew:List.foldl (λx1 x2=>x1++x2) #[] (List.replicate k.toNat its.toArray)=(List.replicate k.toNat its).flatten.toArray:=by
   have:=MF its k.toNat [];rw[List.nil_append]at this;exact this
  let hlr:(List.replicate k.toNat its).flatten.length<=sizeLine:=by
   rw[Kl,<-r.length,Nat.mul_comm];exact hz
  let hem:its.toArray.isEmpty=false:=by
   rw[Array.isEmpty_eq_false_iff];intro z;rw[z]at hl;simp at hl;omega
  let hprod:((its.toArray.size:Int))*k=((xs.length*k.toNat:Nat):Int):=by
   rw[hl];rw[Int.natCast_mul,show ((k.toNat:Nat):Int)=k by omega]
  refine call_meets F.slot_tuple_mul ⟨_,ho,rfl⟩ F.entry_tuple_mul (F.args_tuple_mul_2 _ _) (i3 a its.toArray n dd sl k t ?_ ?_ ?_ ?_ ?_ ?_) ⟨ho,?_⟩
  .rw[Aa (),Aa ()];decide
  .rw[hem,Bool.false_or];intro z;exact h1 (eq_of_beq z)
  .rw[hem,Bool.or_false,Aa ()];decide
  .rw[hprod];have:(sizeLine:Nat)<=(2 ^ 63-1) / 8:=()
   omega
  .rw[hprod];erw[Builtin.Tuple.tupleTooMany];rw[Aa ()];decide
  .rw[hnew,AU];exact hlr
  .rw[hnew];refine ⟨.ref ⇑s,_,I.laid (λb ob q=>AG _ q) (AF _) ?_,rfl,q2 h1 _ (I.hok.fresh (AF _))⟩;calc ⟨by rw[Kl,Nat.mul_comm];calc hz,_,r.rep k.toNat,DW.new _ _⟩
def zI.rep (h:zI L H ds vs):∀ k:Nat,zI L H (List.replicate k ds).flatten (List.replicate k vs).flatten
 |0=> .nil
 |k+1=>by
  rw[GI,GI,D6,D6];calc zI.app h (zI.rep h k)
def Eh:K2:=λx y M=>match y with
 |.dat (.int k)=>match CP x with
  |some xs=>if 0<xs.length/\1<=k/\xs.length*k.toNat<=sizeLine then some (.dat (.tup (List.replicate k.toNat xs).flatten),M) else none
  |none=>match FP M x with
   |some xs=>if -(2 ^ 63)<=k/\k<2 ^ 63/\xs.length*k.toNat<=sizeLine then some (.fl (List.replicate k.toNat xs).flatten,M) else none
   |none=>none
 |_=>none
def jV {K:Yb}:A9 K (λx y H Q=>RD x y H Q\/Pp K x y H Q) Eh:=by
 intro L M M' H H0 x y d v w Q c rx ry hk q;erw[Eh]at hk;cbv at hk
 .rename_i k;let hw:w=.int k:=by erw[zX,Rep]at ry;exact ry
  subst hw;cbv at hk
  .rename_i xs e1;cbv at hk
   .rename_i hz;ext hk;let⟨p1,vs,rfl,h1,r1⟩:=EC rx e1;refine .inr ⟨p1,k,vs,rfl,rfl,.of h1,?_,hz.2.1,by rw[r1.length];exact hz.2.2,λz=>?_,λz pp hp=>?_⟩
    .intro z;have:=r1.length;rw[z]at this;simp at this;omega
    .subst z;refine q L H _ (.refl L H) c ?_;have:(List.replicate (1:Int).toNat xs).flatten=xs:=by simp
     rw[this];erw[zX,Rep];exact ⟨p1,vs,rfl,h1,r1⟩
    .exact q L _ _ (.upd hp) (c.upd hp) (Rep.newTup hp (r1.rep k.toNat))
   .cases hk
  .split at hk
   .rename_i xs e1;cbv at hk
    .rename_i hz;ext hk;let⟨l,vs,rfl,h1,r1⟩:=Km c rx e1;refine .inl ⟨l,k,vs,rfl,rfl,h1,hz.1,hz.2.1,by rw[r1.length];exact hz.2.2,λp hp=>?_⟩;exact q L _ _ (.upd hp) (c.upd hp) (zX.newLst (.refl L H) c c hp (r1.rep k.toNat))
    .cases hk
   .cases hk
 .cases hk
def dN (h1:QE X a f) (h2:QE X b g):QE X (.BinOp a .Mult b pos) (fOp Eh f g):=FV jV (U7.or aP) h1 h2
def gR {its:List Value} {i:Int} (e:s.heap.get? l=some { cls:=.type "list", data:=.seq its.toArray n }) (hfit:¬ (!Builtin.List.listFitsIndex i)=true) (h0:¬ (i<0)) (hz:its.toArray.size<=sizeLine)
  (h:∀ g:Array Value->Array Value,g its.toArray=(its.take (min i.toNat its.length)++[u2]++its.drop (min i.toNat its.length)).toArray->Q .none { s with heap:=s.heap.update l (Obj.mapSeq g),toks:=s.toks }) :
  wpAny (model prog w) A (call (.builtin "list.insert") [.ref l,.int i t,u2]) Q E s:=by
 let hm:=@AutoSeq1.list_insert_list_int_val_1 l its.toArray n i t u2 hfit hz;let h1:s.TypeIs (.ref l) "list" := ⟨_,e,rfl⟩;calc call_meets F.slot_list_insert h1 F.entry_list_insert (F.args_list_insert_3 _ _ _) hm ⟨e,?_⟩;calc h _ ?_;simp only[h0,if_false,AU];simp;calc Gq (by simp)
def Rk:V->List V->Hp->VK->Prop:=λx vs H Q=>∃ (l:Yt) (i:Int) (y:V) (xs:List V),x=.ref l/\vs=[.int i,y]/\H l=some (.lst xs)/\0<=i/\i.toNat<=xs.length/\xs.length<sizeLine/\Q .non (upd H l (.lst (xs.take i.toNat++[y]++xs.drop i.toNat)))
def Vc:MtM X "list.insert" Rk:=by
 intro zB s Y H x vs v us Q I rx rv h;let⟨l,i,y,xs,rfl,rfl,hH,h0,hi,hz,q⟩:=h;ext rx;let⟨u,u2,rfl,⟨t,rfl⟩,ru2⟩:=rv.two;let⟨z,its,n,r,hl,e⟩:=I.lstM hH;let hs:(sizeLine:Nat)<2 ^ 62:=()
 let hi1 : -(2 ^ 63)<=i:=()
 let hi2:i<2 ^ 63:=()
 refine gR e (by rw[fitsIndex_both hi1 hi2];calc Ab) () (by rw[AU,<-hl];calc Ce hz) λg hg=>?_;rw[Nat.min_eq_left ()]at hg;calc ⟨.non,_,I.lset hH e hg (((r.take i.toNat).append (.cons ru2 .nil)).append (r.drop i.toNat)) (by simp;omega),rfl,q⟩
def HQ:KM:=λx ds M=>match x,ds with
 |.dat (.ref n),[.int i,d]=>match M[n]? with
  |some (.lst xs)=>if 0<=i/\i.toNat<=xs.length/\xs.length<sizeLine then some (.non,M.set n (.lst (xs.take i.toNat++[d]++xs.drop i.toNat))) else none
  |_=>none
 |_,_=>none
theorem R7:∀ (k:Nat) {ds:List D} {vs:List V},zI L H ds vs->zI L H (ds.take k) (vs.take k)
 |0,_,_,_=> .nil
 |k+1,[],vs,h=>by erw[zI]at h;subst h;calc .nil
 |k+1,d::ds,vs,h=>by
  erw[zI]at h;let⟨v,r,rfl,h1,h2⟩:=h;calc .cons h1 (R7 k h2)
theorem Sh:∀ (k:Nat) {ds:List D} {vs:List V},zI L H ds vs->zI L H (ds.drop k) (vs.drop k)
 |0,_,_,h=>h
 |k+1,[],vs,h=>by erw[zI]at h;subst h;calc .nil
 |k+1,d::ds,vs,h=>by
  erw[zI]at h;let⟨v,r,rfl,h1,h2⟩:=h;calc Sh k h2
def UG {K:Yb}:Ky K Rk HQ:=by
 intro L M M' H H0 x ds d v vs Q c rx rd hk q;erw[HQ]at hk;cbv at hk
 .rename_i n i d';cbv at hk
  .rename_i xs e1;cbv at hk
   .rename_i hz;ext hk;erw[zX,Rep]at rx;let⟨a,rfl,e2⟩:=rx;let⟨ws,e3,r3⟩:=c.obj n a _ e2 e1;let⟨w1,w2,rfl,r4,r5⟩:=rd.two;let hw:w1=.int i:=by erw[Rep]at r4;exact r4
    subst hw;let⟨c5,s5⟩:=c.write e2 e1 (((R7 i.toNat r3).app (.cons r5 .nil)).app (Sh i.toNat r3));exact ⟨a,i,w2,ws,rfl,rfl,e3,hz.1,by rw[r3.length];calc hz.2.1,by rw[r3.length];calc hz.2.2,q L _ _ s5 c5 (by erw[Rep];rfl)⟩
   .cases hk
  .cases hk
 .cases hk
def Ux (h:QE X a f) (hg:QA X [x1,x2] fg) (hbase:attributeBase a "insert" X.env (eval a X.env)=eval a X.env:=by rfl)
  (hfew:((backTo cpos (starEach [x1,x2] X.env)).all (λx=> !x.1)&&(backToKw cpos (keywordEach [] X.env)).all (λx=>x.1.isSome)&&decide ([x1,x2].length+([]:List Keyword).length+(if ([]:List Keyword).isEmpty then 0 else 1)<30))=true:=by rfl)
  (hline:(apos.endLine==cpos.line)=true:=by rfl) (hs:starEach [x1,x2] X.env=(false,eval x1 X.env)::starEach [x2] X.env:=by rfl) (hplain:(backTo cpos (starEach [x2] X.env)).any (·.1)=false:=by rfl) :
  QE X (.Call (.Attribute a "insert" apos) [x1,x2] [] cpos) (fM HQ f fg) :=
 .mk <| PE.imp (Q2 PySem.F.plainAttrs_list PySem.F.slot_list_insert PySem.F.type_list_insert Vc h.un hg.un hbase hfew hline hs hplain) λ_ _ _ z=>Pw UG z
def Es (fg:FG) (tc:FT) (fi2:FI) (own2:Yj) (fg2:FG) (tc2:FT) (te:FE) (Y:Sd) (all:List D) (gd:Option (Mem->Prop)):List D->List D->Mem->Option (List D × Mem)
 |[],acc,M=>open Classical in if Br gd all M then some (acc,M) else none
 |x::r,acc,M=>open Classical in if Br gd all M then match fg x Y with
   |some σ1=>match tc σ1 M with
    |some (true,M1)=>match fi2 σ1 M1 with
     |some (ys,gd2,M2)=>if acc.length+ys.length<=sizeLine then match BX fg2 tc2 te (Bi own2 σ1) ys gd2 ys M2 with
       |some (ds,M3)=>Es fg tc fi2 own2 fg2 tc2 te Y all gd r (acc++ds) M3
       |none=>none
      else none
     |none=>none
    |some (false,M1)=>Es fg tc fi2 own2 fg2 tc2 te Y all gd r acc M1
    |none=>none
   |none=>none
  else none
def Ff (own own2:Yj) (fi:FI) (fg:FG) (tc:FT) (fi2:FI) (fg2:FG) (tc2:FT) (te:FE):FE:=λY M=>match fi Y M with
 |some (xs,gd,M1)=>match Es fg tc fi2 own2 fg2 tc2 te (Bi own Y) xs gd xs [] M1 with
  |some (ys,M2)=>some (.fl ys,M2)
  |none=>none
 |none=>none
def Wu {K:Yb} {own own2:Yj} {fi fi2:FI} {g g2:TG} {fg fg2:FG} {tc tc2:FT} {te:FE} (hg:Dp own g fg) (hg2:Dp own2 g2 fg2) {τ:Sv} {H:Hp} {Q:VK} (h:trE K (Ff own own2 fi fg tc fi2 fg2 tc2 te) τ H Q) :
  Q6 own own2 (trI K fi) g (trT K tc) (trI K fi2) g2 (trT K tc2) (trD K (toD te)) τ H Q:=by
 let⟨L,Y,M,d,Mf,c,rs,hf,q⟩:=h;erw[Ff]at hf;cbv at hf
 .rename_i xs gd M1 e1;cbv at hf
  .rename_i zs M2 e2;ext hf;refine (mkI c rs e1 (λL1 H1 J s1 c1 it=>?_))
   refine ⟨λi m ys H'=>m=xs.length-i/\i<=xs.length /\ ∃ L' M' as,Stp L1 H1 L' H'/\Cor K L' M' H'/\zI L' H' as ys/\as.length<=sizeLine/\Es fg tc fi2 own2 fg2 tc2 te (Bi own Y) xs gd (xs.drop i) as M'=some (zs,Mf),
    ⟨xs.length,by simp,Bv _,L1,M1,[],.refl _ _,c1,.nil,Bv _,by simpa using e2⟩,?_⟩
   intro i m ys H' hI;refine qz λG=>?_;let⟨eI1,hi,L',M',as,s',c',r',hl,e'⟩:=hI;calc G ?_;clear G;subst eI1;by_cases hlt:i<xs.length
   .rw[Hf hlt]at e';erw[Es]at e';cbv at e'
    .rename_i hgd;let⟨step,_⟩:=it L' H' M' s' c' hgd;let⟨go,yl⟩:=step i xs[i] (AL hlt);cbv at e'
     .rename_i σ1 eg;refine .inr ⟨go,λv H2 hy=>?_⟩;let⟨gr,rv⟩:=yl v H2 hy;let s2:Stp L1 H1 L' H2:=s'.yld gr;refine hg (Il own ((rs.stp s1).stp s2)) (.refl _) rv eg λτ2 r2 x2=>⟨x2,?_⟩;cbv at e'
      .rename_i M3 e3;cbv at e'
       .rename_i ys2 gd2 M4 e4;cbv at e'
        .rename_i hz2;cbv at e'
         .rename_i ds M5 e5;refine (mkT (c'.grow gr) r2 e3 (λL3 H3 s3 c3=>Dv ?_));let st3:Stp L' H' L3 H3:=(Stp.grow gr).trans s3;refine (mkI c3 (r2.stp s3) e4 (λL4 H4 J2 s4 c4 it2=>?_))
          refine ⟨λj m2 ws H5=>m2=ys2.length-j/\j<=ys2.length /\ ∃ L5 M6 bs cs,Stp L4 H4 L5 H5/\Cor K L5 M6 H5/\zI L5 H5 (as++bs) ws/\bs.length<=j/\BX fg2 tc2 te (Bi own2 σ1) ys2 gd2 (ys2.drop j) M6=some (cs,M5)/\bs++cs=ds,
           ⟨ys2.length,by simp,Bv _,L4,M4,[],ds,.refl _ _,c4,by simpa using (r'.stp st3).stp s4,AF _,by simpa using e5,rfl⟩,?_⟩
          intro j m2 ws H5 hI;refine qz λG=>?_;let⟨eI1,hj,L5,M6,bs,cs,s5,c5,r5,hbl,e6,hbc⟩:=hI;calc G ?_;clear G;subst eI1;let hws:ws.length<=as.length+j:=by rw[r5.length,AW];omega
          by_cases hlt2:j<ys2.length
          .rw[Hf hlt2]at e6;erw[BX]at e6;cbv at e6
           .rename_i hgd2;let⟨step2,_⟩:=it2 L5 H5 M6 s5 c5 hgd2;let⟨go2,yl2⟩:=step2 j ys2[j] (AL hlt2);cbv at e6
            .rename_i σ2 eg2;refine .inr ⟨go2,λv2 H6 hy2=>?_⟩;let⟨gr2,rv2⟩:=yl2 v2 H6 hy2;let s6:Stp L4 H4 L5 H6:=s5.yld gr2;refine hg2 (Il own2 (((r2.stp s3).stp s4).stp s6)) (.refl _) rv2 eg2 λτ3 r3 x3=>⟨x3,?_⟩;cbv at e6
             .rename_i M7 e7;cbv at e6
              .rename_i d M8 e8;cbv at e6
               .rename_i ds' M9 e9;ext e6;refine (mkT (c5.grow gr2) r3 e7 (λL7 H7 s7 c7=>Dv ?_));refine (mkD c7 (r3.stp s7) e8 (λL8 H8 w s8 c8 r8=>?_));let st:Stp L5 H5 L8 H8:=((Stp.grow gr2).trans s7).trans s8;calc ⟨(),ys2.length-(j+1),(),rfl,hlt2,L8,M8,bs++[d],ds',s5.trans st,c8,?_,by simp;omega,e9,by rw[<-hbc];simp⟩;have:=(r5.stp st).app (.cons r8 .nil);simpa using this
               .cases e6
              .cases e6
             .rename_i M7 e7;refine (mkT (c5.grow gr2) r3 e7 (λL7 H7 s7 c7=>Dc ?_));let st:Stp L5 H5 L7 H7:=(Stp.grow gr2).trans s7;exact ⟨ys2.length-(j+1),(),rfl,hlt2,L7,M7,bs,cs,s5.trans st,c7,r5.stp st,(),e6,hbc⟩
             .cases e6
            .cases e6
           .cases e6
          .have hj':j=ys2.length:=()
           subst hj';rw[List.drop_length]at e6;erw[BX]at e6;cbv at e6
           .rename_i hgd2;ext e6;let⟨_,stop2⟩:=it2 L5 H5 _ s5 c5 hgd2;rw[CU]at hbc;subst hbc;refine .inl ⟨stop2,xs.length-(i+1),(),rfl,hlt,L5,M5,as++bs,s'.trans ((st3.trans s4).trans s5),c5,r5,by rw[AW];omega,e'⟩
           .cases e6
         .cases e'
        .cases e'
       .cases e'
      .rename_i M3 e3;refine (mkT (c'.grow gr) r2 e3 (λL3 H3 s3 c3=>Dc ?_));let st:Stp L' H' L3 H3:=(Stp.grow gr).trans s3;exact ⟨xs.length-(i+1),(),rfl,hlt,L3,M3,as,s'.trans st,c3,r'.stp st,hl,e'⟩
      .cases e'
     .cases e'
    .cases e'
   .have hi':i=xs.length:=()
    subst hi';rw[List.drop_length]at e';erw[Es]at e';cbv at e'
    .rename_i hgd;ext e';let⟨_,stop⟩:=it L' H' _ s' c' hgd;refine .inl ⟨stop,by rw[r'.length];exact hl,λp hp=>?_⟩;exact q L' _ _ ((s1.trans s').trans (.upd hp)) (c'.upd hp) (zX.newLst (s1.trans s') c c' hp r')
    .cases e'
  .cases hf
 .cases hf
section
variable {X:Cx} {scope:Y0} {elt t1 i1 t2 i2:Expr} {f1 f2:Yi} {pos:Pos}
structure QParts2 (X:Cx) (scope:Y0) (t1:Expr) (f1:Yi) (t2 i2:Expr) (f2:Yi) (elt:Expr) (g:TG) (tc:FT) (fi2:FI) (g2:TG) (tc2:FT) (te:FE):Prop where
 g:∀ zB cl s H fp,PG (zP X zB scope cl s H fp) t1 g
 c:∀ zB cl s H fp,QIfs (zP X zB scope cl s H fp) f1 tc
 w2:∀ zB cl s H fp,QI (zP X zB scope cl s H fp) t2 i2 fi2
 g2:∀ zB cl s H fp,PG (zP X zB scope cl s H fp) t2 g2
 c2:∀ zB cl s H fp,QIfs (zP X zB scope cl s H fp) f2 tc2
 e:∀ zB cl s H fp,QE (zP X zB scope cl s H fp) elt te
 s2:∀ zB cl s H fp x,foldedSetIterable i2 (zP X zB scope cl s H fp).env x=pure x
def Oz {own own2:Yj} {fi fi2:FI} {g g2:TG} {fg fg2:FG} {tc tc2:FT} {te:FE} (hsub:∀ i∈own2,i∈own) (hg:Dp own g fg) (hg2:Dp own2 g2 fg2) (C:CompIn X scope own) (hcalm:X.calm=true) (hi:QI X t1 i1 fi) (p:QParts2 X scope t1 f1 t2 i2 f2 elt g tc fi2 g2 tc2 te) (hs:∀ x,foldedSetIterable i1 X.env x=pure x:=by intro _;rfl) :
  QE X (Bm elt t1 i1 f1 t2 i2 f2 scope pos) (Ff own own2 fi fg tc fi2 fg2 tc2 te) :=
 .mk <| PE.imp (fU hsub C hcalm hi.un ⟨p.g,λzB cl s H fp=>(p.c zB cl s H fp).un,λzB cl s H fp=>(p.w2 zB cl s H fp).un,p.g2,λzB cl s H fp=>(p.c2 zB cl s H fp).un,λzB cl s H fp=>(Ai (p.e zB cl s H fp)).un,p.s2⟩ hs) λ_ _ _ h=>Wu hg hg2 h
end
end L3
namespace L2
def k7 (hu:X.A.units+1<cLine) (hk:PE X k tk) (hv:PE X v tv) :
  PE X (.Dict [some k] [v] pos) (λY H Q=>∀ p,H p=none->tk Y (upd H p (.dT [])) λx H1=>tv Y H1 λy H2=>∃ H3,DL H2 p x y H3/\Q (.ref p) H3):=by
 intro zB s Y H Q I q;let hn:=I.hok.fresh (AF ⇑s);let I1:=I.laid (t':=s.toks) (λ_ _ q=>AG _ q) (AF _) (PN s.heap I.big);rw[arm_eval_Dict,zip_pairTrees [some k] [v] X.env pos rfl rfl,dictDisplay_pairs _ (by simp[pairTrees]) (by simp[pairTrees])];calc AA (C3 (AA ?_));erw[subDict];calc AA (wpAny_alloc ?_);calc AA (CD ?_);rw[AD (by simp[pairTrees])];refine AA (thn (JP hk hv Nr zB _ Y _ (λps H2=>match ps with | [(x,y)]=>∃ H3,DL H2 ⇑s x y H3/\Q (.ref ⇑s) H3|_=>False) I1 (q _ hn)) λvs s1 ⟨ps,H2,I2,rel,hq⟩=>?_);cases rel with
 |nil=>calc hq.elim
 | @cons a b as bs hab t=>
  cases t with
  |cons _ _=>calc hq.elim
  |nil=>
   let⟨x,y⟩:=a;let⟨H3,hp,q3⟩:=hq;let⟨u,r⟩:=b;calc CD ?_;rw[List.forIn_cons];calc AA (AA ?_);refine AA (Tn hu I2 hp hab.1 hab.2 λs' I' hs=>AB ?_);show wpAny _ _ (forIn [] PUnit.unit _) _ _ s';rw[List.forIn_nil];calc AB (AB (AB (AB ⟨.ref ⇑s,H3,I',rfl,q3⟩)))
end L2
namespace L3
open L2
def Ge (fk fv:FE):FE:=λY M=>match toD fk Y (M++[.dicT []]) with
 |some (k,M1)=>match toD fv Y M1 with
  |some (v,M2)=>match DY M2 M.length k v with
   |some M3=>some (.dat (.ref M.length),M3)
   |none=>none
  |none=>none
 |none=>none
def Wf (hu:X.A.units+1<cLine) (h1:QE X a fk) (h2:QE X b fv):QE X (.Dict [some a] [b] pos) (Ge fk fv):=.mk <| PE.imp (k7 hu (Ai h1).un (Ai h2).un) λτ H Q ⟨L,Y,M,d,M',c,rs,hf,q⟩ p hp=>by
 erw[Ge]at hf;cbv at hf
 .rename_i k M1 e1;cbv at hf
  .rename_i v M2 e2;cbv at hf
   .rename_i M3 e3;ext hf;let⟨c0,s0⟩:=c.pushO (m:=.dicT []) hp ⟨[],zp,rfl⟩;refine ⟨L++[p],Y,_,_,_,c0,rs.stp s0,e1,λL1 H1 x st1 c1 r1=>⟨L1,Y,M1,_,_,c1,(rs.stp s0).stp st1,e2,λL2 H2 y st2 c2 r2=>?_⟩⟩;let st:=(s0.trans st1).trans st2;let lp:L2[M.length]?=some p:=by
     let⟨N,hN⟩:=(st1.trans st2).pre;rw[hN,<-c.len];simp
    let⟨H3,hd,c3,s3⟩:=Pt c2 lp (r1.stp st2) r2 e3;calc ⟨H3,hd,q _ _ _ (st.trans s3) c3 ?_⟩;erw[zX,Rep];exact ⟨p,rfl,lp⟩
   .cases hf
  .cases hf
 .cases hf
open SeqAt
structure Df (K:Yb) (mg:Yh) (x:Str) (st:Stmt) (ps:Yk) where
 f:Addr
 fd:FuncData
 F:Fun K x x st f fd
 b:D2 K fd ps []
 m:mg x=some (.ref f)
structure Dg (K:Yb) (x:Str) (st:Stmt) where
 f:Addr
 {od an:Option Addr}
 {sl:Array (Option Value)}
 {oc kV dc pm cd ct:Yu}
 a:PySem.W.nsIn K mainGlobals x=some (some (.ref f))
 l:K.lookup f=some ⟨oc,od,.func (PySem.W.fnOf x x (Fv st) (EB st) (zJ st) .none kV dc pm an cd ct),sl⟩
 c:PySem.W.codeIn K cd x=true
 k:PySem.W.keepIn K (.ref f)=true
abbrev Dg.df {K:Yb} {x:Str} {st:Stmt} {ps:Yk} {h:Heap} {mg:Yh} (g:Dg K x st) (X:K.In h) (G:h.Ns mainGlobals mg)
  (hb:∀ (kV doc pm:Yu) (an:Option Addr) (cdv ct:Yu) (us:Yf),us.length=ps.length->bindArgs (PySem.W.fnOf x x (Fv st) (EB st) (zJ st) .none kV doc pm an cdv ct) ⟨us,[]⟩=pure (ps.zip us)):Df K mg x st ps :=
 ⟨g.f,_,OY g.l g.c g.k,(OY g.l g.c g.k).binds hb,PySem.W.mg_of X G g.a⟩
abbrev Od (P:Ym) (w:Yo) (base:Heap) (k:Nat) {K:Yb} {mg:Yh} {x:Str} {st:Stmt} {ps:Yk} (d:Df K mg x st ps) (m:FF):Prop:=FnOk P w K mg base CX0 k d.f d.fd ps (spF K ps.length m)
abbrev Zn (K:Yb) (x:Str):Prop:=PySem.W.nsIn K mainGlobals x=some none
abbrev Ki (K:Yb) (t T:String) (b:Bool):Prop:=PySem.W.kitOne K (.type t) (.type T)=some b
theorem qS {P:List Value->Prop} {n:Nat} (h:∀ a us,us.length=n->P (a::us)):∀ us:List Value,us.length=n+1->P us
 |a::us,e=>h a us (Nat.succ.inj e)
def Ef {P:List Value->Prop} (h:∀ a,P [a]):∀ us:List Value,us.length=1->P us:=qS λa us z=>List.length_eq_zero_iff.mp z▸h a
def Di {P:List Value->Prop} (h:∀ a b,P [a,b]):∀ us:List Value,us.length=2->P us:=qS λa=>qS λb us z=>List.length_eq_zero_iff.mp z▸h a b
def DF {P:List Value->Prop} (h:∀ a b c,P [a,b,c]):∀ us:List Value,us.length=3->P us:=qS λa=>qS λb=>qS λc us z=>List.length_eq_zero_iff.mp z▸h a b c
def G0 {P:List Value->Prop} (h:∀ a b c d,P [a,b,c,d]):∀ us:List Value,us.length=4->P us:=qS λa=>qS λb=>qS λc=>qS λd us z=>List.length_eq_zero_iff.mp z▸h a b c d
def TC {P:List Value->Prop} (h:∀ a b c d e,P [a,b,c,d,e]):∀ us:List Value,us.length=5->P us:=qS λa=>qS λb=>qS λc=>qS λd=>qS λe us z=>List.length_eq_zero_iff.mp z▸h a b c d e
section
variable {st:Stmt}
def Nc {d:Df X.K X.mg x st ps} (F:FnOk X.prog X.w X.K X.mg X.base CX0 k d.f d.fd ps (spF X.K (e::es).length g)) (hr:Room k X.A) (hg:Gl X x)
  (ha:QA X (e::es) fa) (hl:∀ Y M ds M1,fa Y M=some (ds,M1)->ds.length=(e::es).length) (hdb:(x==("__debug__" : Str))=false) (he:starEach (e::es) X.env=(false,eval e X.env)::starEach es X.env) (hpl:(backTo pos (starEach es X.env)).any (·.1)=false) :
  QE X (.Call (.Name x p) (e::es) [] pos) (zR g fa):=UU F hr hg d.m d.F.kp d.b ha hl hdb he hpl
def iC (hN:X.N.Nodup) (hi:X.N[i]?=some x) (h:QE X e f) (hx:Loc X.env.scope x:=by first|exact Or.inl rfl|exact Or.inr rfl) (hs:swapsWith e (some (.Name x pos')) pos.line X.env=pure false:=by rfl)
  (hf:X.fn x=true\/X.env.scope.names.lookup x=some .local:=by first|exact .inl rfl|exact .inr rfl|assumption):QS X (.Assign [.Name x pos'] e pos) (AN i f):=ZM hN hi hx h hs hf
def eI (hN:X.N.Nodup) (hi:X.N[i]?=some x) (hx:Loc X.env.scope x:=by first|exact Or.inl rfl|calc Or.inr rfl) (hf:X.fn x=true\/X.env.scope.names.lookup x=some .local:=by first|exact .inl rfl|exact .inr rfl|assumption):PG X (.Name x pos) (Ed i):=SU hN hi hx hf
end
def SQ (hv:s.heap.IsItemsView v d) (ho:s.heap.get? d=some o) (hdat:o.data=.dict es ep)
  (hQ:Q (.ref ⇑s) { s with heap:=s.heap.push { cls:=.type "dict_itemiterator", data:=.fields #[.none,.bool false,.ref d,.int 0 0,.int es.size 0,.int ep 0,.none,.none] } }):wpAny (model prog w) A (pyIter (.ref v)) Q E s:=by
 let⟨q,hq,_,hd⟩:=id hv;calc wpAny_pyIter_slot hv.typeIs F.slot_dict_items_iter (BQ F.slot_dict_items_iter hv.typeIs F.entry_dict_items_iter ?_ (F.args_dict_items_iter_1 _));unfold Builtin.«dict_items.__iter__»;calc AA (AB (AA ?_));erw[Builtin.Dict_items.dictOf];calc AA (Bg hq hd rfl (AB (AA ?_)));erw[Builtin.Dict_items.newIterator];calc AA (wpAny_dictEntries ho hdat (AA (wpAny_dictEpoch ho hdat ?_)));simp only[show Builtin.Dict_items.ownsTuple "dict_itemiterator" = true by decide,if_true];calc BI (AB ⟨_,rfl, "dict_itemiterator", _,⟨_,AM _ rfl,rfl⟩,F.slot_dict_itemiterator_next.lookup,?_⟩) (by simp only[sizeOk,Builtin.Dict_items.ownedTupleFields,AU,AW,B4,DV,sizeLine_eq];omega);simpa [rawInt,Builtin.Dict_items.ownedTupleFields] using hQ
def NU (hh:A.handled=none) (hit:IsItemIter s.heap it d i es.size ep ok ov) (hod:s.heap.get? d=some o) (hdd:o.data=.dict es ep) (hge:es.size<=i)
  (hQ:∀ h',Heap.ExtBut it s.heap h'->Q none { s with heap:=h' }):wpAny (model prog w) A (pyNext (.ref it)) Q E s:=by
 let hT:s.TypeIs (.ref it) "dict_itemiterator" := ⟨_,hit,rfl⟩;erw[pyNext];calc AA (DM (CG hT F.slot_dict_itemiterator_next (BQ F.slot_dict_itemiterator_next hT F.entry_dict_itemiterator_next ?_ (F.args_dict_itemiterator_next_1 _))));calc AA (AB (AA (AA ?_)));first|refine AA (wpAny_typeNameOfWhole_itemiter hT (AB ?_))|refine AA (wpAny_typeNameOf_itemiter hT (AB ?_))
 calc AA (wpAny_fieldsOf hit rfl ?_);simp only[show Builtin.Dict_items.ownsTuple "dict_itemiterator" = true by decide,if_true];show wpAny _ _ (if (Value.ref d==Value.none)=true then _ else _) _ _ s;rw[AE (show ¬ ((Value.ref d==Value.none)=true)from Ab)];calc AA (AB (AA (wpAny_dictEntries hod hdd ?_)));rw[AE (by simp)];calc AA (AB (AA (wpAny_dictEpoch hod hdd ?_)));rw[AE (by simp)];calc AB ?_;simp only[show ¬ ((i:Int)<0)from by omega,if_false,Bt,Array.getElem?_eq_none hge];calc AA ?_;first|refine AA (wpAny_typeNameOfWhole_itemiter hT (AB ?_))|refine AA (wpAny_typeNameOf_itemiter hT (AB ?_))
 show wpAny _ _ (setField (.ref it) 2 .none >>= _) _ _ s;calc AA (Dt hit rfl (by simp) ?_);calc AA ?_;simp only[newExc,newTuple];calc AA (BI ?_ (by size_fits));calc AA (wpAny_of_eq (by first|rfl|(simp only[firstArgMember];rfl)) ?_);calc BI ?_ (by size_fits);simp only[raiseNew];calc AA (wpAny_handled ?_);rw[show A.in1.handled=none from hh];calc AA (AB (wpAny_throw ?_));calc AA (wpAny_isInstance ⟨_,AM _ rfl,rfl⟩ isSubtype_stop ?_);calc AB (hQ _ (((Cy ..).extBut.push _).push _))
def cQ (hit:IsItemIter s.heap it d i es.size ep ok ov) (hod:s.heap.get? d=some o) (hdd:o.data=.dict es ep) (hx:es[i]?=some e)
  (hQ:∀ h',IsItemIterOut h' it d (i+1) es.size ep e.key e.val ⇑s->h'.get? ⇑s=some { cls:=.type "tuple", data:=.seq #[e.key,e.val] }->(∀ b o,b≠it->s.heap.get? b=some o->h'.get? b=some o)->Q (some (.ref ⇑s)) { s with heap:=h' }) :
  wpAny (model prog w) A (pyNext (.ref it)) Q E s:=by
 let⟨hp,g,dr,tk,os⟩:=s;let hT:Shared.TypeIs ⟨hp,g,dr,tk,os⟩ (.ref it) "dict_itemiterator" := ⟨_,hit,rfl⟩;let⟨hlt,hxe⟩:=Array.getElem?_eq_some_iff.mp hx;erw[pyNext];calc AA (DM (CG hT F.slot_dict_itemiterator_next (BQ F.slot_dict_itemiterator_next hT F.entry_dict_itemiterator_next ?_ (F.args_dict_itemiterator_next_1 _))));calc AA (AB (AA (AA ?_)));first|refine AA (wpAny_typeNameOfWhole_itemiter hT (AB ?_))|refine AA (wpAny_typeNameOf_itemiter hT (AB ?_))
 calc AA (wpAny_fieldsOf hit rfl ?_);simp only[show Builtin.Dict_items.ownsTuple "dict_itemiterator" = true by decide,if_true];show wpAny _ _ (if (Value.ref d==Value.none)=true then _ else _) _ _ _;rw[AE (show ¬ ((Value.ref d==Value.none)=true)from Ab)];calc AA (AB (AA (wpAny_dictEntries hod hdd ?_)));rw[AE (by simp)];calc AA (AB (AA (wpAny_dictEpoch hod hdd ?_)));rw[AE (by simp)];calc AB ?_;simp only[show ¬ ((i:Int)<0)from by omega,if_false,Bt,Co hlt,hxe];calc AA ?_;first|refine AA (wpAny_typeNameOfWhole_itemiter hT (AB ?_))|refine AA (wpAny_typeNameOf_itemiter hT (AB ?_))
 refine AA (wpAny_isOneOf_itemiter hT ?_);show wpAny _ _ (setField (.ref it) 3 (rawInt ((i:Int)+1)) >>= _) _ _ ⟨hp,g,dr,tk,os⟩;refine AA (Dr hit (by simp) λh1 he1 hs1=>?_);replace hs1:Heap.SameBut it hp h1:=hs1;replace he1:IsItemIter h1 it d (i+1) es.size ep ok ov:=by
  let q:((i+1:Nat):Int)=(i:Int)+1:=()
  erw[IsItemIter];rw[q];simpa [rawInt] using he1
 let hT1:Shared.TypeIs ⟨h1,g,dr,tk,os⟩ (.ref it) "dict_itemiterator" := ⟨_,he1,rfl⟩;calc AA (CD (AA (wpAny_isOneOf_itemiter hT1 (AA (wpAny_isOneOf_itemiter hT1 ?_)))));erw[Builtin.Dict_items.pairFromOwner];calc AA (wpAny_newTuple ?_);let he2:IsItemIter (h1.push { cls:=.type "tuple", data:=.seq #[e.key,e.val] }) it d (i+1) es.size ep ok ov:=AG _ he1;generalize hh2:h1.push { cls:=.type "tuple", data:=.seq #[e.key,e.val] }=h2 at he2;let z1:h1.objs.size=hp.objs.size:=hs1.1;let hil:it<hp.objs.size:=AH hit;let t2:h2.get? hp.objs.size=some { cls:=.type "tuple", data:=.seq #[e.key,e.val] }:=by rw[<-hh2,<-z1];exact AM _ rfl
 let k2:∀ b o,b≠it->hp.get? b=some o->h2.get? b=some o:=λb o hb q=>by rw[<-hh2];exact AG _ (hs1.extBut b o hb q)
 rw[z1];calc AA ?_;erw[Builtin.Dict_items.ownedTupleIsFree];calc AA (Bg he2 rfl rfl (AB ?_));simp only[if_true];calc AA (Bg he2 rfl rfl (AA (Bg he2 rfl rfl ?_)));refine AA (Dr he2 (by simp) λh3 he3 hs3=>?_);replace he3:IsItemIter h3 it d (i+1) es.size ep e.key ov:=he3;replace hs3:Heap.SameBut it h2 h3:=hs3;refine AA (Dr he3 (by simp) λh4 he4 hs4=>?_);replace he4:IsItemIter h4 it d (i+1) es.size ep e.key e.val:=he4;replace hs4:Heap.SameBut it h3 h4:=hs4;refine AA (Dr he4 (by simp) λh5 he5 hs5=>?_);replace he5:IsItemIterOut h5 it d (i+1) es.size ep e.key e.val hp.objs.size:=he5;replace hs5:Heap.SameBut it h4 h5:=hs5;refine AA (Dr he5 (by simp) λh6 he6 hs6=>?_);replace he6:IsItemIterOut h6 it d (i+1) es.size ep e.key e.val hp.objs.size:=he6;replace hs6:Heap.SameBut it h5 h6:=hs6;let up:∀ b o,b≠it->h2.get? b=some o->h6.get? b=some o:=λb o hb q=>hs6.extBut b o hb (hs5.extBut b o hb (hs4.extBut b o hb (hs3.extBut b o hb q)));calc AA (wpAny_letGo (AB (AB ⟨_,rfl,AB (hQ h6 he6 (up _ _ (Cz hil) t2) λb o hb q=>up b o hb (k2 b o hb q))⟩)))
def OQ (d:Yt) (hd:(d==sysModules)=false) :
  MeetsIn prog w (Builtin.«dict.items» ⟨[.ref d],[]⟩) (λ_ R s=>s.TypeIs (.ref d) "dict" /\ R (.ok (.ret (.ref ⇑s))) { s with heap:=s.heap.push { cls:=.type "dict_items", data:=.fields #[.ref d] } }) :=
 .of_wp λA R s ⟨hT,h⟩=>by
  unfold Builtin.«dict.items»;calc AA ?_;erw[Builtin.Dict.noArgs];calc AA (wpAny_notOrdered_dict hT ?_);calc AB ?_;erw[Builtin.Dict.showsAll];rw[AE (by rw[hd];calc Ab)];calc AA (AB (AA (BI (AB ⟨_,rfl,h⟩))))
def hV:entryFor table "dict_itemiterator.__iter__" = some Builtin.«dict_keyiterator.__iter__»:=entryFor_alias (id' := "dict_keyiterator.__iter__") (by kernel_rfl) rfl (by decide+kernel) (by kernel_rfl)
def WI (he:IsItemIter s.heap it d i n ep ok ov) (h:Q (.ref it) s):wpAny (model prog w) A (pyIter (.ref it)) Q E s:=by
 let hT:s.TypeIs (.ref it) "dict_itemiterator" := ⟨_,he,rfl⟩;calc wpAny_pyIter_slot hT F.slot_dict_itemiterator_iter (BQ F.slot_dict_itemiterator_iter hT hV ?_ (F.args_dict_itemiterator_iter_1 _));calc AB ⟨_,rfl, "dict_itemiterator", _,hT,F.slot_dict_itemiterator_next.lookup,h⟩
def IJ (d:Yt) (o:Obj) (kvs:List (List Key × V)):It :=
 ⟨λi H=>H d=some (.frz o (.dT kvs))/\i<kvs.length,
  λi H v H'=>∃ T b k x,kvs[i]?=some (k,x)/\v=.ref T/\H T=none/\H b=some (.tup (k.map kV))/\H'=upd H T (.tup [.ref b,x]),
  λi H=>H d=some (.frz o (.dT kvs))/\kvs.length<=i⟩
def KH (I:Inv X zB Y H s) (hd:o.data=.dict es ep) (e:H d=some (.frz o (.dT kvs))) :
  s.heap.get? d=some o /\ ∃ xs,KT H kvs xs/\es.toList=xs.map (entryOfKey (tupleKind (Bl X.prog X.w)))/\kvs.length=es.size:=by
 let⟨h0,_,_,xs,r,o',es',ep',h1,_,h3,h4,_⟩:=(show Ag X.prog X.w H s.heap d (.frz o (.dT kvs))from I.hok d _ e);rw[h0]at h1;ext h1;rw[hd]at h3;ext h3;calc ⟨h0,xs,r,h4,?_⟩;let h5:es.toList.length=xs.length:=by rw[h4,AI]
 rw[Paired.length r,<-h5,BM]
def ND:∀ {kvs:List (List Key × V)} {xs:List (List Key × Addr × Value)} {i:Nat} {k:List Key} {x:V},KT H kvs xs->kvs[i]?=some (k,x) -> ∃ b u,xs[i]?=some (k,b,u)/\H b=some (.tup (k.map kV))/\zk x u:=by
 intro kvs xs i k x r;induction r generalizing i with
 |nil=>intro e;ext e
 | @cons p q ps qs hq t ih=>
  intro e;cases i with
  |zero=>
   ext e;let⟨q1,q2,q3⟩:=q;calc ⟨q2,q3,by rw[show k=q1 from hq.1];rfl,hq.2.1,hq.2.2⟩
  |succ j=>calc ih e
def Ox {P:Ym} {w:Yo} {K:Yb} {tes:Yi} {ek:Nat} {ep:Pos} {it d:Yt} {o:Obj} {kvs:List (List Key × V)} {es:Array DictEntry} {en:Nat} (hd:o.data=.dict es en) :
  Turn P w K (.Tuple tes ek ep) (IJ d o kvs) [it] it (λi h=>∃ ok ov,IsItemIter h it d i es.size en ok ov) where
 mem:=AR.mpr rfl;obj:=λi h ⟨ok,ov,he⟩ c hc=>by
  cases AR.mp hc;exact ⟨_,he,λv m=>by ext m⟩
 keep:=λi h h' ⟨ok,ov,he⟩ k=>⟨ok,ov,k it (AR.mpr rfl) _ he⟩;item:=by
  intro X hP hw hK hc i zB s Y H E I hf Z hg;subst hP hw hK;let⟨ok,ov,he⟩:=Z;let⟨hg,hi⟩:=hg;let⟨h0,xs,r,h4,hl⟩:=KH I hd hg;rcases hkx:kvs[i]with ⟨k,x⟩;let hk:kvs[i]?=some (k,x):=by rw[AL hi,hkx]
  let⟨b,u,h5,h6,h7⟩:=ND r hk;let hx:es[i]?=some (entryOfKey (tupleKind (Bl X.prog X.w)) (k,b,u)):=by
   rw[<-BZ,h4,Ac,h5];rfl
  let ilt:it<⇑s:=AH he;refine cQ he h0 hd hx λh' ho hT kp=>⟨_,rfl,wpAny_letOwnedTupleGo_items ho λh2 he2 e2=>?_⟩;let kk:∀ c q,c∉[it]->s.heap.get? c=some q->h2.get? c=some q:=λc q n z=>e2.extBut _ _ (λy=>n (AR.mpr y)) (kp c q (λy=>n (AR.mpr y)) z);let NT:=e2.extBut _ _ (Cz ilt) hT;let hfr:H ⇑s=none:=I.hok.fresh (AF _);refine ⟨.ref ⇑s,upd H ⇑s (.tup [.ref b,x]),ME (s:=s) I hf kk (AF _) ?_,rfl,⟨_,b,k,x,hk,rfl,hfr,h6,rfl⟩,⟨_,_,he2⟩,λc hm=>?_⟩
  .exact ⟨by show 2<=sizeLine;decide,[.ref b,u],.cons rfl (.cons h7 .nil),⟨_,NT,rfl,⟨_,rfl⟩,rfl⟩⟩
  .cases AR.mp hm;rw[zU (Ad ilt)];exact (hf it hm).1
 done:=by
  intro X hP hw hK hc i zB s Y H E I hf Z hg;subst hP hw hK;let⟨ok,ov,he⟩:=Z;let⟨hg,hi⟩:=hg;let⟨h0,xs,r,h4,hl⟩:=KH I hd hg;exact NU (I.ok.hd hc) he h0 hd () λh' x=>⟨rfl,Iy I hf λc q n z=>x c q (λy=>n (AR.mpr y)) z⟩
 self:=λA i s Q E Z h=>by
  let⟨ok,ov,he⟩:=Z;calc WI he h
def R9 (I:Inv X zB Y H s) (ed:H d=some (.dT kvs)):∃ o es en,s.heap.get? d=some o/\o.data=.dict es en/\Inv X zB Y (upd H d (.frz o (.dT kvs))) s:=by
 let⟨z1,z2,xs,r,o,es',en,h1,h2,h3,h4,h5⟩:=(show Ag X.prog X.w H s.heap d (.dT kvs)from I.hok d _ ed);refine ⟨o,es',en,h1,h3,HH I (by rw[ed];calc True.intro) (Heap.SameBut.refl _ _) ⟨o,h1⟩ ⟨h1,z1,z2,xs,KT.keeps r λc ys ec=>?_,o,es',en,h1,h2,h3,h4,h5⟩⟩;rw[zU (DT ec ed (λz=>nomatch z))];calc ec
def VY (h:Bu d=some k):Rep L H d (kV k):=by
 cases d with
 |int i=>ext h;erw[Rep];rfl
 |str x=>ext h;erw[Rep];rfl
 |_=>ext h
theorem Sf:∀ {ds:List D} {ks:List Key},C1 ds=some ks->zI L H ds (ks.map kV)
 |[],ks,h=>by ext h;calc .nil
 |d::ds,ks,h=>by
  erw[C1]at h;cases e1:Bu d with
  |none=>rw[e1]at h;ext h
  |some k=>
   cases e2:C1 ds with
   |none=>rw[e1,e2]at h;ext h
   |some ks'=>rw[e1,e2]at h;ext h;calc .cons (VY e1) (Sf e2)
def Lx (h:tkD d=some k) (e:H b=some (.tup (k.map kV))):Rep L H d (.ref b):=by
 cases d with
 |tup ds=>erw[Rep];calc ⟨b,_,rfl,e,Sf h⟩
 |_=>ext h
theorem NR:∀ {ps:List (D × D)} {vs:List (List Key × V)} {i:Nat} {p:D × D},AQ tkD L H ps vs->ps[i]?=some p -> ∃ k x,vs[i]?=some (k,x)/\tkD p.1=some k/\Rep L H p.2 x
 |[],_,i,p,_,e=>by ext e
 |q::ps,vs,i,p,h,e=>by
  let⟨k,v,r',rfl,e1,h1,h2⟩:=h;cases i with
  |zero=>ext e;calc ⟨k,v,rfl,e1,h1⟩
  |succ j=>calc NR (i:=j) h2 (by rw[List.getElem?_cons_succ]at e;calc e)
def Np (hd:(d==sysModules)=false) (hT:s.TypeIs (.ref d) "dict") (ho:s.heap.get? d=some o) (hdat:o.data=.dict es ep)
  (hQ:Q (.ref ⇑s) { s with heap:=s.heap.push { cls:=.type "dict_keyiterator", data:=.fields #[.ref d,.int 0 0,.int es.size 0,.int ep 0] } }):wpAny (model prog w) A (pyIter (.ref d)) Q E s:=by
 calc wpAny_pyIter_slot hT F.slot_dict_iter (BQ F.slot_dict_iter hT F.entry_dict_iter ?_ (F.args_dict_iter_1 _));unfold Builtin.«dict.__iter__»;calc AA ?_;erw[Builtin.Dict.dictSlotNone];calc AA (wpAny_notOrdered_dict hT ?_);calc AB ?_;show wpAny _ _ (Builtin.Dict.showsAll d >>= _) _ _ s;erw[Builtin.Dict.showsAll];rw[AE (by rw[hd];calc Ab)];calc AA (AB (AA (wpAny_dictEntries ho hdat (AA (wpAny_dictEpoch ho hdat ?_)))));calc AA (BI (AB ⟨_,rfl, "dict_keyiterator", _,⟨_,AM _ rfl,rfl⟩,F.slot_dict_keyiterator_next.lookup,?_⟩));simpa [rawInt] using hQ
def SA (hit:s.heap.IsKeyIter it d i es.size ep) (hod:s.heap.get? d=some o) (hdd:o.data=.dict es ep) (hx:es[i]?=some e)
  (hQ:∀ h',h'.IsKeyIter it d (i+1) es.size ep->Heap.SameBut it s.heap h'->Q (some e.key) { s with heap:=h' }):wpAny (model prog w) A (pyNext (.ref it)) Q E s:=by
 let⟨q,ho,hc,hd⟩:=id hit;let⟨hlt,hxe⟩:=Array.getElem?_eq_some_iff.mp hx;erw[pyNext];calc AA (DM (CG hit.typeIs F.slot_dict_keyiterator_next (BQ F.slot_dict_keyiterator_next hit.typeIs F.entry_dict_keyiterator_next ?_ (F.args_dict_keyiterator_next_1 _))));calc AA (AB (AA (AA ?_)));first|refine AA (wpAny_typeNameOfWhole_keyiter hit.typeIs (AB ?_))|refine AA (wpAny_typeNameOf_keyiter hit.typeIs (AB ?_))
 calc AA (wpAny_fieldsOf ho hd ?_);simp only[show Builtin.Dict_items.ownsTuple "dict_keyiterator" = false by decide,C0,if_false];show wpAny _ _ (if (Value.ref d==Value.none)=true then _ else _) _ _ s;rw[AE (show ¬ ((Value.ref d==Value.none)=true)from Ab)];calc AA (AB (AA (wpAny_dictEntries hod hdd ?_)));rw[AE (by simp)];calc AA (AB (AA (wpAny_dictEpoch hod hdd ?_)));rw[AE (by simp)];calc AB ?_;simp only[show ¬ ((i:Int)<0)from by omega,if_false,Bt,Co hlt,hxe];calc AA ?_;first|refine AA (wpAny_typeNameOfWhole_keyiter hit.typeIs (AB ?_))|refine AA (wpAny_typeNameOf_keyiter hit.typeIs (AB ?_))
 refine AA (wpAny_isOneOf_keyiter hit.typeIs ?_);show wpAny _ _ (setField (.ref it) 1 (rawInt ((i:Int)+1)) >>= _) _ _ s;refine AA (Dt ho hd (by simp) ?_);let hit':(s.heap.update it (Obj.mapFields (·.setIfInBounds 1 (rawInt ((i:Int)+1))))).IsKeyIter it d (i+1) es.size ep :=
  ⟨_,EN _ ho (Obj.isFreed_of_fields (Dx hd _)),(Obj.cls_mapFields ..).trans hc,by rw[Dx hd];simp[rawInt]⟩
 calc AA (CD (AA (wpAny_isOneOf_keyiter hit'.typeIs ?_)));calc AB (AB ⟨_,rfl,AB (hQ _ hit' (Cy ..))⟩)
def Rz (hh:A.handled=none) (hit:s.heap.IsKeyIter it d i es.size ep) (hod:s.heap.get? d=some o) (hdd:o.data=.dict es ep) (hge:es.size<=i)
  (hQ:∀ h',Heap.ExtBut it s.heap h'->Q none { s with heap:=h' }):wpAny (model prog w) A (pyNext (.ref it)) Q E s:=by
 let⟨q,ho,hc,hd⟩:=id hit;erw[pyNext];calc AA (DM (CG hit.typeIs F.slot_dict_keyiterator_next (BQ F.slot_dict_keyiterator_next hit.typeIs F.entry_dict_keyiterator_next ?_ (F.args_dict_keyiterator_next_1 _))));calc AA (AB (AA (AA ?_)));first|refine AA (wpAny_typeNameOfWhole_keyiter hit.typeIs (AB ?_))|refine AA (wpAny_typeNameOf_keyiter hit.typeIs (AB ?_))
 calc AA (wpAny_fieldsOf ho hd ?_);simp only[show Builtin.Dict_items.ownsTuple "dict_keyiterator" = false by decide,C0,if_false];show wpAny _ _ (if (Value.ref d==Value.none)=true then _ else _) _ _ s;rw[AE (show ¬ ((Value.ref d==Value.none)=true)from Ab)];calc AA (AB (AA (wpAny_dictEntries hod hdd ?_)));rw[AE (by simp)];calc AA (AB (AA (wpAny_dictEpoch hod hdd ?_)));rw[AE (by simp)];calc AB ?_;simp only[show ¬ ((i:Int)<0)from by omega,if_false,Bt,Array.getElem?_eq_none hge];calc AA ?_;first|refine AA (wpAny_typeNameOfWhole_keyiter hit.typeIs (AB ?_))|refine AA (wpAny_typeNameOf_keyiter hit.typeIs (AB ?_))
 show wpAny _ _ (setField (.ref it) 0 .none >>= _) _ _ s;calc AA (Dt ho hd (by simp) ?_);calc AA ?_;simp only[newExc,newTuple];calc AA (BI ?_ (by size_fits));calc AA (wpAny_of_eq (by first|rfl|(simp only[firstArgMember];rfl)) ?_);calc BI ?_ (by size_fits);simp only[raiseNew];calc AA (wpAny_handled ?_);rw[show A.in1.handled=none from hh];calc AA (AB (wpAny_throw ?_));calc AA (wpAny_isInstance ⟨_,AM _ rfl,rfl⟩ isSubtype_stop ?_);calc AB (hQ _ (((Cy ..).extBut.push _).push _))
def iE (lo:(d==sysModules)=false) (hc:o.cls=.type "dict") (hdd:o.data=.dict es ep):PySem.W.KdlSrc prog w "dict" d d es.size (λi v=>∃ e,es[i]?=some e/\v=e.key) (λh=>h.get? d=some o) where
 type:=λ_ h=>⟨o,h,hc⟩;there:=λ_ h=>⟨AH h,AH h⟩;keep:=λ_ _ h k=>k d (.inl rfl) o h;notList:=()
 notTuple:=()
 hint:=λ_ _ _ _ h hq=>PySem.W.kdl_hint_dict ⟨o,h,hc⟩ hq
 iter:=λA s hh h=>⟨_,λi h'=>h'.IsKeyIter ⇑s d i es.size ep/\h'.get? d=some o,(λ_ _ hq=>Np lo ⟨o,h,hc⟩ h hdd hq),⟨λb hb=>by simp at hb;simp[hb],
  λ_ _ _ st hk=>⟨st.1.at λo e=>hk _ (by simp) o e,hk d (by simp) o st.2⟩,
  λi s2 Q E hi st hQ=>SA (e:=es[i]) st.1 st.2 hdd (by simp[hi]) λh' hit' hs'=>hQ _ h' s2.toks ⟨es[i],by simp[hi],rfl⟩ ⟨hit',hs'.extBut _ _ (Ad (AH h)) st.2⟩ λb q hb e=>hs'.extBut b q (λz=>hb (by simp[z])) e,
  λs2 Q E st hQ=>Rz hh st.1 st.2 hdd (AF _) λh' he'=>hQ h' s2.toks λb q hb e=>he' b q (λz=>hb (by simp[z])) e,
  λ_ _ _ _ st hQ=>wpAny_pyIter_keyiter st.1 hQ⟩,⟨⟨_,AM _ rfl,rfl,rfl⟩,AG _ h⟩⟩
theorem O7:∀ {ys:List V} {us:Yf},ys.length=us.length->(∀ (i:Nat) y u,ys[i]?=some y->us[i]?=some u->zk y u)->za ys us
 |[],[],_,_=> .nil
 |[],_::_,h,_=>by ext h
 |_::_,[],h,_=>by ext h
 |y::ys,u::us,h,q=> .cons (q 0 y u rfl rfl) (O7 (Nat.succ.inj h) λi y' u' e1 e2=>q (i+1) y' u' (~~~e1) (~~~e2))
def cA (hd:(d==sysModules)=false):MeetsIn prog w (Builtin.«dict.__len__» ⟨[.ref d],[]⟩) (λ_ R s=>∃ o es ep,s.heap.get? d=some o/\o.data=.dict es ep/\R (.ok (.ret (.int es.size s.toks))) { s with toks:=s.toks+1 }) :=
 .of_wp λA R s ⟨o,es,ep,ho,hdat,h⟩=>by
  show wpAny _ _ (dictSize d >>= _) _ _ s;erw[dictSize];calc AA (AA (wpAny_dictEntries ho hdat (AB ?_)));calc AA (wpAny_pendingCount_other hd (wpAny_ret_mkInt ?_));rw[Nat.add_zero];calc h
end L3
namespace ST
section
variable {prog:Ym} {w:Yo} {A:Yn} {E:Yc} {s:Yl} {κ:SortKind} {vs:Yf} {r:Yr}
def Cp (prog:Ym) (w:Yo) (s:Yl) (κ:SortKind) (vs:Yf) (r:Yr):Prop :=
 ∀ (A:Yn) (E:Yc) (x y:Yu) (Q:Bool->Shared->Prop),x∈vs->y∈vs->Q (decide (r x<r y)) s->wpAny (model prog w) A (keyLt' κ x y) Q E s
def Im (R:Cp prog w s κ vs r) {st:SortSt} {x y:Keyed} {Q:Option Bool->SortSt->Prop} (hk:kindOf st=κ) (hx:x.1∈vs) (hy:y.1∈vs) (h:Q (some (decide (r x.1<r y.1))) st) :
  wpS (model prog w) A E s (lt' x y) Q st:=by
 rw[lt'_eq];calc wpS_bind (wpS_get ?_);rw[hk];calc wpS_bind (wpS_lift (DM (R _ _ _ _ _ hx hy ⟨rfl,wpS_pure h⟩)))
def Zx (R:Cp prog w s κ vs r) {st:SortSt} {i j:Nat} {x y:Keyed} {Q:Option Bool->SortSt->Prop} (hk:kindOf st=κ) (ei:(arrOf st)[i]?=some x) (ej:(arrOf st)[j]?=some y) (hx:x.1∈vs) (hy:y.1∈vs)
  (h:Q (some (decide (r x.1<r y.1))) st):wpS (model prog w) A E s (ltAt' i j) Q st:=by
 rw[ltAt'_eq];calc wpS_bind (wpS_get ?_);show wpS _ _ _ _ (elem' (arrOf st) i >>= λx=>elem' (arrOf st) j >>= λy=>lt' x y) Q st;rw[elem'_eq,elem'_eq,ei,ej];calc wpS_bind (wpS_pure (wpS_bind (wpS_pure (Im R hk hx hy h))))
def Ba (h:Heap) (v:Value) (xs:List Int):Prop:=∃ b o us n,v=.ref b/\h.get? b=some o/\o.cls=.type "tuple" /\ o.data=.seq us n/\IntsAre us.toList xs
def Ba.keep (t:Ba h v xs) (k:∀ b o,v=.ref b->h.get? b=some o->h'.get? b=some o):Ba h' v xs:=by
 let⟨b,o,us,n,rfl,h1,h2,h3,h4⟩:=t;calc ⟨b,o,us,n,rfl,k b o rfl h1,h2,h3,h4⟩
def Ah:List Int->List Int->Bool
 |[],[]=>false
 |[],_::_=>true
 |_::_,[]=>false
 |x::xs,y::ys=>if x=y then Ah xs ys else decide (x<y)
def Tj (h:Q (decide (a<b)) s):wpAny (model prog w) A (oneLt' false (.int a t) (.int b u)) Q E s:=by
 rw[oneLt'_eq];simp only[C0,if_false];refine AA (richCompare_gives (typeIs_int s a t) (typeIs_int s b u) F.slot_int_lt F.entry_int_lt (F.args_int_lt_2 _ _) (gives_int_lt a b t u) (λx=>nomatch x) ?_);calc E3 h
def V8 (h:Q (decide (a<b)) s):wpAny (model prog w) A (oneLt' c (.int a t) (.int b u)) Q E s:=by
 ext c
 .exact Tj h
 .exact oneLt_int h
def VC (hx:Ba s.heap x xs) (hy:Ba s.heap y ys) (h:Q (Ah xs ys) s):wpAny (model prog w) A (keyLt' (tuples' c) x y) Q E s:=by
 let⟨a,o1,us,n1,rfl,h1,h2,h3,h4⟩:=hx;let⟨b,o2,ws,n2,rfl,g1,g2,g3,g4⟩:=hy;calc AA (listItems_at h1 h3 (AA (listItems_at g1 g3 ?_)));refine AA (wpAny_forIn_list _ (λrest c s'=>c=(none,Unit.unit)/\s'=s /\ ∃ us' ws' xs' ys' k,rest=(us'.zip ws').zipIdx k/\IntsAre us' xs'/\IntsAre ws' ys'/\Ah xs ys=Ah xs' ys'/\us.size+ws'.length=ws.size+us'.length) (λc s'=>s'=s/\Q (match c.1 with|some b=>b|none=>decide (us.size<ws.size)) s) ?turn ?fin _ _ ⟨rfl,rfl,_,_,_,_,0,rfl,h4,g4,rfl,by simp;omega⟩ |> λz=>AX z ?post λ_ _ e=>e)
 case turn=>
  rintro ⟨⟨p,q⟩,i⟩ rest c s' ⟨rfl,rfl,us',ws',xs',ys',k,e,i1,i2,e2,e3⟩;cases i1 with
  |nil=>simp at e
  | @cons n t us1 xs1 i1=>
   cases i2 with
   |nil=>simp at e
   | @cons m u ws1 ys1 i2=>
    simp only[List.zip_cons_cons,List.zipIdx_cons]at e;injection e with ea eb
    ext ea;calc AA (wpAny_eqBool_int ?_);rw[show Ah (n::xs1) (m::ys1)=if n=m then Ah xs1 ys1 else decide (n<m)from rfl]at e2;by_cases hnm:n=m
    .subst hnm;simp only[beq_self_eq_true,Bool.not_true,C0,if_false];rw[AD rfl]at e2;simp only[B4]at e3;exact AB ⟨rfl,rfl,_,_,_,_,_,eb,i1,i2,e2,()⟩
    .rw[AE hnm]at e2;have:(n==m)=false:=by simpa using hnm
     rw[this];simp only[Bool.not_false,if_true];calc AA ?_;calc V8 (AB ⟨rfl,?_⟩);rw[<-e2];exact h
 case fin=>
  rintro c s' ⟨rfl,rfl,us',ws',xs',ys',k,e,i1,i2,e2,e3⟩;refine ⟨rfl,?_⟩;let key:Ah xs ys=decide (us.size<ws.size):=by
   rw[e2];cases i1 with
   |nil=>
    cases i2 with
    |nil=>simp at e3;simp[Ah,e3]
    |cons m u i2=>simp at e3;simp[Ah];omega
   |cons n t i1=>
    cases i2 with
    |nil=>simp at e3;simp[Ah];omega
    |cons m u i2=>simp at e
  rw[<-key];exact h
 case post=>
  rintro ⟨c1,c2⟩ s' ⟨rfl,q⟩;cases c1 with
  |some b=>calc AB q
  |none=>calc AB q
theorem R0:∀ ds:List (Int × Tok),IntsAre (ds.map λp=> .int p.1 p.2) (ds.map (·.1))
 |[]=> .nil
 |p::ds=> .cons p.1 p.2 (R0 ds)
def cH (hv:Ba s.heap v (x::xs)) (h:∀ t,Q (some (.int x t)) s):wpAny (model prog w) A (firstOfTuple' v) Q E s:=by
 let⟨a,o1,us,n1,rfl,h1,h2,h3,h4⟩:=hv;calc AA (wpAny_typeOf ⟨o1,h1,h2⟩ ?_);rw[AE ()];calc AA (listItems_at h1 h3 (AB ?_));let⟨us⟩:=us;cases h4 with
 |cons n t i=>calc h t
theorem Ov:∀ {vs:Yf} {Q:List (Option Value)->Shared->Prop},(∀ v∈vs,∃ x xs,Ba s.heap v (x::xs))->(∀ ds:List (Int × Tok),ds.length=vs.length->Q (ds.map λp=>some (.int p.1 p.2)) s)->wpAny (model prog w) A (vs.mapM firstOfTuple') Q E s
 |[],Q,_,q=>by rw[List.mapM_nil];calc AB (q [] rfl)
 |v::vs,Q,h,q=>by
  rw[List.mapM_cons];let⟨x,xs,hv⟩:=h v (AZ ..);refine AA (cH hv λt=>AA (Ov (λu hu=>h u (Aq _ hu)) λds hl=>AB ?_));calc q ((x,t)::ds) (by simp[hl])
def Xu (h:∀ u∈v::vs,∃ x xs,Ba s.heap u (x::xs)) (q:Q (tuples' true) s):wpAny (model prog w) A (keyKind' (v::vs).toArray) Q E s:=by
 rw[keyKind'_eq,List.mapM_toArray];refine AA ?_;rw[map_eq_pure_bind];refine AA (Ov h λds hl=>AB ?_);rw[AD (by simp)];refine AA (Bx ?_);let e:Array.filterMap id (List.map (λp=>some (Value.int p.1 p.2)) ds).toArray=(ds.map λp=>Value.int p.1 p.2).toArray:=by
  rw[List.filterMap_toArray,List.filterMap_map];exact Bo List.toArray (List.filterMap_eq_map'▸rfl)
 rw[e,oneTypeOnly'_eq,List.mapM_toArray,mapM_typeOf_ints (R0 ds)];cases ds with
 |nil=>ext hl
 |cons d ds=>
  let hall:((List.map (λ_=>Value.type "int") (List.map (λp:Int × Tok=>Value.int p.1 p.2) (d::ds))).toArray.all λx=>x==Value.type "int")=true:=by
   simp only[List.all_toArray,List.all_map,Aj];intro _ _;rfl
  let h0:(List.map (λ_=>Value.type "int") (List.map (λp:Int × Tok=>Value.int p.1 p.2) (d::ds))).toArray[0]?=some (Value.type "int"):=by simp
  simp only[map_pure,pure_bind];rw[h0];simp only[hall,if_true,pure_bind];calc AB q
end
theorem K8:∀ x:List Int,Ah x x=false
 |[]=>rfl
 |a::x=>by rw[show Ah (a::x) (a::x)=if a=a then Ah x x else decide (a<a)from rfl,AD rfl];calc K8 x
def Qv (a b:Int) (x y:Ye):Ah (a::x) (b::y)=if a=b then Ah x y else decide (a<b):=rfl
theorem Jk:∀ {x y:Ye},Ah x y=false->Ah y x=false->x=y
 |[],[],_,_=>rfl
 |[],_::_,h,_=>by ext h
 |_::_,[],_,h=>by ext h
 |a::x,b::y,h1,h2=>by
  rw[Qv]at h1 h2;by_cases e:a=b
  .subst e;rw[AD rfl]at h1 h2;rw[Jk h1 h2]
  .rw[AE e]at h1;rw[AE (Ne.symm e)]at h2;have:=of_decide_eq_false h1;have:=of_decide_eq_false h2;omega
theorem J7:∀ {x y z:Ye},Ah x y=true->Ah y z=true->Ah x z=true
 |[],[],_,h,_=>by ext h
 |_::_,[],_,h,_=>by ext h
 |_,_::_,[],_,h=>by ext h
 |[],_::_,_::_,_,_=>rfl
 |a::x,b::y,c::z,h1,h2=>by
  rw[Qv]at h1 h2 ⊢;by_cases e:a=b
  .subst e;rw[AD rfl]at h1;by_cases e2:a=c
   .rw[AD e2]at h2 ⊢;exact J7 h1 h2
   .rw[AE e2]at h2 ⊢;exact h2
  .rw[AE e]at h1;let l1:=CZ h1;by_cases e2:b=c
   .subst e2;rw[AE e];exact h1
   .rw[AE e2]at h2;let l2:=CZ h2;rw[AE ()];calc Ap ()
def rkI (ks:Ya) (k:Ye):Nat:=ks.countP λa=>Ah a k
theorem Py {α:Type} {p q:α->Bool}:∀ {l:List α} {x:α},x∈l->p x=false->q x=true->(∀ y,p y=true->q y=true)->l.countP p<l.countP q
 |[],_,h,_,_,_=>by ext h
 |y::l,x,h,h1,h2,h3=>by
  let hm:l.countP p<=l.countP q:=List.countP_mono_left λz _ hz=>h3 z hz;rw[List.countP_cons,List.countP_cons];rcases AJ.mp h with rfl|h
  .rw[h1,h2];simp;omega
  .have:=Py h h1 h2 h3;cases hp:p y with
   |true=>rw[h3 y hp];simp;omega
   |false=>cases q y <;> simp <;> omega
def Rn {ks:Ya} {x y:Ye} (hx:x∈ks) (hy:y∈ks):Ah x y=decide (rkI ks x<rkI ks y):=by
 let go:∀ {x y:Ye},x∈ks->Ah x y=true->rkI ks x<rkI ks y:=λ{x y} hx h=>
  Py hx (K8 x) h λz hz=>J7 hz h
 cases e:Ah x y with
 |true=>calc (Ap (go hx e)).symm
 |false=>
  cases e2:Ah y x with
  |true=>have:=go hy e2;calc (Aa ()).symm
  |false=>rw[Jk e e2];calc (Aa ()).symm
section
variable {prog:Ym} {w:Yo} {A:Yn} {E:Yc} {s:Yl} {κ:SortKind} {vs:Yf}
def Ba.uniq (a:Ba h v xs) (b:Ba h v ys):xs=ys:=by
 let⟨b1,o1,us,n1,rfl,h1,h2,h3,h4⟩:=a;let⟨b2,o2,ws,n2,e,g1,g2,g3,g4⟩:=b;ext e;rw[h1]at g1;ext g1;rw[h3]at g3;ext g3;rw[<-h4.nums,<-g4.nums]
open Classical in
def Cs (h:Heap) (v:Yu):List Int:=if z:∃ xs,Ba h v xs then z.choose else []
def Fl (t:Ba h v xs):Cs h v=xs:=by
 erw[Cs];rw[dif_pos ⟨xs,t⟩];calc Ba.uniq (Classical.choose_spec (⟨xs,t⟩:∃ xs,Ba h v xs)) t
def LS (h:Heap) (vs:Yf):Prop:=∀ v∈vs,∃ x xs,Ba h v (x::xs)
def rkV (h:Heap) (vs:Yf) (v:Yu):Nat:=rkI (vs.map (Cs h)) (Cs h v)
def XW (h:LS s.heap vs):Cp prog w s (tuples' true) vs (rkV s.heap vs):=by
 intro A E x y Q hx hy q;let⟨a,as,ha⟩:=h x hx;let⟨b,bs,hb⟩:=h y hy;calc VC ha hb ?_;rw[<-Fl ha,<-Fl hb,Rn (List.mem_map_of_mem hx) (List.mem_map_of_mem hy)];calc q
def gF {F:Array Value->Prop} {a:Addr} {n:Nat} {P:Fin->Shared->Prop} (ho:s.heap.get? a=some (seqObj "list" vs.toArray n)) (hz:vs.length<=sizeLine)
  (hF:∀ out,F out->out.size=vs.length) (hs:vs.length<2->F vs.toArray)
  (hr:2<=vs.length -> ∀ h6:Heap,(∀ b o,b≠a->s.heap.get? b=some o->h6.get? b=some o)->(∀ (A:Yn) (E:Yc) (Q:SortKind->Shared->Prop),Q κ { s with heap:=h6 }->wpAny (model prog w) A (keyKind' vs.toArray) Q E { s with heap:=h6 }) /\
   ∀ (A:Yn) (E:Yc),wpS (model prog w) A E { s with heap:=h6 } sortRuns' (λ_ st=>failedOf st=none/\F ((arrOf st).map (·.2))) (SortSt.mk' κ (pairsOf vs) #[] 7 none))
  (h:∀ out,F out->P (.done (.ret .none)) { s with heap:=sortedHeap s.heap a vs out }):wpAny (model prog w) A (Builtin.«list.sort» ⟨[.ref a],[]⟩) P E s:=by
 let ha:a<⇑s:=AH ho;rw[list_sort_plain];refine AA (listItems_at ho rfl (AA (listUpdate_at ho rfl ?_)));obtain ⟨e1,o1⟩:∃ e,(s.heap.update a (Obj.mapSeq λ_=> #[])).get? a=some (seqObj "list" #[] e):=⟨_,get?_update_seq ho λ_=> #[]⟩;refine AA (seqEpoch_at o1 rfl (AA (wpAny_newTuple ?_ (~~~hz))));refine AA (wpAny_newList (CD ?_));generalize hH:((s.heap.update a (Obj.mapSeq λ_=> #[])).push (seqObj "tuple" vs.toArray 0)).push (seqObj "list" #[] 0)=h6;let k6:∀ b o,b≠a->s.heap.get? b=some o->h6.get? b=some o:=λb o hb e=>by
  rw[<-hH];exact AG _ (AG _ ((EF _ _ (Ne.symm hb)).trans e))
 let o6:h6.get? a=some (seqObj "list" #[] e1):=by rw[<-hH];exact AG _ (AG _ o1)
 let fin:∀ st:SortSt,failedOf st=none->F ((arrOf st).map (·.2))->wpAny (model prog w) A (do
   let t:=(<- seqEpoch a) != e1;Builtin.List.listUpdate (.ref a) λ_=>(arrOf st).map (·.2);if let some e:=failedOf st then rule "list.sort.comparison-raised"; throw e
   if t then rule "list.sort.modified"; raiseError "ValueError" "list modified during sort"
   ret .none) P E { s with heap:=h6 }:=by
  intro st h1 h2;calc AA (seqEpoch_at o6 rfl (AA (listUpdate_at o6 rfl ?_ (hsz2:=by show (Array.map _ _).size<=_;rw[hF _ h2];omega))));rw[h1];simp only[bne_self_eq_false,C0,if_false];calc AB ?_;have:=h _ h2;erw[sortedHeap]at this;rw[hH]at this;exact this
 dsimp only;by_cases h2:vs.toArray.size<2
 .rw[AD h2,AD h2];refine AA (AB ?_);rw[StateT.run_pure];refine AA (AB ?_);refine fin (SortSt.mk' general' (vs.toArray.zip vs.toArray) #[] 7 none) rfl ?_;let e:((vs.toArray.zip vs.toArray).map (·.2))=vs.toArray:=by
   apply Array.toList_inj.mp;rw[Array.toList_map,Array.toList_zip,List.map_snd_zip (AF _)]
  rw[e];exact hs (~~~h2)
 .rw[AE h2,AE h2];let⟨g1,g2⟩:=hr (by simp at h2;omega) h6 k6;calc AA (g1 _ _ _ ?_);refine AA (AX (g2 _ _) ?_ λ_ _ e=>e);rintro ⟨⟨⟩,st⟩ s' ⟨rfl,h3,h4⟩;calc fin st h3 h4
def T8 (K:PySem.W.KdlSrc prog w T r d n P OK) (hh:A.handled=none) (hok:OK s.heap) (hSr:S≠r) (hSd:S≠d) (hS:s.heap.get? S=some { cls:=.type "list", data:=.seq #[] })
  (hR:∀ h' tk acc c',(∀ b u,b≠S->s.heap.get? b=some u->h'.get? b=some u)->h'.get? S=some { cls:=.type "list", dict:=none,data:=.seq acc c',slots:=#[] }->ItemsOf P acc n->R (.ok (.ret (.ref S))) { s with heap:=h',toks:=tk }) (hn:n<=sizeLine):codeAny (model prog w) A (.builtin "list.__iadd__" ⟨[.ref S,.ref r],[]⟩) R s:=by
 calc Ez F.entry_list_iadd ?_;rw[Fy F.plain_list_iadd _];calc PySem.W.kdl_extend K hh hok S hSr hSd (.ref S) 0 hS hR hn
def iD (K:PySem.W.KdlSrc prog w T r d n P OK) (hh:A.handled=none) (hok:OK s.heap) (hn:n<=sizeLine)
  (hQ:∀ h' tk acc,(∀ b u,s.heap.get? b=some u->h'.get? b=some u)->⇑s<=h'.objs.size->ItemsOf P acc n->Q acc.toList { s with heap:=h',toks:=tk }):wpAny (model prog w) A (collect (.ref r)) Q E s:=by
 erw[collect];calc AA (wpAny_runValue (Ez F.entry_proto_collect ?_));rw[Fy F.plain_proto_collect _];let hlt:=K.there _ hok;refine AA (BI (AB ⟨plainId_quiet F.plain_list_iadd _,T8 K hh (K.keep _ _ hok λb _ o e=>AG _ e) (Cz hlt.1) (Cz hlt.2) (AM _ rfl) (λh' tk acc c' hk hS' hacc=>?_) hn⟩));calc AA (wpAny_load hS' (AB (hQ h' tk acc (λb u e=>hk b u (Ad (AH e)) (AG _ e)) (Ce (AH hS')) hacc)))
end
end ST
namespace L3
open L2 ST
def kkI (xs:Ye):List Key:=xs.map .inl
def Xt:D->Option (List Int)
 |.tup ds=>BS ds
 |_=>none
def G8:List D->Option (List (List Int))
 |[]=>some []
 |d::r=>match Xt d,G8 r with
  |some x,some xs=>some (x::xs)
  |_,_=>none
theorem Mz:∀ {ds:List D} {xs:Ye},BS ds=some xs->C1 ds=some (kkI xs)
 |[],_,h=>by ext h;rfl
 |.int i::r,xs,h=>by
  erw[BS]at h;cbv at h
  .rename_i bs e;ext h;erw[C1];rw[Mz e];rfl
  .cases h
 |.non::_,_,h=>by ext h
 |.bl _::_,_,h=>by ext h
 |.str _::_,_,h=>by ext h
 |.tup _::_,_,h=>by ext h
 |.ref _::_,_,h=>by ext h
 |.fn _ _::_,_,h=>by ext h
theorem Q4:∀ {ps:List (D × D)} {ts:Ya} {kvs:List (List Key × V)},G8 (ps.map (·.1))=some ts->AQ tkD L H ps kvs->kvs.map (·.1)=ts.map kkI
 |[],_,_,h,r=>by ext h;erw[AQ]at r;subst r;rfl
 | (d,e)::ps,ts,kvs,h,r=>by
  rw[Af]at h;erw[G8]at h;cbv at h
  .rename_i x xs h1 h2;ext h;let⟨k,v,r',rfl,e1,_,r2⟩:=r;rw[Af,Af,Q4 h2 r2];cases d with
   |tup ds=>
    let e1':C1 ds=some k:=e1;rw[Mz h1]at e1';ext e1';rfl
   |_=>ext h1
  .cases h
theorem Pa:∀ {xs:Ye} {its:Yf},za ((kkI xs).map kV) its->IntsAre its xs
 |[],_,h=>by ext h;calc .nil
 |x::xs,_,h=>by
  cases h with
  |cons r1 r2=>let⟨t,rfl⟩:=r1;calc .cons _ _ (Pa r2)
section
variable {X:Cx}
def gU (o:Ag P w H h b (.tup ((kkI xs).map kV))):Ba h (.ref b) xs:=by
 let⟨_,its,r,o,e,c,⟨n,d⟩,_⟩:=o;calc ⟨b,o,its.toArray,n,rfl,e,c,d,by simpa using Pa r⟩
end
end L3
namespace ST
def R3:Bool->Keyed->Array Keyed->Nat->Nat->Nat->StateT SortSt Sem (Option Nat):=sortPriv% PySem.Builtin.gallop
def Ur:Array Keyed->Array Keyed->StateT SortSt Sem (Array Keyed):=sortPriv% PySem.Builtin.mergeLo
def aK:Array Keyed->Array Keyed->StateT SortSt Sem (Array Keyed):=sortPriv% PySem.Builtin.mergeHi
section
variable {prog:Ym} {w:Yo} {A:Yn} {E:Yc} {s:Yl} {κ:SortKind} {vs:Yf} {r:Yr}
def zr {arr:Array Keyed} {i:Nat} {p:Keyed} {st:SortSt} {Q:Keyed->SortSt->Prop} (h:arr[i]?=some p) (q:Q p st):wpS (model prog w) A E s (elem' arr i) Q st:=by
 rw[elem'_eq,h];calc wpS_pure q
def Kx (bey:Nat->StateT SortSt Sem (Option Bool)) (n a0 b0:Nat):StateT SortSt Sem (Option Nat):=do
 let mut a:=a0
 let mut b:=b0
 for _ in [0:n] do
  if a≥b then break
  let m:=a+(b-a) / 2
  let some up <- bey m|return none
  if up then a:=m+1 else b:=m
 return some b
def V1 {bey:Nat->StateT SortSt Sem (Option Bool)} {b:Nat->Bool} {n lo hi:Nat} {st:SortSt} {Q:Option Nat->SortSt->Prop} (hb:∀ i,i<n -> ∀ Q':Option Bool->SortSt->Prop,Q' (some (b i)) st->wpS (model prog w) A E s (bey i) Q' st)
  (mono:∀ i j,i<=j->j<n->b j=true->b i=true) (hlo:lo<=hi) (hhi:hi<=n) (h1:∀ i,i<lo->b i=true) (h2:∀ i,hi<=i->i<n->b i=false)
  (h:∀ k,k<=n->(∀ i,i<k->b i=true)->(∀ i,k<=i->i<n->b i=false)->Q (some k) st):wpS (model prog w) A E s (Kx bey n lo hi) Q st:=by
 erw[Kx];refine wpS_bind (wpS_mono (wpS_forRange (I:=λx c st'=>st'=st /\ ∃ lo hi,c=(none,lo,hi)/\lo<=hi/\hi<=n/\hi-lo<=n-x/\(∀ i,i<lo->b i=true)/\(∀ i,hi<=i->i<n->b i=false)) (Q:=λc st'=>st'=st /\ ∃ k,c=(none,k,k)/\k<=n/\(∀ i,i<k->b i=true)/\(∀ i,k<=i->i<n->b i=false)) ?step ?fin ⟨rfl,lo,hi,rfl,hlo,hhi,(),h1,h2⟩) ?post)
 case step=>
  rintro x c st' _ hx ⟨rfl,lo,hi,rfl,q1,q2,q3,q4,q5⟩;dsimp only;by_cases hge:lo≥hi
  .rw[AD hge];have:lo=hi:=()
   subst this;exact wpS_pure ⟨rfl,lo,rfl,q2,q4,q5⟩
  .rw[AE hge];calc wpS_bind (hb _ () _ ?_);dsimp only;cases e:b (lo+(hi-lo) / 2) with
   |true=>
    rw[AD rfl];exact wpS_pure ⟨rfl,_,_,rfl,(),q2,(),λi hi'=>mono i _ () () e,q5⟩
   |false=>
    rw[AE ()];refine wpS_pure ⟨rfl,_,_,rfl,(),(),(),q4,λi h3 h4=>?_⟩;cases e2:b i with
    |false=>rfl
    |true=>rw[mono _ i h3 h4 e2]at e;ext e
 case fin=>
  rintro c st' ⟨rfl,lo,hi,rfl,q1,q2,q3,q4,q5⟩;have:lo=hi:=()
  subst this;exact ⟨rfl,lo,rfl,q2,q4,q5⟩
 case post=>
  rintro c st' ⟨rfl,k,rfl,q2,q4,q5⟩;calc wpS_pure (h k q2 q4 q5)
def gK {left:Bool} {key:Keyed} {arr:Array Keyed} {base n hint:Nat} {b:Nat->Bool} {st:SortSt} {Q:Option Nat->SortSt->Prop} (hh:hint<n)
  (hb:∀ i,i<n -> ∀ Q':Option Bool->SortSt->Prop,Q' (some (b i)) st->wpS (model prog w) A E s (do let x <- elem' arr (base+i);if left=true then lt' x key else do let y <- lt' key x;pure (y.map (!·))) Q' st)
  (mono:∀ i j,i<=j->j<n->b j=true->b i=true)
  (h:∀ k,k<=n->(∀ i,i<k->b i=true)->(∀ i,k<=i->i<n->b i=false)->Q (some k) st):wpS (model prog w) A E s (R3 left key arr base n hint) Q st:=by
 let no:∀ {i j},i<=j->j<n->b i=false->b j=false:=λ{i j} h1 h2 e=>by
  cases e2:b j with
  |false=>rfl
  |true=>rw[mono i j h1 h2 e2]at e;ext e
 let go:∀ lo hi,lo<=hi->hi<=n->(∀ i,i<lo->b i=true)->(∀ i,hi<=i->i<n->b i=false)->wpS (model prog w) A E s (Kx (λi=>do let x <- elem' arr (base+i);if left=true then lt' x key else do let y <- lt' key x;pure (y.map (!·))) n lo hi) Q st :=
  λlo hi a1 a2 a3 a4=>V1 hb mono a1 a2 a3 a4 h
 calc wpS_bind (hb hint hh _ ?_);cases e:b hint with
 |true=>
  refine wpS_bind (wpS_mono (wpS_forRange (I:=λx c st'=>st'=st /\ ∃ la of,c=(none,la,of)/\la<of/\x+1<=of/\la<n-hint/\b (hint+la)=true) (Q:=λc st'=>st'=st /\ ∃ la of,c=(none,la,of)/\la<of/\la<n-hint/\b (hint+la)=true/\(n-hint<=of\/b (hint+of)=false)) ?step ?fin ⟨rfl,0,1,rfl,(),(),(),e⟩) ?post)
  case step=>
   rintro x c st' _ hx ⟨rfl,la,of,rfl,q1,q2,q3,q4⟩;dsimp only;by_cases hge:of≥n-hint
   .rw[AD hge];exact wpS_pure ⟨rfl,la,of,rfl,q1,q3,q4,.inl hge⟩
   .rw[AE hge];calc wpS_bind (hb _ () _ ?_);dsimp only;cases e2:b (hint+of) with
    |true=>
     rw[AE ()];calc wpS_pure ⟨rfl,of,2*of+1,rfl,(),(),(),e2⟩
    |false=>
     rw[AD ()];exact wpS_pure ⟨rfl,la,of,rfl,q1,q3,q4,.inr e2⟩
  case fin=>
   rintro c st' ⟨rfl,la,of,rfl,q1,q2,q3,q4⟩;exact ⟨rfl,la,of,rfl,q1,q3,q4,.inl ()⟩
  case post=>
   rintro c st' ⟨rfl,la,of,rfl,q1,q3,q4,q5⟩;refine go (hint+la+1) (hint+min of (n-hint)) () () (λi hi=>mono i (hint+la) () () q4) (λi h1 h2=>?_);rcases q5 with q5|q5
   .omega
   .by_cases hc:n-hint<=of
    .omega
    .exact no (i:=hint+of) () h2 q5
 |false=>
  refine wpS_bind (wpS_mono (wpS_forRange (I:=λx c st'=>st'=st /\ ∃ la of,c=(none,la,of)/\la<of/\x+1<=of/\la<hint+1/\b (hint-la)=false) (Q:=λc st'=>st'=st /\ ∃ la of,c=(none,la,of)/\la<of/\la<hint+1/\b (hint-la)=false/\(hint+1<=of\/b (hint-of)=true)) ?step ?fin ⟨rfl,0,1,rfl,(),(),(),e⟩) ?post)
  case step=>
   rintro x c st' _ hx ⟨rfl,la,of,rfl,q1,q2,q3,q4⟩;by_cases hge:of≥hint+1
   .rw[AD hge];exact wpS_pure ⟨rfl,la,of,rfl,q1,q3,q4,.inl hge⟩
   .rw[AE hge];calc wpS_bind (hb _ () _ ?_);dsimp only;cases e2:b (hint-of) with
    |true=>
     rw[AD rfl];calc wpS_pure ⟨rfl,la,of,rfl,q1,q3,q4,.inr e2⟩
    |false=>
     rw[AE ()];exact wpS_pure ⟨rfl,of,2*of+1,rfl,(),(),(),e2⟩
  case fin=>
   rintro c st' ⟨rfl,la,of,rfl,q1,q2,q3,q4⟩;exact ⟨rfl,la,of,rfl,q1,q3,q4,.inl ()⟩
  case post=>
   rintro c st' ⟨rfl,la,of,rfl,q1,q3,q4,q5⟩;refine go (hint+1-min of (hint+1)) (hint-la) () () (λi hi=>?_) (λi h1 h2=>no (i:=hint-la) () h2 q4);rcases q5 with q5|q5
   .omega
   .by_cases hc:hint+1<=of
    .omega
    .exact mono i (hint-of) () () q5
end
structure MI (le:Keyed->Keyed->Prop) (C out l m:List Keyed):Prop where
 perm:(out++(l++m)).Perm C
 so:out.Pairwise le
 sl:l.Pairwise le
 sm:m.Pairwise le
 ol:∀ x∈out,∀ y∈l,le x y
 om:∀ x∈out,∀ y∈m,le x y
section
variable {le:Keyed->Keyed->Prop} {C out l m p:List Keyed}
def MI.takeL (h:MI le C out (p++l) m) (hp:∀ x∈p,∀ y∈m,le x y):MI le C (out++p) l m:=by
 let sl:=List.pairwise_append.mp h.sl;refine ⟨by have:=h.perm;simpa using this,List.pairwise_append.mpr ⟨h.so,sl.1,λx hx y hy=>h.ol x hx y (Cm _ hy)⟩,sl.2.1,h.sm,λx hx y hy=>?_,λx hx y hy=>?_⟩
 .rcases AO.mp hx with z|z
  .exact h.ol x z y (Ax _ hy)
  .exact sl.2.2 x z y hy
 .rcases AO.mp hx with z|z
  .exact h.om x z y hy
  .exact hp x z y hy
def MI.takeR (h:MI le C out l (p++m)) (hp:∀ x∈p,∀ y∈l,le x y):MI le C (out++p) l m:=by
 let sm:=List.pairwise_append.mp h.sm;refine ⟨?_,List.pairwise_append.mpr ⟨h.so,sm.1,λx hx y hy=>h.om x hx y (Cm _ hy)⟩,h.sl,sm.2.1,λx hx y hy=>?_,λx hx y hy=>?_⟩
 .refine List.Perm.trans ?_ h.perm;rw[B7];calc List.Perm.append_left _ ?_;rw[<-B7,<-B7];exact List.Perm.append_right _ List.perm_append_comm
 .rcases AO.mp hx with z|z
  .exact h.ol x z y hy
  .exact hp x z y hy
 .rcases AO.mp hx with z|z
  .exact h.om x z y (Ax _ hy)
  .exact sm.2.2 x z y hy
def Mgd (le:Keyed->Keyed->Prop) (C:List Keyed) (out:List Keyed):Prop:=out.Perm C/\out.Pairwise le
def MI.endL (h:MI le C out l []):Mgd le C (out++l):=⟨by have:=h.perm;simpa using this,List.pairwise_append.mpr ⟨h.so,h.sl,h.ol⟩⟩
def MI.endR (h:MI le C out [] m):Mgd le C (out++m):=⟨by have:=h.perm;simpa using this,List.pairwise_append.mpr ⟨h.so,h.sm,h.om⟩⟩
def MI.last (h:MI le C out l m) (hl:∀ y∈m,∀ x∈l,le y x):Mgd le C (out++m++l):=by
 let h2:MI le C (out++m) l []:=MI.takeR (~~~h) hl;calc h2.endL
end
section
variable {prog:Ym} {w:Yo} {A:Yn} {E:Yc} {s:Yl} {κ:SortKind} {vs:Yf} {r:Yr}
abbrev leR (r:Yr) (x y:Keyed):Prop:=r x.1<=r y.1
abbrev geR (r:Yr) (x y:Keyed):Prop:=r y.1<=r x.1
structure SameS (st st':SortSt):Prop where
 k:kindOf st'=kindOf st
 a:arrOf st'=arrOf st
 p:pendingOf st'=pendingOf st
 f:failedOf st'=failedOf st
def SameS.refl (st:SortSt):SameS st st:=⟨rfl,rfl,rfl,rfl⟩
def G5 (R:Cp prog w s κ vs r) {left:Bool} {key:Keyed} {arr:Array Keyed} {base n hint:Nat} {st:SortSt} {Q:Option Nat->SortSt->Prop} (hk:kindOf st=κ) (hkey:key.1∈vs) (harr:∀ i,i<n -> ∃ x,arr[base+i]?=some x/\x.1∈vs)
  (srt:∀ i j x y,i<=j->j<n->arr[base+i]?=some x->arr[base+j]?=some y->r x.1<=r y.1) (hh:hint<n)
  (h:∀ k,k<=n->(∀ i x,i<k->arr[base+i]?=some x->if left then r x.1<r key.1 else r x.1<=r key.1)->(∀ i x,k<=i->i<n->arr[base+i]?=some x->if left then r key.1<=r x.1 else r key.1<r x.1)->Q (some k) st) :
  wpS (model prog w) A E s (R3 left key arr base n hint) Q st:=by
 letI b:Nat->Bool:=λi=>match arr[base+i]? with
  |some x=>if left then decide (r x.1<r key.1) else decide (r x.1<=r key.1)
  |none=>false
 let bx:∀ {i x},arr[base+i]?=some x->b i=if left then decide (r x.1<r key.1) else decide (r x.1<=r key.1):=λ{i x} e=>by
  show (match arr[base+i]? with|some x=>_|none=>_)=_;rw[e]
 refine gK (b:=b) hh (λi hi Q' q=>?_) (λi j hij hj e=>?_) λk hk h1 h2=>h k hk (λi x hi e=>?_) (λi x hi hn e=>?_)
 .obtain ⟨x,ex,hx⟩:=harr i hi;rw[bx ex]at q;calc wpS_bind (zr ex ?_);cases left with
  |true=>
   rw[AD rfl]at q ⊢;calc Im R hk hx hkey q
  |false=>
   rw[AE ()]at q ⊢;refine wpS_bind (Im R hk hkey hx (wpS_pure ?_));have:(!decide (r key.1<r x.1))=decide (r x.1<=r key.1):=by
    by_cases z:r key.1<r x.1
    .rw[Ap z,Aa ()];rfl
    .rw[Aa z,Ap ()];rfl
   show Q' (some (!decide (r key.1<r x.1))) st;rw[this];exact q
 .obtain ⟨x,ex,_⟩:=harr i ();let⟨y,ey,_⟩:=harr j hj;have:=srt i j x y hij hj ex ey;rw[bx ex];rw[bx ey]at e;cases left with
  |true=>rw[AD rfl]at e ⊢;have:=CZ e;calc Ap ()
  |false=>rw[AE ()]at e ⊢;have:=CZ e;exact Ap ()
 .have q:=h1 i hi;rw[bx e]at q;cases left with
  |true=>rw[AD rfl]at q ⊢;calc CZ q
  |false=>rw[AE ()]at q ⊢;exact CZ q
 .have q:=h2 i hi hn;rw[bx e]at q;cases left with
  |true=>rw[AD rfl]at q ⊢;have:=of_decide_eq_false q;omega
  |false=>rw[AE ()]at q ⊢;have:=of_decide_eq_false q;omega
def ML (r:Yr) (a b out:Array Keyed) (ia ib:Nat):Prop:=MI (leR r) (a.toList++b.toList) out.toList (a.toList.drop ia) (b.toList.drop ib)
variable {a b out:Array Keyed} {ia ib:Nat}
def KD (e:a[i]?=some x):a.toList.drop i=x::a.toList.drop (i+1):=by
 let⟨hi,rfl⟩:=Array.getElem?_eq_some_iff.mp e;rw[List.drop_eq_getElem_cons (~~~hi)];simp
def Ml (h:x∈a.toList.drop i):∃ j,i<=j/\a[j]?=some x:=by
 let⟨j,e⟩:=List.mem_iff_getElem?.mp h;rw[List.getElem?_drop,BZ]at e;calc ⟨i+j,(),e⟩
def ML.pushB (h:ML r a b out ia ib) (e:b[ib]?=some y) (hy:∀ x∈a.toList.drop ia,r y.1<=r x.1):ML r a b (out.push y) ia (ib+1):=by
 unfold ML at h ⊢;rw[KD e]at h;rw[Array.toList_push];exact MI.takeR h λx hx z hz=>by rw[AR.mp hx];calc hy z hz
def ML.pushA (h:ML r a b out ia ib) (e:a[ia]?=some x) (hx:∀ y∈b.toList.drop ib,r x.1<=r y.1):ML r a b (out.push x) (ia+1) ib:=by
 unfold ML at h ⊢;rw[KD e]at h;rw[Array.toList_push];exact MI.takeL h λy hy z hz=>by rw[AR.mp hy];calc hx z hz
def Md (a:Array Keyed) (i k:Nat):(a.extract i (i+k)).toList=(a.toList.drop i).take k:=by
 rw[Array.toList_extract,List.extract_eq_take_drop];simp
def ML.blockA (h:ML r a b out ia ib) (k:Nat) (hx:∀ x∈(a.toList.drop ia).take k,∀ y∈b.toList.drop ib,r x.1<=r y.1):ML r a b (out++a.extract ia (ia+k)) (ia+k) ib:=by
 unfold ML at h ⊢;rw[Array.toList_append,Md];rw[<-Ep k (a.toList.drop ia),List.drop_drop]at h;calc MI.takeL h hx
def ML.blockB (h:ML r a b out ia ib) (k:Nat) (hx:∀ x∈(b.toList.drop ib).take k,∀ y∈a.toList.drop ia,r x.1<=r y.1):ML r a b (out++b.extract ib (ib+k)) ia (ib+k):=by
 unfold ML at h ⊢;rw[Array.toList_append,Md];rw[<-Ep k (b.toList.drop ib),List.drop_drop]at h;calc MI.takeR h hx
def Jj (a:Array Keyed) (i:Nat):(a.extract i a.size).toList=a.toList.drop i:=by
 rw[Array.toList_extract,List.extract_eq_take_drop,Gq (by simp)]
def ML.done (h:ML r a b out ia ib) (e:a.size<=ia\/b.size<=ib):Mgd (leR r) (a.toList++b.toList) (out++a.extract ia a.size++b.extract ib b.size).toList:=by
 erw[ML]at h;rw[Array.toList_append,Array.toList_append,Jj,Jj];rcases e with e|e
 .rw[List.drop_eq_nil_of_le (~~~e)]at h ⊢;simpa using h.endR
 .rw[List.drop_eq_nil_of_le (as:=b.toList) (~~~e)]at h ⊢;simpa using h.endL
def ML.lastA (h:ML r a b out ia ib) (hl:∀ y∈b.toList.drop ib,∀ x∈a.toList.drop ia,r y.1<=r x.1):Mgd (leR r) (a.toList++b.toList) (out++b.extract ib b.size++a.extract ia a.size).toList:=by
 erw[ML]at h;rw[Array.toList_append,Array.toList_append,Jj,Jj];calc h.last hl
def ML.headA (h:ML r a b out ia ib) (e:a[ia]?=some x):∀ z∈a.toList.drop ia,r x.1<=r z.1:=by
 have:=h.sl;rw[KD e]at this ⊢;intro z hz;rcases AJ.mp hz with q|q
 .rw[q];exact AF _
 .exact (CV.mp this).1 z q
def ML.headB (h:ML r a b out ia ib) (e:b[ib]?=some y):∀ z∈b.toList.drop ib,r y.1<=r z.1:=by
 have:=h.sm;rw[KD e]at this ⊢;intro z hz;rcases AJ.mp hz with q|q
 .rw[q];exact AF _
 .exact (CV.mp this).1 z q
end
section
variable {prog:Ym} {w:Yo} {A:Yn} {E:Yc} {s:Yl} {κ:SortKind} {vs:Yf} {r:Yr} {a b:Array Keyed}
structure Fr1 (r:Yr) (a b:Array Keyed) (st st':SortSt) (out:Array Keyed) (ia ib:Nat):Prop where
 m:ML r a b out ia ib
 s:SameS st st'
 ha:ia+1<a.size
 hb:ib<b.size
def Cr {a:Array Keyed} {i:Nat} {x:Keyed} (e:a[i]?=some x):x∈a.toList:=by
 let⟨hi,rfl⟩:=Array.getElem?_eq_some_iff.mp e;simp
def zZ {α:Type} {c:Prop} [Decidable c] {m1 m2:StateT SortSt Sem α} {Q:α->SortSt->Prop} {st:SortSt} (h1:c->wpS (model prog w) A E s m1 Q st) (h2:¬ c->wpS (model prog w) A E s m2 Q st):wpS (model prog w) A E s (if c then m1 else m2) Q st:=by
 split
 .exact h1 (by assumption)
 .exact h2 (by assumption)
def D8 {a:Array Keyed} (sa:a.toList.Pairwise (leR r)) {i j:Nat} {x y:Keyed} (hij:i<=j) (ex:a[i]?=some x) (ey:a[j]?=some y):r x.1<=r y.1:=by
 by_cases e:i=j
 .subst e;rw[ex]at ey;ext ey;exact AF _
 .obtain ⟨hi,rfl⟩:=Array.getElem?_eq_some_iff.mp ex;let⟨hj,rfl⟩:=Array.getElem?_eq_some_iff.mp ey;have:=List.pairwise_iff_getElem.mp sa i j (~~~hi) (~~~hj) ();simpa using this
def Jt (h:x∈(a.toList.drop i).take k):∃ j,j<k/\a[i+j]?=some x:=by
 let⟨j,e⟩:=List.mem_iff_getElem?.mp h;rw[List.getElem?_take]at e;cbv at e
 .rw[List.getElem?_drop,BZ]at e;exact ⟨j,by assumption,e⟩
 .cases e
def BV (h:i<a.size):a[i]?=some a[i]:=Co h
def Ao {α β:Type} {x:StateT SortSt Sem α} {f:α->StateT SortSt Sem β} {Q:β->SortSt->Prop} {st:SortSt} {S:(α->SortSt->Prop)->Prop} (h:∀ P,S P->wpS (model prog w) A E s x P st) (g:S λv st=>wpS (model prog w) A E s (f v) Q st):wpS (model prog w) A E s (x >>= f) Q st:=wpS_bind (h _ g)
set_option maxHeartbeats 4000000 in
def Zq (R:Cp prog w s κ vs r) (ha:∀ x∈a.toList,x.1∈vs) (hb:∀ x∈b.toList,x.1∈vs) (sa:a.toList.Pairwise (leR r)) (sb:b.toList.Pairwise (leR r)) (h0:0<a.size) (h1:0<b.size)
  (hf:∀ y,b[0]?=some y -> ∀ x∈a.toList,r y.1<=r x.1) (hl:∀ y∈b.toList,∀ x,a[a.size-1]?=some x->r y.1<=r x.1) {st:SortSt} (hk:kindOf st=κ) {Q:Array Keyed->SortSt->Prop}
  (h:∀ out st',SameS st st'->Mgd (leR r) (a.toList++b.toList) out.toList->Q out st'):wpS (model prog w) A E s (Ur a b) Q st:=by
 let lastA:∀ {out ia ib},ML r a b out ia ib->ia+1=a.size->Mgd (leR r) (a.toList++b.toList) (out++b.extract ib b.size++a.extract ia a.size).toList:=λ{out ia ib} m e=>m.lastA λy hy x hx=>by
  let⟨j,hj,ej⟩:=Ml hx;let hj2:=(Array.getElem?_eq_some_iff.mp ej).1;exact hl y (List.mem_of_mem_drop hy) x (by rw[show a.size-1=j by omega];calc ej)
 refine Ao (λP g=>wpS_lift (Bx ⟨rfl,g⟩)) ?_;refine Ao (λP g=>zr (BV h1) g) ?_;let m0:ML r a b #[] 0 0:=⟨List.Perm.refl _,.nil,sa,sb,(λx hx=>absurd hx (by simp)),(λx hx=>absurd hx (by simp))⟩;let m1:ML r a b #[b[0]] 0 1:=m0.pushB (BV h1) (hf _ (BV h1));refine zZ (λc1=>wpS_pure (h _ _ (.refl _) (m1.done (.inr (Nat.le_of_eq (show b.size=1 by simpa using (by simpa using c1:1=b.size).symm)))))) (λc1=>?_);refine zZ (λc2=>wpS_pure (h _ _ (.refl _) (lastA m1 (~~~c2)))) (λc2=>?_);replace c1:¬ 1=b.size:=by simpa using c1
 replace c2:¬ 0+1=a.size:=by simpa using c2
 refine Ao (λP g=>wpS_get g) ?_;refine wpS_bind (wpS_mono (wpS_forRange (I:=λx c st'=>∃ out ia ib g,c=(none,out,ia,ib,g)/\Fr1 r a b st st' out ia ib/\x+1<=ia+ib) (Q:=λc st'=>∃ res,c.1=some res/\SameS st st'/\Mgd (leR r) (a.toList++b.toList) res.toList) ?step ?fin ⟨_,_,_,_,rfl,⟨m1,.refl _,(),()⟩,()⟩) ?post)
 case fin=>
  intro c st' hI;refine qz λG=>?_;let⟨out,ia,ib,g,eI1,f,hx⟩:=hI;calc G ?_;clear G;subst eI1;have:=f.ha;have:=f.hb;omega
 case post=>
  rintro ⟨c1,c2⟩ st' ⟨res,e,hs,hm⟩;dsimp only at e;subst e;exact wpS_pure (h _ _ hs hm)
 case step=>
  intro x c st' _ hx hI;refine qz λG=>?_;let⟨out,ia,ib,g,eI1,f,hx2⟩:=hI;calc G ?_;clear G;subst eI1;dsimp only;refine Ao (λP=>wpS_mono (wpS_forRange (I:=λy c st'=>∃ out2 ia2 ib2 ca cb,c=(none,out2,ia2,ib2,ca,cb)/\Fr1 r a b st st' out2 ia2 ib2/\ia+ib+y<=ia2+ib2) (Q:=λc st'=>(∃ res,c.1=some res/\SameS st st'/\Mgd (leR r) (a.toList++b.toList) res.toList) \/ ∃ out2 ia2 ib2 ca cb,c=(none,out2,ia2,ib2,ca,cb)/\Fr1 r a b st st' out2 ia2 ib2/\ia+ib+1<=ia2+ib2) ?step1 ?fin1 ⟨_,_,_,_,_,rfl,f,()⟩)) ?post1
  case fin1=>
   intro c st' hI;refine qz λG=>?_;let⟨out2,ia,ib,ca,cb,eI1,f,hy⟩:=hI;calc G ?_;clear G;subst eI1;exact .inr ⟨_,_,_,_,_,rfl,f,()⟩
  case step1=>
   intro y c st' _ hy hI;refine qz λG=>?_;let⟨out2,ia,ib,ca,cb,eI1,f,hy2⟩:=hI;calc G ?_;clear G;subst eI1;dsimp only;let hia:ia<a.size:=by have:=f.ha;omega
   let hib:=f.hb;let eb:b[ib]?=some b[ib]:=BV hib;let ea:a[ia]?=some a[ia]:=BV hia;let hkk:kindOf st'=κ:=f.s.k.trans hk;refine Ao (λP g=>zr eb g) (Ao (λP g=>zr ea g) (Ao (λP g=>Im R hkk (hb _ (Cr eb)) (ha _ (Cr ea)) g) ?_));refine zZ (λhlt=>?_) (λhlt=>?_)
   .replace hlt:=CZ hlt;refine Ao (λP g=>zr eb g) ?_;let m2:ML r a b (out2.push b[ib]) ia (ib+1):=f.m.pushB eb λz hz=>by have:=f.m.headA ea z hz;omega
    refine zZ (λc3=>wpS_pure (.inl ⟨_,rfl,f.s,m2.done (.inr (Nat.le_of_eq (show ib+1=b.size by simpa using c3).symm))⟩)) (λc3=>?_);let f2:Fr1 r a b st st' (out2.push b[ib]) ia (ib+1):=⟨m2,f.s,f.ha,by simp at c3;omega⟩;exact zZ (λ_=>wpS_pure (.inr ⟨_,_,_,_,_,rfl,f2,()⟩)) (λ_=>wpS_pure ⟨_,_,_,_,_,rfl,f2,()⟩)
   .replace hlt:¬ _:=λh=>hlt (Ap h);refine Ao (λP g=>zr ea g) ?_;let m2:ML r a b (out2.push a[ia]) (ia+1) ib:=f.m.pushA ea λz hz=>by have:=f.m.headB eb z hz;omega
    refine zZ (λc3=>wpS_pure (.inl ⟨_,rfl,f.s,lastA m2 (~~~c3)⟩)) (λc3=>?_);let f2:Fr1 r a b st st' (out2.push a[ia]) (ia+1) ib:=⟨m2,f.s,by have:=f.ha;simp at c3;omega,f.hb⟩;exact zZ (λ_=>wpS_pure (.inr ⟨_,_,_,_,_,rfl,f2,()⟩)) (λ_=>wpS_pure ⟨_,_,_,_,_,rfl,f2,()⟩)
  case post1=>
   intro c st' hI;refine qz λG=>?_;obtain ⟨res,e,hs,hm⟩|⟨out2,ia,ib,ca,cb,e,f,hy⟩:=hI
   .obtain ⟨c2,rfl⟩:∃ c2,c=(some res,c2):=⟨c.2,by ext c;ext e;rfl⟩;exact G (wpS_pure ⟨res,rfl,hs,hm⟩)
   .refine G ?_;clear G;subst e;dsimp only;refine Ao (λP g=>wpS_lift (Bx ⟨rfl,g⟩)) ?_;refine wpS_bind (wpS_mono (wpS_forRange (I:=λy c st'=>∃ out3 ia3 ib3 g ca cb,c=(none,out3,ia3,ib3,g,ca,cb)/\Fr1 r a b st st' out3 ia3 ib3/\ia+ib<=ia3+ib3) (Q:=λc st'=>(∃ res,c.1=some res/\SameS st st'/\Mgd (leR r) (a.toList++b.toList) res.toList) \/ ∃ out3 ia3 ib3 g ca cb,c=(none,out3,ia3,ib3,g,ca,cb)/\Fr1 r a b st st' out3 ia3 ib3/\ia+ib<=ia3+ib3) ?step2 ?fin2 ⟨_,_,_,_,_,_,rfl,f,()⟩) ?post2)
    case fin2=>
     intro c st' hI;refine qz λG=>?_;let⟨out3,ia,ib,g,ca,cb,eI1,f,hy⟩:=hI;calc G ?_;clear G;subst eI1;exact .inr ⟨_,_,_,_,_,_,rfl,f,hy⟩
    case post2=>
     intro c st' hI;refine qz λG=>?_;obtain ⟨res,e,hs,hm⟩|⟨out3,ia,ib,g,ca,cb,e,f,hz⟩:=hI
     .obtain ⟨c2,rfl⟩:∃ c2,c=(some res,c2):=⟨c.2,by ext c;ext e;rfl⟩;exact G (wpS_pure ⟨res,rfl,hs,hm⟩)
     .refine G ?_;clear G;subst e;dsimp only;refine wpS_bind (wpS_modify (wpS_pure ⟨_,_,_,_,rfl,⟨f.m,⟨f.s.k,f.s.a,f.s.p,f.s.f⟩,f.ha,f.hb⟩,()⟩))
    case step2=>
     intro y c st' _ hy hI;refine qz λG=>?_;let⟨out3,ia,ib,g,ca,cb,eI1,f,hy2⟩:=hI;calc G ?_;clear G;subst eI1;let hia:ia<a.size:=by have:=f.ha;omega
     let hib:=f.hb;let eb:b[ib]?=some b[ib]:=BV hib;dsimp only;refine zZ (λcg=>?_) (λcg=>?_);clear cg;generalize g-1=g';revert g';refine ?K;rotate_left;clear cg;exact ?K _;intro g';refine Ao (λP g=>wpS_modify g) ?_;refine Ao (λP g=>zr eb g) ?_;let hs2:=f.s;refine Ao (λP=>G5 (left:=false) (key:=b[ib]) (arr:=a) (base:=ia) (n:=a.size-ia) (hint:=0) R (hs2.k.trans hk) (hb _ (Cr eb)) (λi hi=>⟨_,BV (),ha _ (Cr (BV ()))⟩) (λi j x y hij hj ex ey=>D8 sa () ex ey) ()) λk hk1 g1 g2=>?_;let aft:∀ x∈a.toList.drop (ia+k),r b[ib].1<=r x.1:=λx hx=>by
      let⟨j,hj,ej⟩:=Ml hx;let hj2:=(Array.getElem?_eq_some_iff.mp ej).1;have:=g2 (j-ia) x () () (by rw[show ia+(j-ia)=j by omega];calc ej);exact Ce this
     refine zZ (λhk0=>?_) (λhk0=>?_);let m4:=f.m.blockA k λx hx z hz=>by
      let⟨i,hi,ei⟩:=Jt hx;have:r x.1<=r b[ib].1:=g1 i x hi ei;have:=f.m.headB eb z hz;omega
     refine zZ (λc4=>wpS_pure (.inl ⟨_,rfl,⟨hs2.k,hs2.a,hs2.p,hs2.f⟩,lastA m4 (show ia+k+1=a.size by simpa using c4)⟩)) (λc4=>zZ (λc5=>wpS_pure (.inl ⟨_,rfl,⟨hs2.k,hs2.a,hs2.p,hs2.f⟩,m4.done (.inl (Nat.le_of_eq (show a.size=ia+k by simpa using (by simpa using c5:ia+k=a.size).symm)))⟩)) (λc5=>?_));let a4:ia+k+1<a.size:=by simp at c4 c5;omega
     let l4:ia<=ia+k:=Nat.le_add_right _ _;clear c4 c5 hk0;generalize out3++a.extract ia (ia+k)=o4 at m4 ⊢;generalize ia+k=i4 at m4 a4 l4 aft ⊢;revert aft;revert l4;revert a4;revert m4;revert i4;revert o4;calc ?K2;rotate_left;let hk00:k=0:=()
     exact ?K2 _ _ f.m f.ha (AF _) (λx hx=>aft x (by rw[hk00];calc hx));intro o4 i4 m4 a4 l4 aft;refine Ao (λP g=>zr eb g) ?_;let m5:=m4.pushB eb aft;refine zZ (λc6=>wpS_pure (.inl ⟨_,rfl,⟨hs2.k,hs2.a,hs2.p,hs2.f⟩,m5.done (.inr (Nat.le_of_eq (show ib+1=b.size by simpa using c6).symm))⟩)) (λc6=>?_);let c6':ib+1<b.size:=by simp at c6;omega
     let ea4:=BV (Nat.lt_of_succ_lt a4);refine Ao (λP g=>zr ea4 g) ?_;refine Ao (λP=>G5 (left:=true) (arr:=b) (base:=ib+1) (n:=b.size-(ib+1)) (hint:=0) R (hs2.k.trans hk) (ha _ (Cr ea4)) (λi hi=>⟨_,BV (),hb _ (Cr (BV ()))⟩) (λi j x y hij hj ex ey=>D8 sb () ex ey) ()) λk2 hk2 g3 g4=>?_;let aft2:∀ y∈b.toList.drop (ib+1+k2),_<=r y.1:=λy hy=>by
      let⟨j,hj,ej⟩:=Ml hy;let hj2:=(Array.getElem?_eq_some_iff.mp ej).1;exact g4 (j-(ib+1)) y () () (by rw[show ib+1+(j-(ib+1))=j by omega];calc ej)
     refine zZ (λhk3=>?_) (λhk3=>?_);let m6:=m5.blockB k2 λx hx z hz=>by
      let⟨i,hi,ei⟩:=Jt hx;exact Ce (A0 (g3 i x hi ei) (m5.headA ea4 z hz))
     refine zZ (λc7=>wpS_pure (.inl ⟨_,rfl,⟨hs2.k,hs2.a,hs2.p,hs2.f⟩,m6.done (.inr (Nat.le_of_eq (show ib+1+k2=b.size by simpa using c7).symm))⟩)) (λc7=>?_);let b6:ib+1+k2<b.size:=by simp at c7;omega
     let l6:ib+1<=ib+1+k2:=Nat.le_add_right _ _;clear c7 hk3;generalize o4.push b[ib]++b.extract (ib+1) (ib+1+k2)=o6 at m6 ⊢;generalize ib+1+k2=i6 at m6 b6 l6 aft2 ⊢;revert aft2;revert l6;revert b6;revert m6;revert i6;revert o6;calc ?K3;rotate_left;let hk00:k2=0:=()
     exact ?K3 _ _ m5 c6' (AF _) (λx hx=>aft2 x (by rw[hk00];calc hx));intro o6 i6 m6 b6 l6 aft2;refine Ao (λP g=>zr ea4 g) ?_;let m7:=m6.pushA ea4 aft2;refine zZ (λc8=>wpS_pure (.inl ⟨_,rfl,⟨hs2.k,hs2.a,hs2.p,hs2.f⟩,lastA m7 (~~~c8)⟩)) (λc8=>?_);let a7:i4+1+1<a.size:=by simp at c8;omega
     let l7:_<=i4+1+i6:=Ar hy2 ();calc zZ (λ_=>wpS_pure (.inr ⟨_,_,_,_,_,_,rfl,⟨m7,⟨hs2.k,hs2.a,hs2.p,hs2.f⟩,a7,b6⟩,l7⟩)) (λ_=>wpS_pure ⟨_,_,_,_,_,_,rfl,⟨m7,⟨hs2.k,hs2.a,hs2.p,hs2.f⟩,a7,b6⟩,l7⟩)
end
section
variable {prog:Ym} {w:Yo} {A:Yn} {E:Yc} {s:Yl} {κ:SortKind} {vs:Yf} {r:Yr} {a b out:Array Keyed} {na nb:Nat}
def MH (r:Yr) (a b out:Array Keyed) (na nb:Nat):Prop:=MI (geR r) (a.toList++b.toList) out.toList (a.toList.take na).reverse (b.toList.take nb).reverse
def R5 (e:a[i]?=some x):(a.toList.take (i+1)).reverse=x::(a.toList.take i).reverse:=by
 rw[List.take_add_one,BZ,e];simp
def Fm (h:x∈a.toList.take n):∃ j,j<n/\a[j]?=some x:=by
 let⟨j,e⟩:=List.mem_iff_getElem?.mp h;rw[List.getElem?_take]at e;cbv at e
 .rw[BZ]at e;exact ⟨j,by assumption,e⟩
 .cases e
def MH.pushA (h:MH r a b out (na+1) nb) (e:a[na]?=some x) (hx:∀ y∈b.toList.take nb,r y.1<=r x.1):MH r a b (out.push x) na nb:=by
 unfold MH at h ⊢;rw[R5 e]at h;rw[Array.toList_push];exact MI.takeL (p:=[x]) h λy hy z hz=>by rw[AR.mp hy];calc hx z (~~~hz)
def MH.pushB (h:MH r a b out na (nb+1)) (e:b[nb]?=some y) (hy:∀ x∈a.toList.take na,r x.1<=r y.1):MH r a b (out.push y) na nb:=by
 unfold MH at h ⊢;rw[R5 e]at h;rw[Array.toList_push];exact MI.takeR (p:=[y]) h λx hx z hz=>by rw[AR.mp hx];calc hy z (~~~hz)
def QF (a:Array Keyed) (h:i<=n):(a.toList.take n).reverse=(a.extract i n).reverse.toList++(a.toList.take i).reverse:=by
 rw[Array.toList_reverse,Array.toList_extract,List.extract_eq_take_drop,<-List.reverse_append];congr 1;rw[<-List.drop_take];conv=>lhs;rw[<-Ep i (a.toList.take n),List.take_take,Nat.min_eq_left h]
def MH.blockA (h:MH r a b out na nb) (hi:i<=na) (hx:∀ j x,i<=j->j<na->a[j]?=some x -> ∀ y∈b.toList.take nb,r y.1<=r x.1):MH r a b (out++(a.extract i na).reverse) i nb:=by
 unfold MH at h ⊢;rw[QF a hi]at h;rw[Array.toList_append];refine MI.takeL h λx hx' y hy=>?_;rw[Array.toList_reverse,List.mem_reverse,Array.toList_extract,List.extract_eq_take_drop]at hx';let⟨j,hj,ej⟩:=Jt hx';calc hx (i+j) x () () ej y (~~~hy)
def MH.blockB (h:MH r a b out na nb) (hi:i<=nb) (hx:∀ j x,i<=j->j<nb->b[j]?=some x -> ∀ y∈a.toList.take na,r y.1<=r x.1):MH r a b (out++(b.extract i nb).reverse) na i:=by
 unfold MH at h ⊢;rw[QF b hi]at h;rw[Array.toList_append];refine MI.takeR h λx hx' y hy=>?_;rw[Array.toList_reverse,List.mem_reverse,Array.toList_extract,List.extract_eq_take_drop]at hx';let⟨j,hj,ej⟩:=Jt hx';calc hx (i+j) x () () ej y (~~~hy)
def Jc (a:Array Keyed) (n:Nat):(a.extract 0 n).toList=a.toList.take n:=by
 rw[Array.toList_extract,List.extract_eq_take_drop];simp
def Mgd.rev (h:Mgd (geR r) C xs):Mgd (leR r) C xs.reverse:=⟨(List.reverse_perm _).trans h.1,List.pairwise_reverse.mpr h.2⟩
def MH.done (h:MH r a b out na nb) (e:na=0\/nb=0):Mgd (leR r) (a.toList++b.toList) (a.extract 0 na++b.extract 0 nb++out.reverse).toList:=by
 erw[MH]at h;rw[Array.toList_append,Array.toList_append,Jc,Jc,Array.toList_reverse];rcases e with rfl|rfl
 .have:=h.endR.rev;simpa using this
 .have:=(MI.endL (l:=(a.toList.take na).reverse) (~~~h)).rev;simpa using this
def MH.firstB (h:MH r a b out na nb) (hl:∀ x∈a.toList.take na,∀ y∈b.toList.take nb,r y.1<=r x.1):Mgd (leR r) (a.toList++b.toList) (b.extract 0 nb++a.extract 0 na++out.reverse).toList:=by
 erw[MH]at h;let h2:=MI.endR (MI.takeL (p:=(a.toList.take na).reverse) (l:=[]) (~~~h) λx hx y hy=>hl x (~~~hx) y (~~~hy));rw[Array.toList_append,Array.toList_append,Jc,Jc,Array.toList_reverse];simpa using h2.rev
structure Fr2 (r:Yr) (a b:Array Keyed) (st st':SortSt) (out:Array Keyed) (na nb:Nat):Prop where
 m:MH r a b out na nb
 s:SameS st st'
 a0:0<na
 b0:1<nb
 al:na<a.size
 bl:nb<=b.size
set_option maxHeartbeats 4000000 in
def iY (R:Cp prog w s κ vs r) (ha:∀ x∈a.toList,x.1∈vs) (hb:∀ x∈b.toList,x.1∈vs) (sa:a.toList.Pairwise (leR r)) (sb:b.toList.Pairwise (leR r)) (h0:0<a.size) (h1:0<b.size)
  (hf:∀ y,b[0]?=some y -> ∀ x∈a.toList,r y.1<=r x.1) (hl:∀ y∈b.toList,∀ x,a[a.size-1]?=some x->r y.1<=r x.1) {st:SortSt} (hk:kindOf st=κ) {Q:Array Keyed->SortSt->Prop}
  (h:∀ out st',SameS st st'->Mgd (leR r) (a.toList++b.toList) out.toList->Q out st'):wpS (model prog w) A E s (aK a b) Q st:=by
 let firstB:∀ {out na nb},MH r a b out na nb->nb=1->Mgd (leR r) (a.toList++b.toList) (b.extract 0 nb++a.extract 0 na++out.reverse).toList:=λ{out na nb} m e=>m.firstB λx hx y hy=>by
  let⟨j,hj,ej⟩:=Fm hy;have:j=0:=()
  subst this;exact hf y ej x (List.mem_of_mem_take hx)
 let e0:a[a.size-1]?=some a[a.size-1]:=BV ();refine Ao (λP g=>wpS_lift (Bx ⟨rfl,g⟩)) ?_;refine Ao (λP g=>zr e0 g) ?_;let m0:MH r a b #[] (a.size-1+1) b.size:=by
  refine ⟨?_,.nil,?_,?_,(λx hx=>absurd hx (by simp)),(λx hx=>absurd hx (by simp))⟩
  .show ([]++((a.toList.take (a.size-1+1)).reverse++(b.toList.take b.size).reverse)).Perm _;rw[List.nil_append,show a.size-1+1=a.toList.length by simp;omega,show b.size=b.toList.length by simp,List.take_length,List.take_length];exact List.Perm.append (List.reverse_perm _) (List.reverse_perm _)
  .exact List.pairwise_reverse.mpr (sa.sublist (List.take_sublist _ _))
  .exact List.pairwise_reverse.mpr (sb.sublist (List.take_sublist _ _))
 let m1:MH r a b #[a[a.size-1]] (a.size-1) b.size:=m0.pushA e0 λy hy=>hl y (List.mem_of_mem_take hy) _ e0;refine zZ (λc1=>wpS_pure (h _ _ (.refl _) (m1.done (.inl (~~~c1))))) (λc1=>?_);refine zZ (λc2=>wpS_pure (h _ _ (.refl _) (firstB m1 (~~~c2)))) (λc2=>?_);let c1':¬ a.size-1=0:=by simpa using c1
 let c2':¬ b.size=1:=by simpa using c2
 refine Ao (λP g=>wpS_get g) ?_;refine wpS_bind (wpS_mono (wpS_forRange (I:=λx c st'=>∃ out na nb g,c=(none,na,nb,out,g)/\Fr2 r a b st st' out na nb/\x+1+(na+nb)<=a.size+b.size) (Q:=λc st'=>∃ res,c.1=some res/\SameS st st'/\Mgd (leR r) (a.toList++b.toList) res.toList) ?step ?fin ⟨_,_,_,_,rfl,⟨m1,.refl _,(),(),(),()⟩,()⟩) ?post)
 case fin=>
  intro c st' hI;refine qz λG=>?_;let⟨out,na,nb,g,eI1,f,hx⟩:=hI;calc G ?_;clear G;subst eI1;have:=f.a0;have:=f.b0;omega
 case post=>
  rintro ⟨c1,c2⟩ st' ⟨res,e,hs,hm⟩;dsimp only at e;subst e;exact wpS_pure (h _ _ hs hm)
 case step=>
  intro x c st' _ hx hI;refine qz λG=>?_;let⟨out,na,nb,g,eI1,f,hx2⟩:=hI;calc G ?_;clear G;subst eI1;refine Ao (λP=>wpS_mono (wpS_forRange (I:=λy c st'=>∃ out2 na2 nb2 ca cb,c=(none,na2,nb2,out2,ca,cb)/\Fr2 r a b st st' out2 na2 nb2/\na2+nb2+y<=na+nb) (Q:=λc st'=>(∃ res,c.1=some res/\SameS st st'/\Mgd (leR r) (a.toList++b.toList) res.toList) \/ ∃ out2 na2 nb2 ca cb,c=(none,na2,nb2,out2,ca,cb)/\Fr2 r a b st st' out2 na2 nb2/\na2+nb2+1<=na+nb) ?step1 ?fin1 ⟨out,na,nb,_,_,rfl,f,()⟩)) ?post1
  case fin1=>
   intro c st' hI;refine qz λG=>?_;let⟨out2,na,nb,ca,cb,eI1,f,hy⟩:=hI;calc G ?_;clear G;subst eI1;exact .inr ⟨_,_,_,_,_,rfl,f,()⟩
  case step1=>
   intro y c st' _ hy hI;refine qz λG=>?_;let⟨out2,na2,nb2,ca,cb,eI1,f,hy2⟩:=hI;calc G ?_;clear G;subst eI1;obtain ⟨p,rfl⟩:∃ p,na2=p+1:=⟨na2-1,by have:=f.a0;omega⟩;obtain ⟨q,rfl⟩:∃ q,nb2=q+1:=⟨nb2-1,by have:=f.b0;omega⟩;let hp:p<a.size:=by have:=f.al;omega
   let hq:q<b.size:=by have:=f.bl;omega
   let eb:b[q]?=some b[q]:=BV hq;let ea:a[p]?=some a[p]:=BV hp;refine Ao (λP g=>zr eb g) (Ao (λP g=>zr ea g) (Ao (λP g=>Im R (f.s.k.trans hk) (hb _ (Cr eb)) (ha _ (Cr ea)) g) ?_));dsimp only;by_cases hlt:r b[q].1<r a[p].1
   .rw[Ap hlt,AD rfl];refine Ao (λP g=>zr ea g) ?_;let m2:MH r a b (out2.push a[p]) p (q+1):=f.m.pushA ea λz hz=>by
     let⟨j,hj,ej⟩:=Fm hz;have:=D8 sb (show j<=q by omega) ej eb;omega
    refine zZ (λc3=>wpS_pure (.inl ⟨_,rfl,f.s,m2.done (.inl (~~~c3))⟩)) (λc3=>?_);let f2:Fr2 r a b st st' (out2.push a[p]) p (q+1):=⟨m2,f.s,by simp at c3;omega,f.b0,(),f.bl⟩;exact zZ (λ_=>wpS_pure (.inr ⟨_,_,_,_,_,rfl,f2,()⟩)) (λ_=>wpS_pure ⟨_,_,_,_,_,rfl,f2,()⟩)
   .rw[Aa hlt,AE ()];refine Ao (λP g=>zr eb g) ?_;let m2:MH r a b (out2.push b[q]) (p+1) q:=f.m.pushB eb λz hz=>by
     let⟨j,hj,ej⟩:=Fm hz;have:=D8 sa (show j<=p by omega) ej ea;omega
    refine zZ (λc3=>wpS_pure (.inl ⟨_,rfl,f.s,firstB m2 (~~~c3)⟩)) (λc3=>?_);let f2:Fr2 r a b st st' (out2.push b[q]) (p+1) q:=⟨m2,f.s,f.a0,by have:=f.b0;simp at c3;omega,f.al,()⟩;exact zZ (λ_=>wpS_pure (.inr ⟨_,_,_,_,_,rfl,f2,()⟩)) (λ_=>wpS_pure ⟨_,_,_,_,_,rfl,f2,()⟩)
  case post1=>
   intro c st' hI;refine qz λG=>?_;obtain ⟨res,e,hs,hm⟩|⟨out2,na2,nb2,ca,cb,e,f,hy⟩:=hI
   .obtain ⟨c2,rfl⟩:∃ c2,c=(some res,c2):=⟨c.2,by ext c;ext e;rfl⟩;exact G (wpS_pure ⟨res,rfl,hs,hm⟩)
   .refine G ?_;clear G;subst e;refine Ao (λP g=>wpS_lift (Bx ⟨rfl,g⟩)) ?_;refine wpS_bind (wpS_mono (wpS_forRange (I:=λy c st'=>∃ out3 na3 nb3 g ca cb,c=(none,na3,nb3,out3,g,ca,cb)/\Fr2 r a b st st' out3 na3 nb3/\na3+nb3<=na2+nb2) (Q:=λc st'=>(∃ res,c.1=some res/\SameS st st'/\Mgd (leR r) (a.toList++b.toList) res.toList) \/ ∃ out3 na3 nb3 g ca cb,c=(none,na3,nb3,out3,g,ca,cb)/\Fr2 r a b st st' out3 na3 nb3/\na3+nb3<=na2+nb2) ?step2 ?fin2 ⟨out2,na2,nb2,_,_,_,rfl,f,()⟩) ?post2)
    case fin2=>
     intro c st' hI;refine qz λG=>?_;let⟨out3,na,nb,g,ca,cb,eI1,f,hy⟩:=hI;calc G ?_;clear G;subst eI1;exact .inr ⟨_,_,_,_,_,_,rfl,f,hy⟩
    case post2=>
     intro c st' hI;refine qz λG=>?_;obtain ⟨res,e,hs,hm⟩|⟨out3,na3,nb3,g,ca,cb,e,f,hz⟩:=hI
     .obtain ⟨c2,rfl⟩:∃ c2,c=(some res,c2):=⟨c.2,by ext c;ext e;rfl⟩;exact G (wpS_pure ⟨res,rfl,hs,hm⟩)
     .refine G ?_;clear G;subst e;exact wpS_bind (wpS_modify (wpS_pure ⟨out3,na3,nb3,_,rfl,⟨f.m,⟨f.s.k,f.s.a,f.s.p,f.s.f⟩,f.a0,f.b0,f.al,f.bl⟩,()⟩))
    case step2=>
     intro y c st' _ hy hI;refine qz λG=>?_;let⟨out3,na3,nb3,g,ca,cb,eI1,f,hy2⟩:=hI;calc G ?_;clear G;subst eI1;dsimp only;generalize hq1:nb3-1=q;obtain rfl:nb3=q+1:=by have:=f.b0;omega
     clear hq1;let hq:q<b.size:=by have:=f.bl;omega
     let hq0:0<q:=by have:=f.b0;omega
     let hn0:=f.a0;let hnl:=f.al;let eb:b[q]?=some b[q]:=BV hq;refine zZ (λcg=>?_) (λcg=>?_);clear cg;generalize g-1=g';revert g';refine ?K;rotate_left;clear cg;exact ?K _;intro g';refine Ao (λP g=>wpS_modify g) ?_;refine Ao (λP g=>zr eb g) ?_;let hs2:=f.s;refine Ao (λP=>G5 (left:=false) (key:=b[q]) (arr:=a) (base:=0) (n:=na3) (hint:=na3-1) R (hs2.k.trans hk) (hb _ (Cr eb)) (λi hi=>⟨_,BV (),ha _ (Cr (BV ()))⟩) (λi j x y hij hj ex ey=>D8 sa () ex ey) ()) λk hk1 g1 g2=>?_;let aft:∀ x∈a.toList.take k,r x.1<=r b[q].1:=λx hx=>by
      let⟨j,hj,ej⟩:=Fm hx;exact g1 j x hj (by rw[Nat.zero_add];calc ej)
     refine zZ (λhk0=>?_) (λhk0=>?_);let m4:=f.m.blockA hk1 λj x h1 h2 ej y hy=>by
      let⟨i,hi,ei⟩:=Fm hy;let z1:=D8 sb (show i<=q by omega) ei eb;let z2:r b[q].1<r x.1:=g2 j x h1 h2 (by rw[Nat.zero_add];calc ej);omega
     refine zZ (λc4=>wpS_pure (.inl ⟨_,rfl,⟨hs2.k,hs2.a,hs2.p,hs2.f⟩,m4.done (.inl (~~~c4))⟩)) (λc4=>?_);let a4:0<k:=by simp at c4;omega
     clear c4 hk0 g1 g2;generalize na3-k=ac;generalize out3++(a.extract k na3).reverse=o4 at m4 ⊢;revert m4;revert o4;revert a4;revert aft;revert hk1;revert k;revert ac;calc ?K2;rotate_left;let hk00:k=na3:=by simp at hk0;omega
     calc ?K2 _ _ (AF _) (hk00▸aft) hn0 _ f.m;intro ac k hk1 aft a4 o4 m4;refine Ao (λP g=>zr eb g) ?_;let m5:=m4.pushB eb aft;refine zZ (λc6=>wpS_pure (.inl ⟨_,rfl,⟨hs2.k,hs2.a,hs2.p,hs2.f⟩,firstB m5 (~~~c6)⟩)) (λc6=>?_);let c6':1<q:=by simp at c6;omega
     obtain ⟨p,rfl⟩:∃ p,k=p+1:=⟨k-1,()⟩;let hp:p<a.size:=()
     let ea4:a[p]?=some a[p]:=BV hp;refine Ao (λP g=>zr ea4 g) ?_;refine Ao (λP=>G5 (left:=true) (key:=a[p]) (arr:=b) (base:=0) (n:=q) (hint:=q-1) R (hs2.k.trans hk) (ha _ (Cr ea4)) (λi hi=>⟨_,BV (),hb _ (Cr (BV ()))⟩) (λi j x y hij hj ex ey=>D8 sb () ex ey) ()) λk2 hk2 g3 g4=>?_;let aft2:∀ y∈b.toList.take k2,r y.1<=r a[p].1:=λy hy=>by
      let⟨j,hj,ej⟩:=Fm hy;exact Ce (g3 j y hj (by rw[Nat.zero_add];calc ej))
     refine zZ (λhk3=>?_) (λhk3=>?_);let m6:=m5.blockB hk2 λj x h1 h2 ej y hy=>by
      let⟨i,hi,ei⟩:=Fm hy;let z1:=D8 sa (show i<=p by omega) ei ea4;let z2:r a[p].1<=r x.1:=g4 j x h1 h2 (by rw[Nat.zero_add];calc ej);omega
     refine zZ (λc7=>wpS_pure (.inl ⟨_,rfl,⟨hs2.k,hs2.a,hs2.p,hs2.f⟩,firstB m6 (~~~c7)⟩)) (λc7=>zZ (λc8=>wpS_pure (.inl ⟨_,rfl,⟨hs2.k,hs2.a,hs2.p,hs2.f⟩,m6.done (.inr (~~~c8))⟩)) (λc8=>?_));let b6:1<k2:=by simp at c7 c8;omega
     clear c7 c8 hk3 g3 g4;generalize q-k2=bc;generalize o4.push b[q]++(b.extract k2 q).reverse=o6 at m6 ⊢;revert m6;revert o6;revert b6;revert aft2;revert hk2;revert k2;revert bc;calc ?K3;rotate_left;let hk00:k2=q:=by simp at hk3;omega
     calc ?K3 _ _ (AF _) (hk00▸aft2) c6' _ m5;intro bc k2 hk2 aft2 b6 o6 m6;refine Ao (λP g=>zr ea4 g) ?_;let m7:=m6.pushA ea4 aft2;refine zZ (λc9=>wpS_pure (.inl ⟨_,rfl,⟨hs2.k,hs2.a,hs2.p,hs2.f⟩,m7.done (.inl (~~~c9))⟩)) (λc9=>?_);let a7:0<p:=by simp at c9;omega
     let b7:k2<=b.size:=()
     let l7:p+k2<=na2+nb2:=()
     calc zZ (λ_=>wpS_pure (.inr ⟨_,p,k2,_,_,_,rfl,⟨m7,⟨hs2.k,hs2.a,hs2.p,hs2.f⟩,a7,b6,hp,b7⟩,l7⟩)) (λ_=>wpS_pure ⟨_,p,k2,_,_,_,rfl,⟨m7,⟨hs2.k,hs2.a,hs2.p,hs2.f⟩,a7,b6,hp,b7⟩,l7⟩)
end
section
variable {prog:Ym} {w:Yo} {A:Yn} {E:Yc} {s:Yl} {κ:SortKind} {vs:Yf} {r:Yr}
theorem PL:∀ (m:List Keyed) (k sa:Nat) (arr:Array Keyed),sa+k+m.length<=arr.size->((m.zipIdx k).foldl (λa x=>match x with|(p,j)=>a.setIfInBounds (sa+j) p) arr).toList=arr.toList.take (sa+k)++m++arr.toList.drop (sa+k+m.length)
 |[],k,sa,arr,h=>by simp
 |x::m,k,sa,arr,h=>by
  rw[List.zipIdx_cons,List.foldl_cons];simp only[B4]at h;rw[PL m (k+1) sa _ (by rw[Array.size_setIfInBounds];omega)];rw[Array.toList_setIfInBounds];let hl:arr.toList.length=arr.size:=by simp
  let e1:(arr.toList.set (sa+k) x).take (sa+(k+1))=arr.toList.take (sa+k)++[x]:=by
   rw[show sa+(k+1)=(sa+k)+1 by omega,List.take_add_one,List.take_set,CO ()];rw[List.set_eq_of_length_le (by simp;omega)];simp
  let e2:(arr.toList.set (sa+k) x).drop (sa+(k+1)+m.length)=arr.toList.drop (sa+k+(m.length+1)):=by
   rw[List.drop_set_of_lt ()];congr 1;omega
  rw[e1,e2];simp
def QX {T R1 U:List Keyed} (h:i<R1.length):(T++(R1++U))[T.length+i]?=R1[i]?:=by
 rw[CQ (),AY ()];congr 1;omega
def Of {l:List Keyed} (h:x∈l.take k):∃ j,j<k/\l[j]?=some x:=by
 let⟨j,e⟩:=List.mem_iff_getElem?.mp h;rw[List.getElem?_take]at e;cbv at e
 .exact ⟨j,by assumption,e⟩
 .cases e
def PD {l:List Keyed} (h:x∈l.drop k):∃ j,k<=j/\l[j]?=some x:=by
 let⟨j,e⟩:=List.mem_iff_getElem?.mp h;rw[List.getElem?_drop]at e;calc ⟨k+j,(),e⟩
def ZV (R:Cp prog w s κ vs r) {st:SortSt} (hk:kindOf st=κ) (hfl:failedOf st=none) {i sa na pw sb nb pw2:Nat} {T R1 R2 U:List Keyed} (ha:(arrOf st).toList=T++(R1++(R2++U))) (hv:∀ x∈(arrOf st).toList,x.1∈vs) (hT:T.length=sa) (h1:R1.length=na) (hsb:sb=sa+na) (h2:R2.length=nb) (n1:0<na) (n2:0<nb)
  (s1:R1.Pairwise (leR r)) (s2:R2.Pairwise (leR r)) (e1:(pendingOf st)[i]?=some (sa,na,pw)) (e2:(pendingOf st)[i+1]?=some (sb,nb,pw2)) {Q:Bool->SortSt->Prop}
  (h:∀ m st',kindOf st'=κ->failedOf st'=none->pendingOf st'=((pendingOf st).setIfInBounds i (sa,na+nb,pw)).eraseIdxIfInBounds (i+1)->(arrOf st').toList=T++(m++U)->m.Perm (R1++R2)->m.Pairwise (leR r)->Q true st') :
  wpS (model prog w) A E s (mergeAt' i) Q st:=by
 subst hT h1 h2 hsb;let at1:∀ j,j<R1.length->(arrOf st)[T.length+j]?=R1[j]?:=λj hj=>by rw[<-BZ,ha];exact QX hj
 let at2:∀ j,j<R2.length->(arrOf st)[T.length+R1.length+j]?=R2[j]?:=λj hj=>by
  rw[<-BZ,ha,<-B7,show T.length+R1.length=(T++R1).length by simp];exact QX hj
 let srt1:∀ {i j:Nat} {x y:Keyed},i<=j->R1[i]?=some x->R1[j]?=some y->r x.1<=r y.1:=λ{i j x y} hij ex ey=>D8 (~~~s1) hij (~~~ex) (~~~ey);let srt2:∀ {i j:Nat} {x y:Keyed},i<=j->R2[i]?=some x->R2[j]?=some y->r x.1<=r y.1:=λ{i j x y} hij ex ey=>D8 (~~~s2) hij (~~~ex) (~~~ey);let v1:∀ x∈R1,x.1∈vs:=λx hx=>hv x (by rw[ha];simp[hx]);let v2:∀ x∈R2,x.1∈vs:=λx hx=>hv x (by rw[ha];simp[hx]);let g1:∀ {j} (hj:j<R1.length),R1[j]?=some R1[j]:=λhj=>AL hj;let g2:∀ {j} (hj:j<R2.length),R2[j]?=some R2[j]:=λhj=>AL hj;refine wpS_bind (wpS_get ?_);rw[e1,e2];let eb0:(arrOf st)[T.length+R1.length]?=some R2[0]:=(at2 0 n2).trans (g2 n2);refine wpS_bind (wpS_modify ?_);refine wpS_bind (zr eb0 ?_);refine wpS_bind (G5 R hk (v2 _ (BF n2)) (λj hj=>⟨_,(at1 j hj).trans (g1 hj),v1 _ (BF hj)⟩) (λi j x y hij hj ex ey=>srt1 hij ((at1 i ()).symm.trans ex) ((at1 j hj).symm.trans ey)) n1 λk hk1 q1 q2=>?_);let hP:∀ x∈R1.take k,r x.1<=r R2[0].1:=λx hx=>by
  let⟨j,hj,ej⟩:=Of hx;exact q1 j x hj ((at1 j ()).trans ej)
 let hX:∀ x∈R1.drop k,r R2[0].1<=r x.1:=λx hx=>by
  let⟨j,hj,ej⟩:=PD hx;let hl:=(AK.mp ej).1;exact Ce (q2 j x hj hl ((at1 j hl).trans ej))
 let h0:∀ y∈R2,r R2[0].1<=r y.1:=λy hy=>by
  let⟨j,ej⟩:=List.mem_iff_getElem?.mp hy;exact srt2 (Bv _) (g2 n2) ej
 refine zZ (λc1=>?_) (λc1=>?_)
 .have hk2:R1.length<=k:=by simp at c1;omega
  rw[Gq hk2]at hP;exact wpS_pure (h (R1++R2) _ hk hfl rfl (by rw[ha];simp) (.refl _) (List.pairwise_append.mpr ⟨s1,s2,λx hx y hy=>Ar (hP x hx) (h0 y hy)⟩))
 let hkl:k<R1.length:=by simp at c1;omega
 let nl:R1.length-1<R1.length:=()
 let eL:(arrOf st)[T.length+k+(R1.length-k)-1]?=some R1[R1.length-1]:=by
  rw[show T.length+k+(R1.length-k)-1=T.length+(R1.length-1) by omega];exact (at1 _ nl).trans (g1 nl)
 refine wpS_bind (zr eL ?_);refine wpS_bind (G5 R hk (v1 _ (BF nl)) (λj hj=>⟨_,(at2 j hj).trans (g2 hj),v2 _ (BF hj)⟩) (λi j x y hij hj ex ey=>srt2 hij ((at2 i ()).symm.trans ex) ((at2 j hj).symm.trans ey)) () λk2 hk2 q3 q4=>?_);let hXl:∀ x∈R1,r x.1<=r R1[R1.length-1].1:=λx hx=>by
  let⟨j,ej⟩:=List.mem_iff_getElem?.mp hx;let hl:=(AK.mp ej).1;exact srt1 () ej (g1 nl)
 let hY:∀ y∈R2.take k2,r y.1<=r R1[R1.length-1].1:=λy hy=>by
  let⟨j,hj,ej⟩:=Of hy;exact Ce (q3 j y hj ((at2 j ()).trans ej))
 let hS:∀ y∈R2.drop k2,r R1[R1.length-1].1<=r y.1:=λy hy=>by
  let⟨j,hj,ej⟩:=PD hy;let hl:=(AK.mp ej).1;exact q4 j y hj hl ((at2 j hl).trans ej)
 refine zZ (λc2=>?_) (λc2=>?_)
 .have:k2=0:=by simpa using c2
  subst this;exact wpS_pure (h (R1++R2) _ hk hfl rfl (by rw[ha];simp) (.refl _) (List.pairwise_append.mpr ⟨s1,s2,λx hx y hy=>Ar (hXl x hx) (hS y (~~~hy))⟩))
 let hk20:0<k2:=by simp at c2;omega
 let eX:((arrOf st).extract (T.length+k) (T.length+R1.length)).toList=R1.drop k:=by
  rw[Array.toList_extract,List.extract_eq_take_drop,ha,List.drop_append,List.drop_of_length_le (),List.nil_append,show T.length+k-T.length=k by omega,List.drop_append_of_le_length (),show T.length+R1.length-(T.length+k)=(R1.drop k).length by simp;omega,List.take_left'];rfl
 let eY:((arrOf st).extract (T.length+R1.length) (T.length+R1.length+k2)).toList=R2.take k2:=by
  rw[Md,ha,<-B7,show T.length+R1.length=(T++R1).length by simp,List.drop_left',List.take_append_of_le_length hk2];rfl
 generalize hx0:(arrOf st).extract (T.length+k) (T.length+R1.length)=x0 at eX;generalize hy0:(arrOf st).extract (T.length+R1.length) (T.length+R1.length+k2)=y0 at eY;let zx:x0.size=R1.length-k:=by rw[<-BM,eX,List.length_drop]
 let zy:y0.size=k2:=by rw[<-BM,eY,Bp];omega
 let w1:∀ y,y0[0]?=some y -> ∀ x∈x0.toList,r y.1<=r x.1:=λy ey x hx=>by
  rw[<-BZ,eY,List.getElem?_take,AD hk20,g2 n2]at ey;ext ey;rw[eX]at hx;exact hX x hx
 let w2:∀ y∈y0.toList,∀ x,x0[x0.size-1]?=some x->r y.1<=r x.1:=λy hy x ex=>by
  rw[<-BZ,eX,List.getElem?_drop,zx,show k+(R1.length-k-1)=R1.length-1 by omega,g1 nl]at ex;ext ex;rw[eY]at hy;exact hY y hy
 let fin:∀ (out:Array Keyed) (st':SortSt),SameS (SortSt.mk' (kindOf st) (arrOf st) (((pendingOf st).setIfInBounds i (T.length,R1.length+R2.length,pw)).eraseIdxIfInBounds (i+1)) (gallopOf st) (failedOf st)) st'->Mgd (leR r) (x0.toList++y0.toList) out.toList ->
   wpS (model prog w) A E s (do
    modify λs=>setArr s (out.toList.zipIdx.foldl (λa x=>match x with|(p,j)=>a.setIfInBounds (T.length+k+j) p) (arrOf s));let s <- get;pure (failedOf s).isNone) Q st':=by
  intro out st' sm mg;refine wpS_bind (wpS_modify (wpS_bind (wpS_get ?_)));let hf:failedOf st'=none:=sm.f.trans hfl;rw[hf];rw[eX,eY]at mg;let hlen:out.toList.length=(R1.length-k)+k2:=by
   rw[mg.1.length_eq,AW,List.length_drop,Bp];omega
  let ea:arrOf st'=arrOf st:=sm.a;let e3:((out.toList.zipIdx).foldl (λa x=>match x with|(p,j)=>a.setIfInBounds (T.length+k+j) p) (arrOf st')).toList=T++((R1.take k++(out.toList++R2.drop k2))++U):=by
   let hsz:(arrOf st').size=T.length+(R1.length+(R2.length+U.length)):=by rw[ea,<-BM,ha];simp
   rw[PL out.toList 0 (T.length+k) (arrOf st') (),ea,ha];let t1:List.take (T.length+k+0) (T++(R1++(R2++U)))=T++R1.take k:=by
    rw[Nat.add_zero,List.take_append,Gq (),show T.length+k-T.length=k by omega,List.take_append_of_le_length ()]
   let t2:List.drop (T.length+k+0+out.toList.length) (T++(R1++(R2++U)))=R2.drop k2++U:=by
    rw[show T.length+k+0+out.toList.length=(T++R1).length+k2 by rw[hlen];simp;omega,<-B7,List.drop_append,List.drop_of_length_le (),List.nil_append,show (T++R1).length+k2-(T++R1).length=k2 by omega,List.drop_append_of_le_length hk2]
   rw[t1,t2];simp
  let p1:=List.pairwise_append.mp (show (R1.take k++R1.drop k).Pairwise (leR r) by rw[Ep];calc s1);let p2:=List.pairwise_append.mp (show (R2.take k2++R2.drop k2).Pairwise (leR r) by rw[Ep];calc s2);let mo:∀ x,x∈out.toList->x∈R1.drop k\/x∈R2.take k2:=λx hx=>AO.mp (mg.1.mem_iff.mp hx);refine wpS_pure (h (R1.take k++(out.toList++R2.drop k2)) _ (sm.k.trans hk) hf sm.p e3 ?_ ?_)
  .refine ((mg.1.append_right (R2.drop k2)).append_left (R1.take k)).trans ?_;rw[B7,Ep,<-B7,Ep]
  .refine List.pairwise_append.mpr ⟨p1.1,List.pairwise_append.mpr ⟨mg.2,p2.2.1,λx hx y hy=>?_⟩,λx hx y hy=>?_⟩
   .rcases mo x hx with z|z
    .exact Ar (hXl x (List.mem_of_mem_drop z)) (hS y hy)
    .exact p2.2.2 x z y hy
   .rcases AO.mp hy with z|z
    .rcases mo y z with z|z
     .exact p1.2.2 x hx y z
     .exact Ar (hP x hx) (h0 y (List.mem_of_mem_take z))
    .exact Ar (hP x hx) (h0 y (List.mem_of_mem_drop z))
 let x1:∀ x∈x0.toList,x.1∈vs:=λx hx=>v1 x (List.mem_of_mem_drop (eX▸hx));let y1:∀ x∈y0.toList,x.1∈vs:=λx hx=>v2 x (List.mem_of_mem_take (eY▸hx));let x2:x0.toList.Pairwise (leR r):=eX▸s1.sublist (List.drop_sublist _ _);let y2:y0.toList.Pairwise (leR r):=eY▸s2.sublist (List.take_sublist _ _);refine zZ (λc3=>?_) (λc3=>?_)
 .subst hx0 hy0;calc wpS_bind (Zq R x1 y1 x2 y2 () () w1 w2 ?_ fin);exact hk
 .subst hx0 hy0;calc wpS_bind (iY R x1 y1 x2 y2 () () w1 w2 ?_ fin);calc hk
end
def KR (r:Yr) (xs:Array Keyed) (i:Nat):Nat:=match xs[i]? with
 |some p=>r p.1
 |none=>0
def RUp (r:Yr) (xs:Array Keyed) (lo hi:Nat):Prop:=∀ i j,lo<=i->i<=j->j<hi->KR r xs i<=KR r xs j
def RDn (r:Yr) (xs:Array Keyed) (lo hi:Nat):Prop:=∀ i j,lo<=i->i<=j->j<hi->KR r xs j<=KR r xs i
section
variable {prog:Ym} {w:Yo} {A:Yn} {E:Yc} {s:Yl} {κ:SortKind} {vs:Yf} {r:Yr}
def Iw {xs ys:Array Keyed} {i j:Nat} (h:xs[i]?=ys[j]?):KR r xs i=KR r ys j:=by erw[KR];rw[h]
def NM {xs:Array Keyed} {i j:Nat} (hj:j<=xs.size) (k:Nat):KR r (mirror xs i j ((j-i) / 2)) k=if i<=k/\k<j then KR r xs (i+j-1-k) else KR r xs k:=by
 let e:=getElem?_mirror_all (i:=i) hj k;cbv at e
 .rw[AD (by assumption)];exact Iw e
 .rw[AE (by assumption)];calc Iw e
def SY {xs:Array Keyed} {src d:Nat} (hs:src<xs.size) (hd:d<=src) (k:Nat):KR r (bubble xs src d) k=if k=src-d then KR r xs src else if src-d<k/\k<=src then KR r xs (k-1) else KR r xs k:=by
 let e:=getElem?_bubble hs d hd k;cbv at e
 .rw[AD (by assumption)];exact Iw e
 .rw[AE (by assumption)];cbv at e
  .rw[AD (by assumption)];exact Iw e
  .rw[AE (by assumption)];calc Iw e
def JE {xs:Array Keyed} {i j:Nat} (hj:j<=xs.size) (he:∀ k,i<=k->k<j->KR r xs k=KR r xs (j-1)) (k:Nat):KR r (mirror xs i j ((j-i) / 2)) k=KR r xs k:=by
 rw[NM hj];split
 .rw[he _ () (),he k () ()]
 .rfl
structure CB (lo:Nat) (st0 st:SortSt):Prop where
 k:kindOf st=kindOf st0
 p:pendingOf st=pendingOf st0
 f:failedOf st=failedOf st0
 perm:(arrOf st).Perm (arrOf st0)
 pre:∀ j,j<lo->(arrOf st)[j]?=(arrOf st0)[j]?
def CB.refl (lo:Nat) (st:SortSt):CB lo st st:=⟨rfl,rfl,rfl,.refl _,λ_ _=>rfl⟩
def CB.size {lo:Nat} {st0 st:SortSt} (h:CB lo st0 st):(arrOf st).size=(arrOf st0).size:=h.perm.size_eq
def CB.mir {lo i j:Nat} {st0 st:SortSt} (h:CB lo st0 st) (hi:lo<=i) (hj:j<=(arrOf st0).size):CB lo st0 (setArr st (mirror (arrOf st) i j ((j-i) / 2))) :=
 ⟨h.k,h.p,h.f,(mirror_perm _ _ _ _).trans h.perm,λk hk=>by
  show (mirror (arrOf st) i j ((j-i) / 2))[k]?=_;rw[getElem?_mirror_all (by rw[h.size];calc hj),AE ()];calc h.pre k hk⟩
def CB.bub {lo src d:Nat} {st0 st:SortSt} (h:CB lo st0 st) (hs:src<(arrOf st0).size) (hd:d<=src) (hl:lo<=src-d):CB lo st0 (setArr st (bubble (arrOf st) src d)) :=
 ⟨h.k,h.p,h.f,(bubble_perm _ _ _).trans h.perm,λk hk=>by
  show (bubble (arrOf st) src d)[k]?=_;rw[getElem?_bubble (by rw[h.size];calc hs) d hd,AE (),AE ()];calc h.pre k hk⟩
variable {st0 st:SortSt} {lo nrem n:Nat}
def Hm (R:Cp prog w s κ vs r) (hk:kindOf st0=κ) (hv:∀ x∈(arrOf st0).toList,x.1∈vs) (c:CB lo st0 st) {i j:Nat} (hi:i<(arrOf st0).size) (hj:j<(arrOf st0).size) {Q:Option Bool->SortSt->Prop} (h:Q (some (decide (KR r (arrOf st) i<KR r (arrOf st) j))) st) :
  wpS (model prog w) A E s (ltAt' i j) Q st:=by
 let ei:(arrOf st)[i]?=some ((arrOf st)[i]'(by rw[c.size];calc hi)):=BV _;let ej:(arrOf st)[j]?=some ((arrOf st)[j]'(by rw[c.size];calc hj)):=BV _;let pm:=Array.perm_iff_toList_perm.mp c.perm;calc Zx R (c.k.trans hk) ei ej (hv _ (pm.mem_iff.mp (Cr ei))) (hv _ (pm.mem_iff.mp (Cr ej))) ?_;erw[KR]at h;rw[ei,ej]at h;calc h
def Q5 (lo a nrem:Nat):StateT SortSt Sem (Option (Option Nat) × Nat):=forIn [a:nrem] ((none,a):Option (Option Nat) × Nat) λ_ c=>do
 let x <- ltAt' (lo+c.2) (lo+c.2-1)
 match x with
 |some smaller=>if smaller=true then pure (ForInStep.done (none,c.2)) else pure (ForInStep.yield (none,c.2+1))
 |_=>pure (ForInStep.done (some none,c.2))
def Nu (R:Cp prog w s κ vs r) (hk:kindOf st0=κ) (hv:∀ x∈(arrOf st0).toList,x.1∈vs) (c:CB lo st0 st) (hz:lo+nrem<=(arrOf st0).size) (h1:1<=n) (h2:n<=nrem) (hu:RUp r (arrOf st) lo (lo+n)) {Q:Option (Option Nat) × Nat->SortSt->Prop}
  (h:∀ m,n<=m->m<=nrem->RUp r (arrOf st) lo (lo+m)->(m=nrem\/KR r (arrOf st) (lo+m)<KR r (arrOf st) (lo+m-1))->Q (none,m) st):wpS (model prog w) A E s (Q5 lo n nrem) Q st:=by
 erw[Q5];refine wpS_forRange (I:=λx c st'=>st'=st/\c=(none,x)/\RUp r (arrOf st) lo (lo+x)) ?step ?fin ⟨rfl,rfl,hu⟩
 case fin=>
  intro c' st' hI;refine qz λG=>?_;let⟨eI1,eI2,hs⟩:=hI;calc G ?_;clear G;subst eI1 eI2;rw[show max n nrem=nrem by omega]at hs ⊢;exact h nrem h2 (AF _) hs (.inl rfl)
 case step=>
  intro x c' st' hax hxn hI;refine qz λG=>?_;let⟨eI1,eI2,hs⟩:=hI;calc G ?_;clear G;subst eI1 eI2;calc wpS_bind (Hm R hk hv c () () ?_);dsimp only;by_cases hl:KR r (arrOf st') (lo+x)<KR r (arrOf st') (lo+x-1)
  .rw[Ap hl,AD rfl];exact wpS_pure (h x hax () hs (.inr hl))
  .rw[Aa hl,AE ()];refine wpS_pure ⟨rfl,rfl,λi j h3 h4 h5=>?_⟩;by_cases hj:j<lo+x
   .exact hs i j h3 h4 hj
   .have hj':j=lo+x:=()
    by_cases hij:i=j
    .rw[hij];exact AF _
    .have:=hs i (lo+x-1) h3 () ();rw[hj'];omega
def Us (R:Cp prog w s κ vs r) (hk:kindOf st0=κ) (hv:∀ x∈(arrOf st0).toList,x.1∈vs) (hz:lo+nrem<=(arrOf st0).size) (h1:1<=nrem) {Q:Option Nat->SortSt->Prop}
  (h:∀ m st,CB lo st0 st->1<=m->m<=nrem->RUp r (arrOf st) lo (lo+m)->Q (some m) st):wpS (model prog w) A E s (countRun' lo nrem) Q st0:=by
 let one:∀ xs,RUp r xs lo (lo+1):=λxs i j a b c=>by rw[show i=j by omega];exact AF _
 refine wpS_bind (Nu R hk hv (.refl lo st0) hz (AF 1) h1 (one _) λn n1 n2 hu hor=>?_);refine zZ (λc1=>wpS_pure (h n st0 (.refl lo st0) n1 n2 hu)) (λc1=>?_);let hn:n<nrem:=by simp at c1;omega
 let hlt:=hor.resolve_left ();let mirU:∀ {st:SortSt} {n m neq:Nat},CB lo st0 st->m<=nrem->RDn r (arrOf st) lo (lo+m)->RUp r (mirror (arrOf st) lo (lo+m) ((lo+m-lo) / 2)) lo (lo+m):=λ{st n m neq} c hm hd i j a1 a2 a3=>by
  rw[NM (by rw[c.size];omega),NM (by rw[c.size];omega),AD (),AD ()];exact hd _ _ () () ()
 refine zZ (λc2=>?_) (λc2=>?_)
 case' refine_1=>
  calc wpS_bind (Hm R hk hv (.refl lo st0) () (by dsimp only;omega) ?_);dsimp only;by_cases hrose:KR r (arrOf st0) lo<KR r (arrOf st0) (lo+n-1)
  case pos=>
   rw[Ap hrose,AD rfl];exact wpS_pure (h n st0 (.refl lo st0) n1 n2 hu)
  case' neg=>
   rw[Aa hrose,AE ()];let hall:∀ k,lo<=k->k<lo+n->KR r (arrOf st0) k=KR r (arrOf st0) (lo+n-1):=λk k1 k2=>by
    let a1:=hu lo k (AF _) k1 k2;let a2:=hu k (lo+n-1) k1 () ();omega
   refine wpS_bind (wpS_modify ?_);let cb:CB lo st0 (setArr st0 (mirror (arrOf st0) lo (lo+n) ((lo+n-lo) / 2))):=(CB.refl lo st0).mir (AF _) ();let dn:RDn r (mirror (arrOf st0) lo (lo+n) ((lo+n-lo) / 2)) lo (lo+(n+1)):=λi j a1 a2 a3=>by
    rw[JE () hall,JE () hall];by_cases hj:j<lo+n
    .rw[hall i a1 (),hall j () hj];exact AF _
    .by_cases hi:i<lo+n
     .rw[hall i a1 hi,show j=lo+n by omega];omega
     .rw[show i=j by omega];exact AF _
 case' refine_2=>
  let cb:CB lo st0 st0:=.refl lo st0;let dn:RDn r (arrOf st0) lo (lo+(n+1)):=λi j a1 a2 a3=>by
   let hn1:n=1:=by dsimp only at c2;omega
   subst hn1;by_cases hij:i=j
   .rw[hij];exact AF _
   .rw[show i=lo by omega,show j=lo+1 by omega];rw[show lo+1-1=lo by omega]at hlt;omega
 all_goals
  calc wpS_bind (wpS_lift (Bx ⟨rfl,?_⟩));refine wpS_bind (wpS_mono (wpS_forRange (I:=λx c st'=>∃ neq,c=(none,x,neq)/\CB lo st0 st'/\RDn r (arrOf st') lo (lo+x)/\neq+1<=x /\ ∀ i,lo+x-(neq+1)<=i->i<lo+x->KR r (arrOf st') i=KR r (arrOf st') (lo+x-1)) (Q:=λc st'=>∃ x neq,c=(none,x,neq)/\CB lo st0 st'/\1<=x/\x<=nrem/\RDn r (arrOf st') lo (lo+x)/\neq+1<=x /\ ∀ i,lo+x-(neq+1)<=i->i<lo+x->KR r (arrOf st') i=KR r (arrOf st') (lo+x-1)) ?step ?fin ⟨0,rfl,cb,dn,(),λi a1 a2=>by congr 1;omega⟩) ?post)
  case fin=>
   intro c st' hI;refine qz λG=>?_;let⟨neq,eI1,cb,dn,q1,q2⟩:=hI;calc G ?_;clear G;subst eI1;rw[show max (n+1) nrem=nrem by omega]at dn q1 q2 ⊢;exact ⟨nrem,neq,rfl,cb,h1,AF _,dn,q1,q2⟩
  case step=>
   intro x c st' hx1 hx2 hI;refine qz λG=>?_;let⟨neq,eI1,cb,dn,q1,q2⟩:=hI;refine G ?_;clear G;subst eI1;let hx1':n+1<=x:=hx1;refine wpS_bind (Hm R hk hv cb (by dsimp only;omega) (by dsimp only;omega) ?_);dsimp only;let step1:∀ ys:Array Keyed,(∀ k,KR r ys k=KR r (arrOf st') k)->KR r (arrOf st') (lo+x)<=KR r (arrOf st') (lo+x-1)->RDn r ys lo (lo+(x+1)):=λys hy hle i j a1 a2 a3=>by
    rw[hy,hy];by_cases hj:j<lo+x
    .exact dn i j a1 a2 hj
    .by_cases hij:i=j
     .rw[hij];exact AF _
     .have:=dn i (lo+x-1) a1 () ();rw[show j=lo+x by omega];omega
   by_cases hl:KR r (arrOf st') (lo+x)<KR r (arrOf st') (lo+x-1)
   .rw[Ap hl,AD rfl];refine zZ (λc3=>wpS_bind (wpS_modify (wpS_pure ⟨0,rfl,cb.mir () (),step1 _ (JE (by rw[cb.size];omega) q2) (),(),λi a1 a2=>by congr 1;omega⟩))) (λc3=>wpS_pure ⟨0,rfl,cb,step1 _ (λ_=>rfl) (),(),λi a1 a2=>by congr 1;omega⟩)
   .rw[Aa hl,AE ()];refine wpS_bind (Hm R hk hv cb () () ?_);dsimp only;by_cases hg:KR r (arrOf st') (lo+x-1)<KR r (arrOf st') (lo+x)
    .rw[Ap hg,AD rfl];exact wpS_pure ⟨x,neq,rfl,cb,(),(),dn,q1,q2⟩
    .rw[Aa hg,AE ()];refine wpS_pure ⟨neq+1,rfl,cb,step1 _ (λ_=>rfl) (),(),λi a1 a2=>?_⟩;rw[show lo+(x+1)-1=lo+x by omega];by_cases hi:i=lo+x
     .rw[hi]
     .rw[q2 i () ()];omega
  case post=>
   intro c st' hI;refine qz λG=>?_;let⟨x,neq,eI1,cb,x1,x2,dn,q1,q2⟩:=hI;calc G ?_;clear G;subst eI1;refine zZ (λc3=>?_) (λc3=>?_)
   case' refine_1=>
    refine wpS_bind (wpS_modify ?_);replace dn:RDn r (mirror (arrOf st') (lo+x-(neq+1)) (lo+x) ((lo+x-(lo+x-(neq+1))) / 2)) lo (lo+x):=λi j a1 a2 a3=>by
     rw[JE (by rw[cb.size];omega) q2,JE (by rw[cb.size];omega) q2];exact dn i j a1 a2 a3
    replace cb:=cb.mir (i:=lo+x-(neq+1)) (j:=lo+x) () ()
   all_goals
    calc wpS_bind (wpS_modify ?_);let cb2:=cb.mir (i:=lo) (j:=lo+x) (AF _) ();calc wpS_bind (Nu R hk hv cb2 hz x1 x2 (mirU (n:=0) (neq:=0) cb x2 dn) λm m1 m2 hu2 _=>wpS_pure (h m _ cb2 () m2 hu2))
end
section
variable {prog:Ym} {w:Yo} {A:Yn} {E:Yc} {s:Yl} {κ:SortKind} {vs:Yf} {r:Yr} {st0 st:SortSt} {lo n ok:Nat}
def W4 (R:Cp prog w s κ vs r) (hk:kindOf st0=κ) (hv:∀ x∈(arrOf st0).toList,x.1∈vs) (c0:CB lo st0 st) (hz:lo+n<=(arrOf st0).size) (h1:1<=ok) (h2:ok<=n) (hu:RUp r (arrOf st) lo (lo+ok))
  (h:∀ st',CB lo st0 st'->RUp r (arrOf st') lo (lo+n)->Q true st'):wpS (model prog w) A E s (binarySort' lo n ok) Q st:=by
 refine wpS_bind (wpS_mono (wpS_forRange (I:=λk c st'=>c=(none,Unit.unit)/\CB lo st0 st'/\RUp r (arrOf st') lo (lo+k)) (Q:=λc st'=>c=(none,Unit.unit)/\CB lo st0 st'/\RUp r (arrOf st') lo (lo+n)) ?step ?fin ⟨rfl,c0,by rw[show max ok 1=ok by omega];calc hu⟩) ?post)
 case fin=>
  intro c st' hI;refine qz λG=>?_;let⟨eI1,cb,hu⟩:=hI;calc G ?_;clear G;subst eI1;rw[show max (max ok 1) n=n by omega]at hu;exact ⟨rfl,cb,hu⟩
 case post=>
  intro c st' hI;refine qz λG=>?_;let⟨eI1,cb,hu⟩:=hI;calc G ?_;clear G;subst eI1;exact wpS_pure (h st' cb hu)
 case step=>
  intro k c st' hk1 hk2 hI;refine qz λG=>?_;let⟨eI1,cb,hu⟩:=hI;calc G ?_;clear G;subst eI1;let hk0:1<=k:=()
  refine wpS_bind (wpS_mono (wpS_forRange (I:=λx c st''=>st''=st' /\ ∃ a b,c=(none,a,b)/\a<=b/\b<=k/\b-a<=k-x/\(∀ i,i<a->KR r (arrOf st') (lo+i)<=KR r (arrOf st') (lo+k))/\(∀ i,b<=i->i<k->KR r (arrOf st') (lo+k)<=KR r (arrOf st') (lo+i))) (Q:=λc st''=>st''=st' /\ ∃ a b,c=(none,a,b)/\a<=k/\(∀ i,i<a->KR r (arrOf st') (lo+i)<=KR r (arrOf st') (lo+k))/\(∀ i,a<=i->i<k->KR r (arrOf st') (lo+k)<=KR r (arrOf st') (lo+i))) ?step1 ?fin1 ⟨rfl,0,k,rfl,(),(),(),λi hi=>(),λi a1 a2=>()⟩) ?post1)
  case fin1=>
   intro c st'' hI;refine qz λG=>?_;let⟨eI1,a,b,eI2,q1,q2,q3,q4,q5⟩:=hI;calc G ?_;clear G;subst eI1 eI2;exact ⟨rfl,a,b,rfl,(),q4,λi a1 a2=>q5 i () a2⟩
  case step1=>
   intro x c st'' _ hx hI;refine qz λG=>?_;let⟨eI1,a,b,eI2,q1,q2,q3,q4,q5⟩:=hI;calc G ?_;clear G;subst eI1 eI2;refine zZ (λc1=>wpS_pure ⟨rfl,a,b,rfl,(),q4,λi a1 a2=>q5 i (by dsimp only at c1;omega) a2⟩) (λc1=>?_);let c1':a<b:=by dsimp only at c1;omega
   calc wpS_bind (Hm R hk hv cb () (by dsimp only;omega) ?_);dsimp only;by_cases hl:KR r (arrOf st'') (lo+k)<KR r (arrOf st'') (lo+(a+b) / 2)
   .rw[Ap hl,AD rfl];refine wpS_pure ⟨rfl,a,(a+b) / 2,rfl,(),(),(),q4,λi a1 a2=>?_⟩;have:=hu (lo+(a+b) / 2) (lo+i) () () ();omega
   .rw[Aa hl,AE ()];refine wpS_pure ⟨rfl,(a+b) / 2+1,b,rfl,(),(),(),λi a1=>?_,q5⟩;have:=hu (lo+i) (lo+(a+b) / 2) () () ();omega
  case post1=>
   intro c st'' hI;refine qz λG=>?_;let⟨eI1,a,b,eI2,q1,q4,q5⟩:=hI;calc G ?_;clear G;subst eI1 eI2;refine wpS_bind (wpS_modify (wpS_pure ⟨rfl,cb.bub () (by dsimp only;omega) (by dsimp only;omega),λi j a1 a2 a3=>?_⟩));let hs:lo+k<(arrOf st'').size:=by rw[cb.size];omega
   show KR r (bubble (arrOf st'') (lo+k) (lo+k-(lo+a))) i<=KR r (bubble (arrOf st'') (lo+k) (lo+k-(lo+a))) j;rw[SY hs (),SY hs ()];rw[show lo+k-(lo+k-(lo+a))=lo+a by omega];by_cases i1:i=lo+a
   .rw[AD i1];by_cases j1:j=lo+a
    .rw[AD j1];exact AF _
    .rw[AE j1,AD ()];have:=q5 (j-1-lo) () ();rw[show lo+(j-1-lo)=j-1 by omega]at this;exact this
   .rw[AE i1];by_cases i2:lo+a<i/\i<=lo+k
    .rw[AD i2,AE (),AD ()];exact hu _ _ () () ()
    .rw[AE i2];by_cases j1:j=lo+a
     .rw[AD j1];have:=q4 (i-lo) ();rw[show lo+(i-lo)=i by omega]at this;exact this
     .rw[AE j1];by_cases j2:lo+a<j/\j<=lo+k
      .rw[AD j2];exact hu _ _ a1 () ()
      .rw[AE j2];calc hu _ _ a1 a2 ()
end
def Cq:Nat->List (List Keyed)->List (Nat × Nat)
 |_,[]=>[]
 |o,R::Rs=>(o,R.length)::Cq (o+R.length) Rs
theorem KJ:∀ (o:Nat) (As Bs:List (List Keyed)),Cq o (As++Bs)=Cq o As++Cq (o+As.flatten.length) Bs
 |o,[],Bs=>by simp[Cq]
 |o,R::As,Bs=>by
  rw[List.cons_append,Cq,Cq,KJ];simp only[List.cons_append,D6,AW];rw[Nat.add_assoc]
theorem NO:∀ (o:Nat) (As:List (List Keyed)),(Cq o As).length=As.length
 |_,[]=>rfl
 |o,R::As=>by rw[Cq,B4,NO,B4]
abbrev two (p:Nat × Nat × Nat):Nat × Nat:=(p.1,p.2.1)
structure Run (κ:SortKind) (r:Yr) (a₀:List Keyed) (st:SortSt) (Rs:List (List Keyed)) (rest:List Keyed):Prop where
 k:kindOf st=κ
 f:failedOf st=none
 arr:(arrOf st).toList=Rs.flatten++rest
 perm:(arrOf st).toList.Perm a₀
 srt:∀ X∈Rs,X≠[]/\X.Pairwise (leR r)
 pd:(pendingOf st).toList.map two=Cq 0 Rs
section
variable {prog:Ym} {w:Yo} {A:Yn} {E:Yc} {s:Yl} {κ:SortKind} {vs:Yf} {r:Yr} {a₀:List Keyed} {st:SortSt} {Rs:List (List Keyed)} {rest:List Keyed}
def Run.plen (h:Run κ r a₀ st Rs rest):(pendingOf st).size=Rs.length:=by
 have:=Bo List.length h.pd;rw[AI,NO]at this;simpa using this
def dQ (h:i+1<Rs.length):∃ As R1 R2 Bs,Rs=As++R1::R2::Bs/\As.length=i:=by
 calc ⟨Rs.take i,Rs[i],Rs[i+1],Rs.drop (i+2),?_,by rw[Bp];omega⟩;conv=>lhs;rw[<-Ep i Rs,List.drop_eq_getElem_cons (by omega:i<Rs.length),List.drop_eq_getElem_cons h]
def Pd (R:Cp prog w s κ vs r) (hv:∀ x∈a₀,x.1∈vs) (h:Run κ r a₀ st Rs rest) (hi:i+1<Rs.length)
  (q:∀ st' Rs',Run κ r a₀ st' Rs' rest->Rs'.length+1=Rs.length->Rs'.flatten.length=Rs.flatten.length->Q true st'):wpS (model prog w) A E s (mergeAt' i) Q st:=by
 let⟨As,R1,R2,Bs,rfl,rfl⟩:=dQ hi;let pd:=h.pd;rw[KJ,Cq,Cq]at pd;let⟨PA,P1,e1,e2,e3⟩:=List.map_eq_append_iff.mp pd;let⟨p1,P2,e4,e5,e6⟩:=List.map_eq_cons_iff.mp e3;let⟨p2,PB,e7,e8,e9⟩:=List.map_eq_cons_iff.mp e6;subst e4 e7;let⟨x1,x2,pw⟩:=p1;let⟨y1,y2,pw2⟩:=p2;let hPA:PA.length=As.length:=by have:=Bo List.length e2;rw[AI,NO]at this;exact this
 obtain ⟨rfl,rfl⟩:x1=0+As.flatten.length/\x2=R1.length:=by have:=e5;simp only[two,Prod.mk.injEq]at this;exact this
 obtain ⟨rfl,rfl⟩:y1=0+As.flatten.length+R1.length/\y2=R2.length:=by have:=e8;simp only[two,Prod.mk.injEq]at this;exact this
 let a1:(pendingOf st)[As.length]?=some (0+As.flatten.length,R1.length,pw):=by
  rw[<-BZ,e1,CQ (),hPA];simp
 let a2:(pendingOf st)[As.length+1]?=some (0+As.flatten.length+R1.length,R2.length,pw2):=by
  rw[<-BZ,e1,CQ (),show As.length+1-PA.length=1 by omega];rfl
 let s1:=h.srt R1 (by simp);let s2:=h.srt R2 (by simp);let harr:(arrOf st).toList=As.flatten++(R1++(R2++(Bs.flatten++rest))):=by rw[h.arr];simp
 refine ZV R h.k h.f harr (λx hx=>hv x (h.perm.mem_iff.mp hx)) () rfl rfl rfl (List.length_pos_iff.mpr s1.1) (List.length_pos_iff.mpr s2.1) s1.2 s2.2 a1 a2 λm st' hk hf hp ha hpm hs=>?_;let hml:m.length=R1.length+R2.length:=by rw[hpm.length_eq,AW]
 refine q st' (As++m::Bs) ⟨hk,hf,by rw[ha];simp,?_,λX hX=>?_,?_⟩ (by simp;omega) (by simp;omega)
 .refine List.Perm.trans ?_ h.perm;rw[ha,harr];calc List.Perm.append_left _ ?_;rw[<-B7 R1];exact List.Perm.append_right _ hpm
 .rcases AO.mp hX with z|z
  .exact h.srt X (by simp[z])
  .rcases AJ.mp z with z|z
   .subst z;refine ⟨λe=>?_,hs⟩;rw[e]at hml;have:=List.length_pos_iff.mpr s1.1;simp at hml;omega
   .exact h.srt X (by simp[z])
 .rw[hp];let hz:As.length+1<(pendingOf st).size:=(Array.getElem?_eq_some_iff.mp a2).1;let e10:(((pendingOf st).setIfInBounds As.length (0+As.flatten.length,R1.length+R2.length,pw)).eraseIdxIfInBounds (As.length+1)).toList=PA++(0+As.flatten.length,R1.length+R2.length,pw)::PB:=by
   rw[Array.toList_eraseIdxIfInBounds,Array.toList_setIfInBounds,e1,<-hPA,List.set_append_right _ _ (AF _),List.eraseIdx_append_of_length_le ()];simp
  rw[e10,Cg,Af,KJ,Cq,e2,hml,e9,Nat.add_assoc (0+As.flatten.length)]
end
section
variable {prog:Ym} {w:Yo} {A:Yn} {E:Yc} {s:Yl} {κ:SortKind} {vs:Yf} {r:Yr} {a₀:List Keyed} {st st1:SortSt} {Rs:List (List Keyed)} {rest W:List Keyed} {lo n:Nat}
def Run.total (h:Run κ r a₀ st Rs rest):Rs.flatten.length+rest.length=a₀.length:=by
 have:=h.perm.length_eq;rw[h.arr,AW]at this;calc this
def Run.size (h:Run κ r a₀ st Rs rest):(arrOf st).size=a₀.length:=by rw[<-BM];calc h.perm.length_eq
def Tx (h:Run κ r a₀ st Rs rest) (c:CB lo st st1) (hl:lo=Rs.flatten.length):∃ W,Run κ r a₀ st1 Rs W/\W.length=rest.length:=by
 let ht:=h.total;let hz:(arrOf st1).toList.length=a₀.length:=by rw[BM,c.size,h.size]
 let e:(arrOf st1).toList.take lo=Rs.flatten:=by
  apply List.ext_getElem?;intro i;rw[List.getElem?_take];by_cases hi:i<lo
  .rw[AD hi,BZ,c.pre i hi,<-BZ,h.arr,AY ()]
  .rw[AE hi,E4 ()]
 calc ⟨(arrOf st1).toList.drop lo,⟨c.k.trans h.k,c.f.trans h.f,?_,(Array.perm_iff_toList_perm.mp c.perm).trans h.perm,h.srt,by rw[c.p];calc h.pd⟩,by rw[List.length_drop];omega⟩;rw[<-e,Ep]
def Uz (h:Run κ r a₀ st Rs W) (hl:lo=Rs.flatten.length) (hn:n<=W.length) (hu:RUp r (arrOf st) lo (lo+n)):(W.take n).Pairwise (leR r):=by
 rw[List.pairwise_iff_getElem];intro i j hi hj hij;rw[Bp]at hi hj;let at_:∀ (k:Nat) (hk:k<W.length),KR r (arrOf st) (lo+k)=r (W[k]).1:=λk hk=>by
  erw[KR];rw[<-BZ,h.arr,CQ (),show lo+k-Rs.flatten.length=k by omega,AL hk]
 have:=hu (lo+i) (lo+j) () () ();rw[at_ i (),at_ j ()]at this;rw[List.getElem_take,List.getElem_take];calc this
def YJ (h:Run κ r a₀ st Rs W) (hl:lo=Rs.flatten.length) (n1:1<=n) (hn:n<=W.length) (hs:(W.take n).Pairwise (leR r)):Run κ r a₀ (setPending st ((pendingOf st).push (lo,n,0))) (Rs++[W.take n]) (W.drop n):=by
 refine ⟨h.k,h.f,?_,h.perm,λX hX=>?_,?_⟩
 .show (arrOf st).toList=_;rw[h.arr];simp
 .rcases AO.mp hX with z|z
  .exact h.srt X z
  .rw[AR.mp z];exact ⟨λe=>by have:=Bo List.length e;rw[Bp,DV]at this;omega,hs⟩
 .show ((pendingOf st).push (lo,n,0)).toList.map two=_;rw[Array.toList_push,Cg,h.pd,KJ,hl];simp[Cq,Bp];omega
def Y9 (hn:n<=W.length):(Rs++[W.take n]).flatten.length=Rs.flatten.length+n:=by
 simp[Bp];omega
def Pe (h:Run κ r a₀ st Rs W) (hl:lo=Rs.flatten.length) (n1:1<=n) (hn:n<=W.length) (hs:(W.take n).Pairwise (leR r)) (hx:x<=lo) (hz:Rs.length<=lo) :
  ∃ lo2 Rs2 rest2,((none:Option Unit),lo+n)=(none,lo2)/\Run κ r a₀ (setPending st ((pendingOf st).push (lo,n,0))) Rs2 rest2/\lo2=Rs2.flatten.length/\x+1<=lo2/\Rs2.length<=lo2 :=
 ⟨_,_,_,rfl,YJ h hl n1 hn hs,by rw[Y9 hn,hl],(),by rw[AW];simp only[B4,DV];omega⟩
def VA [Decidable c] (h:1<n) (e:n=m):(if c then n-2-1 else n-2)+1<m:=by
 split <;> omega
def Vu (h:Run κ r a₀ st Rs W) (f:Nat × Nat × Nat->Nat × Nat × Nat) (hf:∀ p,two (f p)=two p) (i:Nat):Run κ r a₀ (setPending st ((pendingOf st).modify i f)) Rs W:=by
 calc ⟨h.k,h.f,h.arr,h.perm,h.srt,?_⟩;show ((pendingOf st).modify i f).toList.map two=_;rw[Array.toList_modify,<-h.pd];apply List.ext_getElem?;intro j;rw[Ac,Ac,List.getElem?_modify];cases (pendingOf st).toList[j]? with
 |none=>rfl
 |some p=>
  by_cases z:i=j
  .simp[z,hf]
  .simp[z]
set_option maxHeartbeats 4000000 in
def XJ (R:Cp prog w s κ vs r) (hv:∀ x∈a₀,x.1∈vs) (h:Run κ r a₀ st [] a₀)
  (q:∀ st',failedOf st'=none->Mgd (leR r) a₀ (arrOf st').toList->Q Unit.unit st'):wpS (model prog w) A E s sortRuns' Q st:=by
 let hN:=h.size;calc wpS_bind (wpS_get ?_);refine wpS_bind (wpS_mono (wpS_forRange (I:=λx c st'=>∃ lo Rs rest,c=(none,lo)/\Run κ r a₀ st' Rs rest/\lo=Rs.flatten.length/\x<=lo/\Rs.length<=lo) (Q:=λc st'=>∃ lo Rs,c=(none,lo)/\Run κ r a₀ st' Rs []/\Rs.length<=lo/\lo<=a₀.length) ?step ?fin ⟨0,[],a₀,rfl,h,rfl,AF _,AF _⟩) ?post)
 case fin=>
  intro c st' hI;refine qz λG=>?_;let⟨lo,Rs,rest,eI1,h,hlo,hp,hz⟩:=hI;calc G ?_;clear G;subst eI1;let ht:=h.total;have:rest=[]:=F3.mp (by have:max 0 (arrOf st).size<=lo:=hp;omega);subst this;exact ⟨lo,Rs,rfl,h,hz,()⟩
 case post=>
  intro c st' hI;refine qz λG=>?_;let⟨lo,Rs,eI1,h,hz,hz2⟩:=hI;calc G ?_;clear G;subst eI1;refine wpS_bind (wpS_mono (wpS_forRange (I:=λx c st'=>c=(none,Unit.unit) /\ ∃ Rs,Run κ r a₀ st' Rs []/\Rs.length+x<=max (a₀.length) (x+1)) (Q:=λc st'=>c=(none,Unit.unit) /\ ∃ Rs,Run κ r a₀ st' Rs []/\Rs.length<=1) ?step2 ?fin2 ⟨rfl,Rs,h,()⟩) ?post2)
  case fin2=>
   intro c st' hI;refine qz λG=>?_;let⟨eI1,Rs,h,hx⟩:=hI;calc G ?_;clear G;subst eI1;let hx':Rs.length+max 0 (arrOf st).size<=max a₀.length (max 0 (arrOf st).size+1):=hx;exact ⟨rfl,Rs,h,()⟩
  case post2=>
   intro c st' hI;refine qz λG=>?_;let⟨eI1,Rs,h,hx⟩:=hI;calc G ?_;clear G;subst eI1;calc wpS_pure (q st' h.f ⟨h.perm,?_⟩);rw[h.arr,CU];match Rs,hx,h with
   |[],_,_=>calc .nil
   |[X],_,h=>simpa using (h.srt X (by simp)).2
   |_::_::_,hx,_=>simp at hx
  case step2=>
   intro x c st' _ hx hI;refine qz λG=>?_;let⟨eI1,Rs,h,hr⟩:=hI;calc G ?_;clear G;subst eI1;calc wpS_bind (wpS_get ?_);let hpl:=h.plen;refine zZ (λc1=>wpS_pure ⟨rfl,Rs,h,Ar (Nat.le_of_eq hpl.symm) c1⟩) (λc1=>?_);let c1':1<(pendingOf st').size:=by have:¬ (pendingOf st').size<=1:=c1;omega
   refine wpS_bind (Pd R hv h ?_ λst2 Rs2 h2 l1 l2=>?_)
   .exact VA c1' hpl
   .exact zZ (λz=>absurd z ()) (λ_=>wpS_pure ⟨rfl,Rs2,h2,()⟩)
 case step=>
  intro x c st' _ hx hI;refine qz λG=>?_;let⟨lo,Rs,rest,eI1,h,hlo,hp,hz⟩:=hI;calc G ?_;clear G;subst eI1;let ht:=h.total;refine zZ (λc1=>?_) (λc1=>?_)
  .have c1':(arrOf st).size<=lo:=c1;have:rest=[]:=F3.mp ();subst this;exact wpS_pure ⟨lo,Rs,rfl,h,hz,()⟩
  let c1':lo<(arrOf st).size:=Nat.lt_of_not_le c1;let hv':∀ x∈(arrOf st').toList,x.1∈vs:=λx hx=>hv x (h.perm.mem_iff.mp hx);refine wpS_bind (Us (lo:=lo) (nrem:=(arrOf st).size-lo) R h.k hv' (by rw[h.size];omega) () λn st1 cb n1 n2 hu=>?_);refine zZ (λc2=>?_) (λc2=>?_)
  case' refine_1=>
   calc wpS_bind (wpS_lift (Bx ⟨rfl,?_⟩));let c2':n<minRun' (arrOf st).size (arrOf st).size 0:=c2;refine wpS_bind (W4 (n:=min ((arrOf st).size-lo) (minRun' (arrOf st).size (arrOf st).size 0)) R h.k hv' cb (by rw[h.size];omega) n1 () hu λst2 cb2 hu2=>?_);replace n1:1<=min ((arrOf st).size-lo) (minRun' (arrOf st).size (arrOf st).size 0):=()
   replace n2:min ((arrOf st).size-lo) (minRun' (arrOf st).size (arrOf st).size 0)<=(arrOf st).size-lo:=()
   refine zZ (λz=>absurd z ()) (λ_=>?_);replace hu:=hu2;replace cb:=cb2
  all_goals
   let⟨W,hW,hWl⟩:=Tx h cb hlo;let n3:=Ar n2 (show (arrOf st).size-lo<=W.length by omega);let hs:=Uz hW hlo n3 hu;calc wpS_bind (wpS_get ?_);split
   .refine wpS_bind (wpS_mono (wpS_forRange (I:=λy c st3=>c=(none,Unit.unit) /\ ∃ Rs3,Run κ r a₀ st3 Rs3 W/\Rs3.flatten.length=Rs.flatten.length/\Rs3.length<=lo) (Q:=λc st3=>c=(none,Unit.unit) /\ ∃ Rs3,Run κ r a₀ st3 Rs3 W/\Rs3.flatten.length=Rs.flatten.length/\Rs3.length<=lo) ?step3 (λ_ _ z=>z) ⟨rfl,Rs,hW,rfl,hz⟩) ?post3)
    case step3=>
     intro y c st3 _ _ hI;refine qz λG=>?_;let⟨eI1,Rs3,h3,l3,z3⟩:=hI;calc G ?_;clear G;subst eI1;calc wpS_bind (wpS_get ?_);let hpl:=h3.plen;dsimp only;by_cases hp1:(pendingOf st3).size>1
     .obtain ⟨p,ep⟩:∃ p,(pendingOf st3)[(pendingOf st3).size-2]?=some p:=⟨_,Co ()⟩;rw[AD hp1,ep];refine zZ (λ_=>wpS_pure ⟨rfl,Rs3,h3,l3,z3⟩) (λ_=>?_);refine wpS_bind (Pd R hv h3 (i:=(pendingOf st3).size-2) () λst4 Rs4 h4 l4 z4=>?_);exact zZ (λz=>absurd z ()) (λ_=>wpS_pure ⟨rfl,Rs4,h4,(),()⟩)
     .rw[AE hp1];exact wpS_pure ⟨rfl,Rs3,h3,l3,z3⟩
    case post3=>
     intro c st3 hI;refine qz λG=>?_;let⟨eI1,Rs3,h3,l3,z3⟩:=hI;calc G ?_;clear G;subst eI1;calc wpS_bind (wpS_modify (wpS_bind (wpS_modify (wpS_pure ?_))));calc Pe (Vu h3 _ ?_ _) (hlo.trans l3.symm) n1 n3 hs hp z3;rintro ⟨a,b,c⟩;rfl
   .exact wpS_bind (wpS_modify (wpS_pure (Pe hW hlo n1 n3 hs hp hz)))
end
section
variable {prog:Ym} {w:Yo} {A:Yn} {E:Yc} {s:Yl} {κ:SortKind} {vs:Yf} {r:Yr}
def WB (R:Cp prog w s κ vs r):wpS (model prog w) A E s sortRuns' (λ_ st=>failedOf st=none/\((arrOf st).map (·.2)).toList.Perm vs/\((arrOf st).map (·.2)).toList.Pairwise λx y=>r x<=r y) (SortSt.mk' κ (pairsOf vs) #[] 7 none):=by
 let hz:(pairsOf vs).toList=vs.zip vs:=pairsOf_toList vs;let hv:∀ p∈(pairsOf vs).toList,p.1∈vs:=λp hp=>by rw[hz]at hp;exact (mem_zip_self hp).2
 refine XJ R hv ⟨rfl,rfl,rfl,.refl _,(λX hX=>absurd hX (by simp)),rfl⟩ λst hf hm=>⟨hf,?_,?_⟩
 .rw[Array.toList_map];have:=hm.1.map (·.2);rw[hz,List.map_snd_zip (AF _)]at this;exact this
 .rw[Array.toList_map];refine List.pairwise_map.mpr ((List.Pairwise.and_mem.mp hm.2).imp λ{x y} h=>?_);let hx:=(mem_zip_self (hz▸hm.1.mem_iff.mp h.1)).1;let hy:=(mem_zip_self (hz▸hm.1.mem_iff.mp h.2.1)).1;rw[<-hx,<-hy];calc h.2.2
def hJ
  (hc:wpAny (model prog w) A.in1 (collect v) (λvs s1=>vs.length<=sizeLine/\LS s1.heap vs /\
   ∀ (h':Heap) (out:List Value) (n:Nat),(∀ b u,s1.heap.get? b=some u->h'.get? b=some u)->h'.get? ⇑s1=some (seqObj "list" out.toArray n)->out.Perm vs->out.Pairwise (λx y=>Ah (Cs s1.heap y) (Cs s1.heap x)=false)->Q (.ref ⇑s1) { s1 with heap:=h' }) E s) :
  wpAny (model prog w) A (call (.builtin "sorted") [v]) Q E s:=by
 calc Calls.call_function_entry kind_sorted plain_sorted entry_sorted (args_sorted1 _) ?_;unfold Builtin.«sorted»;calc AA (AB ?_);refine AA (AX hc (λvs s1 z=>?_) λ_ _ e=>e);let⟨hz,ht,h⟩:=z;calc AA (wpAny_newList ?_ hz);let hoL:(s1.heap.push (seqObj "list" vs.toArray 0)).get? ⇑s1=some (seqObj "list" vs.toArray 0):=AM _ rfl;refine AA (CD (BQ slot_list_sort ⟨_,hoL,rfl⟩ entry_list_sort (gF (κ:=tuples' true) (F:=λout=>out.toList.Perm vs/\out.toList.Pairwise (λx y=>Ah (Cs s1.heap y) (Cs s1.heap x)=false)) hoL hz (λout e=>by rw[<-BM];calc e.1.length_eq) (λh2=>⟨by simp,?_⟩) ?_ λout e=>⟨_,rfl,?_⟩) (args_list_sort _)))
 .match vs,h2 with
  |[],_=>calc .nil
  |[x],_=>simp
  |_::_::_,h2=>simp at h2;omega
 .intro h2 h6 k6;let kT:∀ {v xs},Ba s1.heap v xs->Ba h6 v xs:=λ{v xs} t=>t.keep λb o _ e=>k6 b o (λz=>BY _ (z▸AH e)) (AG _ e);let ht6:LS h6 vs:=λv hv=>let ⟨x,xs,t⟩:=ht v hv;⟨x,xs,kT t⟩;refine ⟨λA E Q q=>?_,λA E=>wpS_mono (WB (XW ht6)) ?_⟩
  .match vs,h2,ht6 with
   |v::vs,_,ht6=>exact Xu ht6 q
  .rintro _ st ⟨e1,e2,e3⟩;refine ⟨e1,e2,(List.Pairwise.and_mem.mp e3).imp λ{x y} z=>?_⟩;let mx:=e2.mem_iff.mp z.1;let my:=e2.mem_iff.mp z.2.1;let⟨a,as,tx⟩:=ht x mx;let⟨b,bs,ty⟩:=ht y my;rw[Fl tx,Fl ty,<-Fl (kT tx),<-Fl (kT ty),Rn (List.mem_map_of_mem my) (List.mem_map_of_mem mx)];have:rkV h6 vs x<=rkV h6 vs y:=z.2.2;erw[rkV]at this;exact Aa ()
 .refine AB ⟨_,rfl,?_⟩;let g1:=get?_update_seq hoL (λ_=> #[]);let g4:=get?_update_seq (AG (seqObj "list" #[] 0) (AG (seqObj "tuple" vs.toArray 0) g1)) (λ_=>out);refine h _ out.toList _ (λb u e=>?_) (by rw[Array.toArray_toList];calc g4) e.1 e.2;let hb:⇑s1≠b:=λz=>BY _ (z▸AH e);calc (EF _ _ hb).trans (AG _ (AG _ ((EF _ _ hb).trans (AG _ e))))
def leL (a b:Ye):Bool:=!Ah b a
def Av (ts:Ya):List (List Int):=ts.mergeSort leL
def gC (a b c:Ye) (h1:leL a b=true) (h2:leL b c=true):leL a c=true:=by
 unfold leL at *;rw[Bool.not_eq_true']at *;cases e:Ah c a with
 |false=>rfl
 |true=>
  cases e2:Ah b a with
  |true=>rw[e2]at h1;ext h1
  |false=>
   cases e3:Ah a b with
   |true=>rw[J7 e e3]at h2;ext h2
   |false=>rw[Jk e2 e3]at h2;rw[h2]at e;ext e
def lF (a b:Ye):(leL a b||leL b a)=true:=by
 erw[leL];cases e:Ah b a with
 |false=>rfl
 |true=>
  cases e2:Ah a b with
  |false=>rfl
  |true=>have:=J7 e e2;rw[K8]at this;ext this
def Fe (ts:Ya):(Av ts).Perm ts:=List.mergeSort_perm ts leL
def UZ (ts:Ya):(Av ts).Pairwise λa b=>Ah b a=false:=(List.pairwise_mergeSort gC lF ts).imp λ{a b} h=>by erw[leL]at h;simpa using h
theorem Oa:∀ {xs ys:Ya},xs.Perm ys->xs.Pairwise (λa b=>Ah b a=false)->ys.Pairwise (λa b=>Ah b a=false)->xs=ys
 |[],ys,h,_,_=>by rw[List.nil_perm.mp h]
 |x::xs,[],h,_,_=>by have:=h.length_eq;simp at this
 |x::xs,y::ys,h,hx,hy=>by
  let px:=CV.mp hx;let py:=CV.mp hy;let e:x=y:=by
   let m1:x∈y::ys:=h.mem_iff.mp AZ;let m2:y∈x::xs:=h.mem_iff.mpr AZ;rcases AJ.mp m1 with z|z
   .exact z
   .rcases AJ.mp m2 with z'|z'
    .exact z'.symm
    .exact Jk (py.1 x z) (px.1 y z')
  subst e;rw[Oa (List.Perm.cons_inv h) px.2 py.2]
def jW (h:xs.Perm ts) (hp:xs.Pairwise λa b=>Ah b a=false):xs=Av ts:=Oa (h.trans (Fe ts).symm) hp (UZ ts)
end
end ST
namespace L3
open L2 ST
def Jz (H:Hp) (ys:List V) (ts:Ya):Prop:=ys.length=ts.length /\ ∀ (i:Nat) t,ts[i]?=some t -> ∃ b,ys[i]?=some (.ref b)/\H b=some (.tup ((kkI t).map kV))
def iQ (hl:its.length=ts.length) (ha:∀ (i:Nat) u,its[i]?=some u -> ∃ t b,ts[i]?=some t/\u=.ref b/\H b=some (.tup ((kkI t).map kV))/\Ba h1 (.ref b) t)
  (hp:out.Perm its) (hs:out.Pairwise λx y=>Ah (Cs h1 y) (Cs h1 x)=false):∃ ys,za ys out/\Jz H ys (Av ts):=by
 let key:∀ u∈its,∃ t b,u=.ref b/\H b=some (.tup ((kkI t).map kV))/\Cs h1 u=t:=λu hu=>by
  let⟨i,hi⟩:=List.mem_iff_getElem?.mp hu;let⟨t,b,_,rfl,e1,e2⟩:=ha i u hi;exact ⟨t,b,rfl,e1,Fl e2⟩
 let e0:its.map (Cs h1)=ts:=by
  apply List.ext_getElem?;intro i;rw[Ac];by_cases hi:i<its.length
  .rw[AL hi];let⟨t,b,e1,e2,_,e4⟩:=ha i _ (AL hi);rw[e1,e2];exact Bo some (Fl e4)
  .rw[E4 (),E4 ()];rfl
 let e1:out.map (Cs h1)=Av ts:=jW (by rw[<-e0];calc hp.map _) (List.pairwise_map.mpr hs);refine ⟨out.map λu=>match u with|.ref b=> .ref b|_=> .non,?_,?_,λi t et=>?_⟩
 .refine O7 (by simp) λi y u ey eu=>?_;rw[Ac,eu]at ey;let⟨t,b,rfl,_⟩:=key u (hp.mem_iff.mp (BD eu));ext ey;rfl
 .rw[AI,<-e1,AI]
 .rw[<-e1,Ac]at et;cases eu:out[i]? with
  |none=>rw[eu]at et;ext et
  |some u=>
   rw[eu]at et;let⟨t',b,rfl,e2,e3⟩:=key u (hp.mem_iff.mp (BD eu));let et':Cs h1 (.ref b)=t:=Bh et;rw[e3]at et';subst et';calc ⟨b,by rw[Ac,eu];rfl,e2⟩
theorem Qf:∀ {ts:Ya} {ys:List V},Jz H ys ts->zI L H (ts.map λt=>D.tup (t.map D.int)) ys
 |[],ys,h=>by
  have:ys=[]:=F3.mp h.1;subst this;calc .nil
 |t::ts,[],h=>by have:=h.1;ext this
 |t::ts,y::ys,h=>by
  let⟨b,e1,e2⟩:=h.2 0 t rfl;ext e1;refine .cons (Lx ?_ e2) (Qf ⟨Nat.succ.inj h.1,λi u e=>by let⟨b,q1,q2⟩:=h.2 (i+1) u (~~~e);calc ⟨b,by simpa using q1,q2⟩⟩);calc Mz (Fq t)
section
variable {X:Cx}
def HU (ts:Ya):Bool:=ts.all λt=> !t.isEmpty
def X7 (h:HU ts=true):∀ t∈ts,t≠[]:=λt ht e=>by
 erw[HU]at h;rw[Aj]at h;have:=h t ht;rw[e]at this;ext this
end
def Hr (d:Yt) (o:Obj) (kvs:List (List Key × V)):It :=
 ⟨λi H=>H d=some (.frz o (.dT kvs))/\i<kvs.length,
  λi H v H'=>∃ b k x,kvs[i]?=some (k,x)/\v=.ref b/\H b=some (.tup (k.map kV))/\H'=H,
  λi H=>H d=some (.frz o (.dT kvs))/\kvs.length<=i⟩
def PR {P:Ym} {w:Yo} {K:Yb} {tg:Expr} {it d:Yt} {o:Obj} {kvs:List (List Key × V)} {es:Array DictEntry} {en:Nat} (hd:o.data=.dict es en) :
  Turn P w K tg (Hr d o kvs) [it] it (λi h=>h.IsKeyIter it d i es.size en) where
 mem:=AR.mpr rfl;obj:=λi h he c hc=>by
  cases AR.mp hc;let⟨q,h1,h2,h3⟩:=he;exact ⟨_,h1,λv m=>by rw[h3]at m;ext m⟩
 keep:=λi h h' he k=>by
  let⟨q,h1,h2,h3⟩:=he;exact ⟨q,k it (AR.mpr rfl) _ h1,h2,h3⟩
 item:=by
  intro X hP hw hK hc i zB s Y H E I hf he hg;subst hP hw hK;let⟨hg,hi⟩:=hg;let⟨h0,xs,r,h4,hl⟩:=KH I hd hg;rcases hkx:kvs[i]with ⟨k,x⟩;let hk:kvs[i]?=some (k,x):=by rw[AL hi,hkx]
  let⟨b,u,h5,h6,h7⟩:=ND r hk;let hx:es[i]?=some (entryOfKey (tupleKind (Bl X.prog X.w)) (k,b,u)):=by
   rw[<-BZ,h4,Ac,h5];rfl
  refine SA he h0 hd hx λh' he' hs'=>⟨_,rfl,?_⟩;let⟨q,h8,h9,h10⟩:=id he';refine Hy h8 h9 h10 () ⟨.ref b,H,Iy (s:=s) (h':=h') (t':=s.toks) I hf λc q n z=>hs'.extBut c q (λy=>n (AR.mpr y)) z,rfl,⟨b,k,x,hk,rfl,h6,rfl⟩,he',λc hm=>(hf c hm).1⟩
 done:=by
  intro X hP hw hK hc i zB s Y H E I hf he hg;subst hP hw hK;let⟨hg,hi⟩:=hg;let⟨h0,xs,r,h4,hl⟩:=KH I hd hg;exact Rz (I.ok.hd hc) he h0 hd () λh' x=>⟨rfl,Iy (s:=s) (h':=h') (t':=s.toks) I hf λc q n z=>x c q (λy=>n (AR.mpr y)) z⟩
 self:=λA i s Q E he h=>wpAny_pyIter_keyiter he h
section
variable {X:Cx} {e:Expr} {tg:Expr} {f:FE}
def aB {td:TE} (ho:PE X e td):PI X tg e (λY H R=>td Y H λx H1=>∃ d kvs,x=.ref d/\((H1 d=some (.dT kvs) /\ ∀ o,R (Hr d o kvs) (upd H1 d (.frz o (.dT kvs)))) \/ ∃ o,H1 d=some (.frz o (.dT kvs))/\R (Hr d o kvs) H1)):=by
 intro zB s Y H R I h;refine thn (ho zB s Y H _ I h) λv s1 ⟨x,H1,I1,r1,d,kvs,ex,q⟩=>?_;subst ex;ext r1;rcases q with ⟨ed,q⟩|⟨o,ed,q⟩
 .obtain ⟨t1,t2,t3⟩:=KU I1 (.inr ⟨kvs,.inl ed⟩);let⟨o,es',en,h1,h3,I0⟩:=R9 I1 ed;calc Np (o:=o) (es:=es') (ep:=en) t3 t1 h1 h3 ?_;refine ⟨_,[_],_,_,_,rfl,I0.kept (t':=s1.toks) λb q z=>AG _ z,PR h3,⟨_,AM _ rfl,rfl,rfl⟩,λc hc=>?_,q o⟩;cases AR.mp hc;exact I0.fpOk (AF _) (I0.hok.fresh (AF _))
 .obtain ⟨t1,t2,t3⟩:=KU I1 (.inr ⟨kvs,.inr ⟨o,ed⟩⟩);let⟨h1,_,_,xs,r,o',es',en,h1',h2,h3,h4,h5⟩:=(show Ag X.prog X.w H1 s1.heap d (.frz o (.dT kvs))from I1.hok d _ ed);rw[h1]at h1';ext h1';calc Np (o:=o) (es:=es') (ep:=en) t3 t1 h1 h3 ?_;refine ⟨_,[_],_,_,_,rfl,I1.kept (t':=s1.toks) λb q z=>AG _ z,PR h3,⟨_,AM _ rfl,rfl,rfl⟩,λc hc=>?_,q⟩;cases AR.mp hc;calc I1.fpOk (AF _) (I1.hok.fresh (AF _))
def Qu (f:FE):FI:=λY M=>match f Y M with
 |some (.dat (.ref n),M1)=>match M1[n]? with
  |some (.dicT ps)=>some (ps.map (·.1),none,M1.set n (.froT ps))
  |some (.froT ps)=>some (ps.map (·.1),none,M1)
  |_=>none
 |_=>none
def Xv (h:QE X e f):QI X tg e (Qu f):=.mk <| PI.imp (aB h.un) λτ H R zz=>by
 let⟨L,Y,M,xs,gd,M',c,rs,hf,q⟩:=zz;let fin:∀ {L2:Yg} {H2:Hp} {ps:List (D × D)} {a:Yt} {o:Obj} {vs:List (List Key × V)},H2 a=some (.frz o (.dT vs))->AQ tkD L2 H2 ps vs -> ∀ (i:Nat) (d:D),(ps.map (·.1))[i]?=some d->(Hr a o vs).go i H2 /\ ∀ v H3,(Hr a o vs).yld i H2 v H3->(∀ a o,H2 a=some o->H3 a=some o)/\Rep L2 H3 d v:=by
  intro L2 H2 ps a o vs hz r4 i d hd;rw[Ac]at hd;cases hp:ps[i]? with
  |none=>rw[hp]at hd;ext hd
  |some p=>
   rw[hp]at hd;ext hd;let⟨k,x,hk,ek,rx⟩:=NR r4 hp;refine ⟨⟨hz,(AK.mp hk).1⟩,λv H3 hy=>?_⟩;let⟨b,k',x',hk',rfl,hb,rfl⟩:=hy;rw[hk]at hk';ext hk';exact ⟨λa o e=>e,Lx ek hb⟩
 erw[Qu]at hf;cbv at hf
 .rename_i n M1 e1;cbv at hf
  .rename_i ps e2;ext hf;refine (mkE c rs e1 (λL1 H1 v s1 c1 r1=>?_));erw[zX,Rep]at r1;let⟨a,rfl,ea⟩:=r1;let⟨vs,e3,r3⟩:=c1.obj n a _ ea e2;refine ⟨a,vs,rfl,.inl ⟨e3,λo=>?_⟩⟩;let⟨c2,s2⟩:=c1.put (m:=.froT ps) (o':=.frz o (.dT vs)) ea e3 (λ_ z=>by ext z) (λ_ _ z=>by ext z) λs2=>⟨o,_,zp,r3.stp s2⟩;refine q L1 _ _ (s1.trans s2) c2 λL2 H2 M2 s3 c3 _=>?_;let hz:H2 a=some (.frz o (.dT vs)):=s3.frz _ _ _ zp;let r4:=r3.stp (s2.trans s3);exact ⟨λi d hd=>fin hz r4 i d hd,hz,by rw[AI,r4.length];calc AF _⟩
  .rename_i ps e2;ext hf;refine (mkE c rs e1 (λL1 H1 v s1 c1 r1=>?_));erw[zX,Rep]at r1;let⟨a,rfl,ea⟩:=r1;let⟨o,vs,e3,r3⟩:=c1.obj n a _ ea e2;calc ⟨a,vs,rfl,.inr ⟨o,e3,?_⟩⟩;refine q L1 _ _ s1 c1 λL2 H2 M2 s3 c3 _=>?_;let hz:H2 a=some (.frz o (.dT vs)):=s3.frz _ _ _ e3;let r4:=r3.stp s3;exact ⟨λi d hd=>fin hz r4 i d hd,hz,by rw[AI,r4.length];calc AF _⟩
  .cases hf
 .cases hf
end
section
variable {X:Cx} {a b a2 b2 a3 b3:Expr} {pos:Pos}
def KN (k1:Str) (fv:FE) (k2:Str) (fw:FE) (k3:Str) (fz:FE):FE:=λY M=>match toD fv Y (M++[.dict []]) with
 |some (v,M1)=>match toD fw Y M1 with
  |some (w,M2)=>match toD fz Y M2 with
   |some (z,M3)=>match M3[M.length]? with
    |some (.dict [])=>if k1=k2\/k1=k3\/k2=k3 then none else some (.dat (.ref M.length),M3.set M.length (.dict [(.str k1,v),(.str k2,w),(.str k3,z)]))
    |_=>none
   |none=>none
  |none=>none
 |none=>none
def jM (h1:QE X a (fC (.str k1))) (h2:QE X b fv) (h3:QE X a2 (fC (.str k2))) (h4:QE X b2 fw) (h5:QE X a3 (fC (.str k3))) (h6:QE X b3 fz):QE X (.Dict [some a,some a2,some a3] [b,b2,b3] pos) (KN k1 fv k2 fw k3 fz):=.mk <| PE.imp (fK (JP (Ai h1).un (Ai h2).un (JP (Ai h3).un (Ai h4).un (JP (Ai h5).un (Ai h6).un Nr))) rfl rfl (by simp) (by simp)) λτ H Q ⟨L,Y,M,d,M',c,rs,hf,q⟩ p hp=>by
 erw[KN]at hf;cbv at hf
 .rename_i v M1 e2;cbv at hf
  .rename_i w M2 e4;cbv at hf
   .rename_i z M3 e6;cbv at hf
    .rename_i e5;cbv at hf
     .cases hf
     .rename_i hne;ext hf;let⟨c0,s0⟩:=c.pushO (m:=.dict []) hp ⟨[],zp,rfl⟩;refine ⟨L++[p],Y,_,_,_,c0,rs.stp s0,(rfl:toD (fC (.str k1)) Y (M++[.dict []])=some (.str k1,_)),λL1 H1 x st1 c1 r1=>⟨L1,Y,_,_,_,c1,(rs.stp s0).stp st1,e2,λL2 H2 y st2 c2 r2=>?_⟩⟩;refine ⟨L2,Y,_,_,_,c2,((rs.stp s0).stp st1).stp st2,(rfl:toD (fC (.str k2)) Y M1=some (.str k2,_)),λL3 H3 x' st3 c3 r3=>⟨L3,Y,_,_,_,c3,(((rs.stp s0).stp st1).stp st2).stp st3,e4,λL4 H4 y' st4 c4 r4=>?_⟩⟩;refine ⟨L4,Y,_,_,_,c4,((((rs.stp s0).stp st1).stp st2).stp st3).stp st4,(rfl:toD (fC (.str k3)) Y M2=some (.str k3,_)),λL5 H5 x'' st5 c5 r5=>⟨L5,Y,_,_,_,c5,(((((rs.stp s0).stp st1).stp st2).stp st3).stp st4).stp st5,e6,λL6 H6 y'' st6 c6 r6=>?_⟩⟩;let st:=(((((s0.trans st1).trans st2).trans st3).trans st4).trans st5).trans st6;let hx:x=.str k1:=by erw[Rep]at r1;exact r1
      let hx':x'=.str k2:=by erw[Rep]at r3;exact r3
      let hx'':x''=.str k3:=by erw[Rep]at r5;exact r5
      let lp:L6[M.length]?=some p:=by
       let⟨N,hN⟩:=(((((st1.trans st2).trans st3).trans st4).trans st5).trans st6).pre;rw[hN,<-c.len];simp
      let⟨vs,ev,dv⟩:=c6.obj _ p _ lp e5;erw[AQ]at dv;subst dv;let hm:GN [] [((Sum.inr k1:Key),y),(Sum.inr k2,y'),(Sum.inr k3,y'')]=[((Sum.inr k1:Key),y),(Sum.inr k2,y'),(Sum.inr k3,y'')]:=by
       erw[GN,BL];let h12:¬ ((Sum.inr k1:Key)=Sum.inr k2):=λz=>hne (.inl (Sum.inr.inj z));let h13:¬ ((Sum.inr k1:Key)=Sum.inr k3):=λz=>hne (.inr (.inl (Sum.inr.inj z)));let h23:¬ ((Sum.inr k2:Key)=Sum.inr k3):=λz=>hne (.inr (.inr (Sum.inr.inj z)));simp[h12,h13,h23,BL]
      calc ⟨ev,[(Sum.inr k1,y),(Sum.inr k2,y'),(Sum.inr k3,y'')],by rw[hx,hx',hx''];rfl,by simp,?_⟩;rw[hm];let⟨c7,s7⟩:=c6.put (m:=.dict [(.str k1,v),(.str k2,w),(.str k3,z)]) lp ev (λ_ z=>by ext z) (λ_ _ z=>by ext z) λs7=>⟨_,zp,_,y,[(Sum.inr k2,y'),(Sum.inr k3,y'')],rfl,rfl,(r2.stp (((st3.trans st4).trans st5).trans st6)).stp s7,_,y',[(Sum.inr k3,y'')],rfl,rfl,(r4.stp (st5.trans st6)).stp s7,_,y'',[],rfl,rfl,r6.stp s7,rfl⟩;calc q _ _ _ (st.trans s7) c7 ?_;erw[zX,Rep];exact ⟨p,rfl,lp⟩
    .cases hf
   .cases hf
  .cases hf
 .cases hf
end
section
variable {prog:Ym} {w:Yo} {A:Yn} {E:Yc} {s:Yl} {d:Yt} {ep:Nat} {o:Obj} {es:Array DictEntry}
def bW (hd:(d==sysModules)=false) (hT:s.TypeIs (.ref d) "dict") (ho:s.heap.get? d=some o) (hdat:o.data=.dict es ep) (hfit:(es.size:Int)<2 ^ 63)
  (h:Q (!es.isEmpty) { s with toks:=s.toks+1+1 }):wpAny (model prog w) A (truthy (.ref d)) Q E s:=by
 let hne:((es.size:Int) != 0) = !es.isEmpty:=by
  rw[Array.isEmpty];by_cases z:es.size=0
  .simp[z]
  .simp[z]
 let key:wpAny (model prog w) A (runValue (.builtin "len" ⟨[.ref d],[]⟩)) (λr s'=>r=.int es.size (s.toks+1)/\Q (!es.isEmpty) s') E s:=by
  calc wpAny_runValue (Ez entry_len ?_);rw[Fy plain_len _];unfold Builtin.«len»;calc AA (AB ?_);calc AA (CG hT F.slot_dict_len (call_meetsIn F.slot_dict_len hT F.entry_dict_len (F.args_dict_len_1 _) (cA hd) ⟨o,es,ep,ho,hdat,?_⟩));calc AA (CD (AB (AA (wpAny_letGo ?_))));rw[AE ()];rw[AE ()];exact AA (wpAny_mkInt (AB ⟨rfl,h⟩))
 erw[truthy]
 first
  |calc AA (wpAny_callSpecial?_none hT noBool_dict ?_)
  |refine AA (AB (AA (wpAny_callSpecial?_none hT noBool_dict ?_)))
 first
  |calc AA (wpAny_specialOf hT F.slot_dict_len.lookup ?_)
  |refine AA (AB (AA (wpAny_specialOf hT F.slot_dict_len.lookup ?_)))
 first
  |exact AA (AX key (λr s' h'=>by let⟨rfl,hq⟩:=h';calc AB (hne▸hq)) λ_ _ e=>e)
  |calc AA (AB (AA (AX key (λr s' h'=>by let⟨rfl,hq⟩:=h';calc AB (hne▸hq)) λ_ _ e=>e)))
end
def GL (M:Mem) (x:EV):Option (List (D × D)):=match x with
 |.dat (.ref n)=>match M[n]? with
  |some (.dicT ps)=>some ps
  |some (.froT ps)=>some ps
  |_=>none
 |_=>none
def Ol {K:Yb} {L:Yg} {M:Mem} {H H0:Hp} {x:EV} {v:V} {ps:List (D × D)} (c:Cor K L M H) (r:zX H0 L H x v) (h:GL M x=some ps):∃ a vs,v=.ref a/\Rd H a (.dT vs)/\AQ tkD L H ps vs:=by
 erw[GL]at h;cbv at h
 .rename_i n;erw[zX,Rep]at r;let⟨a,rfl,ea⟩:=r;cbv at h
  .rename_i ps' e;ext h;let⟨vs,e3,r3⟩:=c.obj n a _ ea e;exact ⟨a,vs,rfl,.inl e3,r3⟩
  .rename_i ps' e;ext h;let⟨o,vs,e3,r3⟩:=c.obj n a _ ea e;exact ⟨a,vs,rfl,.inr ⟨o,e3⟩,r3⟩
  .cases h
 .cases h
section
variable {X:Cx} {a:Expr} {f:FE}
def Hi (f:FE):FT:=λY M=>match f Y M with
 |some (x,M1)=>match GL M1 x with
  |some ps=>some (!ps.isEmpty,M1)
  |none=>none
 |none=>none
def mW (h:QE X a f) (he:∀ whole,isTrue a X.env whole=(do let v <- whole;standAt a.pos;holding [v] (truthy v)):=by intro _;rfl):QT X a (Hi f):=.mk <| by
 intro zB s τ H Q I ⟨L,Y,M,d,M',c,rs,hf,q⟩;erw[Hi]at hf;cbv at hf
 .rename_i x M1 e1;cbv at hf
  .rename_i ps e2;ext hf;refine isTrue_plain (thn (h.un zB s τ H (λv H1=>∃ L1,Stp L H L1 H1/\Cor X.K L1 M' H1/\zX H L1 H1 x v) I ⟨L,Y,M,_,_,c,rs,e1,λL1 H1 v s1 c1 r1=>⟨L1,s1,c1,r1⟩⟩) λu s1 ⟨v,H1,I1,rv,L1,st,c1,r1⟩=>?_) (he _);let⟨p,vs,rfl,rd,r3⟩:=Ol c1 r1 e2;ext rv;let hn:=Gz;let⟨z1,z2,xs,r,o,es,en,h1,h2,h3,h4,h5⟩:=(show Ag X.prog X.w H1 s1.heap p (.dT vs)from rd.ok I1.hok);let hsz:es.size=vs.length:=by rw[Paired.length r,<-BM,h4,AI]
   refine bW z2 ⟨o,h1,h2.1⟩ h1 h3 () ⟨H1,I1.tok _,?_⟩;let hl:=r3.length;have:(!es.isEmpty) = !ps.isEmpty:=by
    rw[Array.isEmpty,hsz,hl];cases ps <;> simp
   rw[this];exact q L1 H1 st c1
  .cases hf
 .cases hf
end
section
variable {X:Cx} {e:Expr} {es:Yi} {ek:Nat} {ep apos cpos:Pos} {f:FE}
def ZD (ho:PE X e td) (hbase:attributeBase e "items" X.env (eval e X.env)=eval e X.env:=by rfl) (hline:(apos.endLine==cpos.line)=true:=by rfl) :
  PI X (.Tuple es ek ep) (.Call (.Attribute e "items" apos) [] [] cpos) (λY H R=>td Y H λx H1=>∃ d kvs,x=.ref d/\((H1 d=some (.dT kvs) /\ ∀ o,R (IJ d o kvs) (upd H1 d (.frz o (.dT kvs)))) \/ ∃ o,H1 d=some (.frz o (.dT kvs))/\R (IJ d o kvs) H1)):=by
 intro zB s Y H R I h;refine wpAny_Call_method0_late hbase hline (thn (ho zB s Y H _ I h) λv s1 ⟨x,H1,I1,r1,d,kvs,ex,q⟩=>?_);subst ex;ext r1;rcases q with ⟨ed,q⟩|⟨o,ed,q⟩
 .obtain ⟨t1,t2,t3⟩:=KU I1 (.inr ⟨kvs,.inl ed⟩);refine ⟨"dict", "dict.items", PySem.F.plainAttrs_dict,PySem.F.slot_dict_items,PySem.F.type_dict_items,t1,t2,Calls.callWith_builtin rfl (PySem.evalArgs_none ?_)⟩;refine call_meetsIn PySem.F.slot_dict_items t1 PySem.F.entry_dict_items (PySem.F.args_dict_items_1 _) (OQ d t3) ⟨t1,?_⟩;let⟨o,es',en,h1,h3,I0⟩:=R9 I1 ed;refine SQ ⟨_,AM _ rfl,rfl,rfl⟩ (AG _ h1) h3 ?_;let ge:⇑s1<=(s1.heap.push { cls:=.type "dict_items", data:=.fields #[.ref d] }).objs.size:=by rw[CF];exact Nat.le_succ _
  refine ⟨_,[_],_,_,_,rfl,I0.kept λb q z=>AG _ (AG _ z),Ox h3,⟨_,_,AM _ rfl⟩,λc hc=>?_,q o⟩;cases AR.mp hc;exact I0.fpOk ge (I0.hok.fresh ge)
 .obtain ⟨t1,t2,t3⟩:=KU I1 (.inr ⟨kvs,.inr ⟨o,ed⟩⟩);refine ⟨"dict", "dict.items", PySem.F.plainAttrs_dict,PySem.F.slot_dict_items,PySem.F.type_dict_items,t1,t2,Calls.callWith_builtin rfl (PySem.evalArgs_none ?_)⟩;refine call_meetsIn PySem.F.slot_dict_items t1 PySem.F.entry_dict_items (PySem.F.args_dict_items_1 _) (OQ d t3) ⟨t1,?_⟩;let⟨h1,_,_,xs,r,o',es',en,h1',h2,h3,h4,h5⟩:=(show Ag X.prog X.w H1 s1.heap d (.frz o (.dT kvs))from I1.hok d _ ed);rw[h1]at h1';ext h1';refine SQ ⟨_,AM _ rfl,rfl,rfl⟩ (AG _ h1) h3 ?_;let ge:⇑s1<=(s1.heap.push { cls:=.type "dict_items", data:=.fields #[.ref d] }).objs.size:=by rw[CF];exact Nat.le_succ _
  refine ⟨_,[_],_,_,_,rfl,I1.kept λb q z=>AG _ (AG _ z),Ox h3,⟨_,_,AM _ rfl⟩,λc hc=>?_,q⟩;cases AR.mp hc;calc I1.fpOk ge (I1.hok.fresh ge)
def E2 (f:FE):FI:=λY M=>match f Y M with
 |some (.dat (.ref n),M1)=>match M1[n]? with
  |some (.dicT ps)=>some (ps.map λp=>D.tup [p.1,p.2],none,M1.set n (.froT ps))
  |some (.froT ps)=>some (ps.map λp=>D.tup [p.1,p.2],none,M1)
  |_=>none
 |_=>none
def cZ (h:QE X e f) (hbase:attributeBase e "items" X.env (eval e X.env)=eval e X.env:=by rfl) (hline:(apos.endLine==cpos.line)=true:=by rfl) :
  QI X (.Tuple es ek ep) (.Call (.Attribute e "items" apos) [] [] cpos) (E2 f):=.mk <| PI.imp (ZD h.un hbase hline) λτ H R zz=>by
 let⟨L,Y,M,xs,gd,M',c,rs,hf,q⟩:=zz;let fin:∀ {L2:Yg} {H2:Hp} {ps:List (D × D)} {a:Yt} {o:Obj} {vs:List (List Key × V)},H2 a=some (.frz o (.dT vs))->AQ tkD L2 H2 ps vs -> ∀ (i:Nat) (d:D),(ps.map λp=>D.tup [p.1,p.2])[i]?=some d->(IJ a o vs).go i H2 /\ ∀ v H3,(IJ a o vs).yld i H2 v H3->(∀ a o,H2 a=some o->H3 a=some o)/\Rep L2 H3 d v:=by
  intro L2 H2 ps a o vs hz r4 i d hd;rw[Ac]at hd;cases hp:ps[i]? with
  |none=>rw[hp]at hd;ext hd
  |some p=>
   rw[hp]at hd;ext hd;let⟨k,x,hk,ek,rx⟩:=NR r4 hp;refine ⟨⟨hz,(AK.mp hk).1⟩,λv H3 hy=>?_⟩;let⟨T,b,k',x',hk',rfl,hT,hb,rfl⟩:=hy;rw[hk]at hk';ext hk';exact ⟨λa o e=>by rw[zU (zm e hT)];calc e,Rep.newTup hT (.cons (Lx ek hb) (.cons rx .nil))⟩
 erw[E2]at hf;cbv at hf
 .rename_i n M1 e1;cbv at hf
  .rename_i ps e2;ext hf;refine ⟨L,Y,M,_,_,c,rs,e1,λL1 H1 v s1 c1 r1=>?_⟩;erw[zX,Rep]at r1;let⟨a,rfl,ea⟩:=r1;let⟨vs,e3,r3⟩:=c1.obj n a _ ea e2;refine ⟨a,vs,rfl,.inl ⟨e3,λo=>?_⟩⟩;let⟨c2,s2⟩:=c1.put (m:=.froT ps) ea e3 (λ_ z=>by ext z) (λ_ _ z=>by ext z) λs2=>⟨o,_,zp,r3.stp s2⟩;refine q L1 _ _ (s1.trans s2) c2 λL2 H2 M2 s3 c3 _=>?_;let hz:H2 a=some (.frz o (.dT vs)):=s3.frz _ _ _ zp;let r4:=r3.stp (s2.trans s3);exact ⟨λi d hd=>fin hz r4 i d hd,hz,by rw[AI,r4.length];calc AF _⟩
  .rename_i ps e2;ext hf;refine ⟨L,Y,M,_,_,c,rs,e1,λL1 H1 v s1 c1 r1=>?_⟩;erw[zX,Rep]at r1;let⟨a,rfl,ea⟩:=r1;let⟨o,vs,e3,r3⟩:=c1.obj n a _ ea e2;calc ⟨a,vs,rfl,.inr ⟨o,e3,?_⟩⟩;refine q L1 _ _ s1 c1 λL2 H2 M2 s3 c3 _=>?_;let hz:H2 a=some (.frz o (.dT vs)):=s3.frz _ _ _ e3;let r4:=r3.stp s3;exact ⟨λi d hd=>fin hz r4 i d hd,hz,by rw[AI,r4.length];calc AF _⟩
  .cases hf
 .cases hf
end
section
variable {X:Cx}
def Wj (hc:X.calm=true):CY X (.builtin "sorted") (λxs H Q=>∃ (d:Addr) (kvs:List (List Key × V)) (ts:List (List Int)),xs=[.ref d]/\Rd H d (.dT kvs)/\kvs.map (·.1)=ts.map kkI/\(∀ t∈ts,t≠[]) /\ ∀ ys l,Jz H ys (Av ts)->H l=none->Q (.ref l) (upd H l (.lst ys))):=by
 intro zB s Y H xs us Q I r h;let⟨d,kvs,ts,rfl,ed,ets,hne,q⟩:=h;let⟨u,rfl,rx⟩:=EH r;ext rx;let⟨z1,z2,xs,r,o,es,en,h1,h2,h3,h4,h5⟩:=(show Ag X.prog X.w H s.heap d (.dT kvs)from ed.ok I.hok);let hsz:es.size=kvs.length:=by rw[Paired.length r,<-BM,h4,AI]
 let htl:ts.length=kvs.length:=by have:=Bo List.length ets;simpa using this.symm
 let kat:∀ (i:Nat) t,ts[i]?=some t -> ∃ b u,es[i]?=some (entryOfKey (tupleKind (Bl X.prog X.w)) (kkI t,b,u))/\H b=some (.tup ((kkI t).map kV)):=by
  intro i t e;let hi:i<kvs.length:=by rw[<-htl];exact (AK.mp e).1
  let e1:(kvs.map (·.1))[i]?=some (kkI t):=by rw[ets,Ac,e];rfl
  rw[Ac,AL hi]at e1;let e2:kvs[i]?=some (kkI t,kvs[i].2):=by rw[AL hi];have:=Bh e1;rw[<-this]
  let⟨b,u,h6,h7,_⟩:=ND r e2;exact ⟨b,u,by rw[<-BZ,h4,Ac,h6];rfl,h7⟩
 refine hJ (iD (iE z2 h2.1 h3) (I.ok.hd hc) h1 () λh' tk acc hk hle hacc=>?_);let hal:acc.toList.length=ts.length:=by rw[BM,hacc.1,hsz,htl]
 let aat:∀ (i:Nat) u,acc.toList[i]?=some u -> ∃ t b,ts[i]?=some t/\u=.ref b/\H b=some (.tup ((kkI t).map kV))/\Ba h' (.ref b) t:=by
  intro i u e;let hi:i<ts.length:=by rw[<-hal];exact (AK.mp e).1
  let e0:ts[i]?=some ts[i]:=AL hi;let⟨b,u',k2,k3⟩:=kat i _ e0;rw[BZ]at e;let⟨e',he',hv⟩:=hacc.2 i u e;rw[k2]at he';ext he';exact ⟨_,b,e0,hv,k3,(gU (I.hok b _ k3)).keep λc o _ eo=>hk c o eo⟩
 refine ⟨by rw[hal,htl];exact z1,λv hv'=>?_,λh2' out n hk2 hL hp hs=>?_⟩
 .obtain ⟨i,hi⟩:=List.mem_iff_getElem?.mp hv';let⟨t,b,e1,rfl,_,tt⟩:=aat i v hi;cases t with
  |nil=>calc absurd rfl (hne _ (BD e1))
  |cons x t=>exact ⟨x,t,tt⟩
 .obtain ⟨ys,rvy,tv⟩:=iQ hal aat hp hs;calc ⟨.ref h'.objs.size,_,I.laid (λb o e=>hk2 b o (hk b o e)) hle (show Ag X.prog X.w _ h2' _ (.lst ys)from ⟨by rw[tv.1,(Fe ts).length_eq,htl];calc z1,out,n,rvy,hL⟩),rfl,q ys _ tv (I.hok.fresh hle)⟩
def Er:KB:=λxs M=>match xs with
 |[x]=>match GL M x with
  |some ps=>match G8 (ps.map (·.1)) with
   |some ts=>if HU ts=true then some (.fl ((Av ts).map λt=>D.tup (t.map D.int)),M) else none
   |none=>none
  |_=>none
 |_=>none
def YD:ED X.K (λxs H Q=>∃ (d:Yt) (kvs:List (List Key × V)) (ts:Ya),xs=[.ref d]/\Rd H d (.dT kvs)/\kvs.map (·.1)=ts.map kkI/\(∀ t∈ts,t≠[]) /\ ∀ ys l,Jz H ys (Av ts)->H l=none->Q (.ref l) (upd H l (.lst ys))) Er:=by
 intro L M M' H H0 xs d vs Q cc r hk q;erw[Er]at hk;cbv at hk
 .rename_i x;cbv at hk
  .rename_i ps e1;cbv at hk
   .rename_i ts e2;cbv at hk
    .rename_i e3;ext hk;let⟨v,rfl,r1⟩:=r.one;let⟨a,ws,rfl,e4,r3⟩:=Ol cc r1 e1;exact ⟨a,ws,ts,rfl,e4,Q4 e2 r3,X7 e3,λys l tv hl=>q L _ _ (.upd hl) (cc.upd hl) (zX.newLst' cc hl (Qf tv))⟩
    .cases hk
   .cases hk
  .cases hk
 .cases hk
def Xx (hc:X.calm=true) (hg:Gl X "sorted") (hm:X.mg "sorted" = none) (ha:QAE X [e] fa) (he:starEach [e] X.env=(false,eval e X.env)::starEach [] X.env:=by rfl) (hpl:(backTo pos (starEach [] X.env)).any (·.1)=false:=by rfl):QE X (.Call (.Name "sorted" p) [e] [] pos) (fB Er fa) :=
 Hc YD (Wj hc) (by rfl) hg hm ha () () he hpl
end
open PySem.Calls
structure LamAt (base:Heap) (l:Lm) (pr:Arguments) (bd:Expr) (sc:Y0) (fs:Yk):Prop where
 len:l.us.length=fs.length
 ex:∃ qual cl pm ctv,base.get? l.f=some { cls:=.type "function", data:=.func (PySem.W.kla_fn "<lambda>" qual pr bd sc cl pm l.c ctv) } /\
  (∀ x y d,cl.lookup x=some d->cl.lookup y=some d->x=y)/\(∀ y∈sc.names,y.2=.free->(cl.lookup y.1).isSome=true)/\(∀ x d,cl.lookup x=some d -> ∃ v,base.IsCell d v) /\
  ∀ (i:Nat) x v,fs[i]?=some x->l.us[i]?=some v -> ∃ d u,cl.lookup x=some d/\zk v u/\base.IsCell d (some u)
def spC (K:Yb) (n:Nat) (l:Lm) (g:List D->FF):Sp:=λvs H Q _=>∃ L ds cs M d M',Cor K L M H/\zI L H ds vs/\ds.length=n/\Dh H l.c/\zI L H cs l.us/\g cs ds M=some (d,M') /\
 ∀ L' H' v,Stp L H L' H'->Cor K L' M' H'->Rep L' H' d v->Q v H'
structure LamOk (P:Ym) (w:Yo) (K:Yb) (mg:Yh) (base:Heap) (k:Nat) (l:Lm) (n:Nat) (g:List D->FF):Prop where
 ex:∃ fd ps,D2 K fd ps []/\PySem.W.FnAt l.f base/\FnOk P w K mg base CX0 k l.f fd ps (spC K n l g)
structure LamScope (N ps fs:Yk) (pr:Arguments) (bd:Expr) (sc:Y0):Prop where
 kind:sc.kind=.function
 co:sc.isCoroutine=false
 gen:sc.isGenerator=false
 nd:N.Nodup
 pre:N=ps++fs
 par:∀ x∈ps,sc.names.lookup x=some .local
 fre:∀ x∈fs,sc.names.lookup x=some .free
 noc:∀ y∈sc.names,y.2≠.cell
 bind:∀ (qual:Str) cl pm c ctv (us:List Value),us.length=ps.length->bindArgs (PySem.W.kla_fn "<lambda>" qual pr bd sc cl pm c ctv) ⟨us,[]⟩=pure (ps.zip us)
def Gj (b:FD):List D->FF:=λcs ds M=>b ((ds++cs).map some) M
def Lg (P:Ym) (w:Yo) (K:Yb) (mg:Yh) (base:Heap) (N:Yk) (q:Str) (sc:Y0) (f:Yt) (cd:Yu) (cl:Yv) (A:Yn) (outer:List Env) (s:Yl) (H:Hp):Cx where
 prog:=P
 w:=w
 K:=K
 mg:=mg
 base:=base
 A:=A.deeper (PySem.W.envX q sc ⇑s f cd cl)
 N:=N
 s₀:=s
 H₀:=H
 env:=PySem.W.envX q sc ⇑s f cd cl
 outer:=outer
 stack:=PySem.W.envX q sc ⇑s f cd cl::outer
 ex:=[]
 calm:=true
 fn:=λ_=>false
 pn:=[]
 xe:=λ_ _=>False
section
variable {P:Ym} {w:Yo} {K:Yb} {mg:Yh} {base:Heap} {A:Yn} {s:Yl} {R:Yx}
def Xk (hroom:A.depth<recursionLimit) (ho:s.heap.get? a=some o)
  (hd':o.data=.func fd) (hco:fd.scope.isCoroutine=false) (hgen:fd.scope.isGenerator=false) (hbody:fd.body=.expr body) (hc:fd.code=.ref c) (hoc:s.heap.get? c=some oc) (hdc:oc.data=.fields vs) (hq:vs[1]?=some (.str q t))
  (h:wpAny (model P w) A.in1 (bindArgs fd args) (λbinds s₁=>
   wpAny (model P w) A.in1 (newFunctionEnv fd.scope fd.globals fd.closure binds (q ++ ".<locals>.") (some a) (.ref c) none fd.builtins)
    (λenv s₂=>s₂.heap.NoLimit/\codeAny (model P w) A (.expr body env) R s₂) (λe s'=>R (.error e) s') s₁) (λe s'=>R (.error e) s') s) :
  codeAny (model P w) A (.call (.ref a) args) R s:=by
 calc codeAny_of_tree ?_;show wpAny _ A.in1 (callAny (.ref a) args) _ _ s;simp only[callAny];calc AA (wpAny_load ho ?_);simp only[hd',callFunction,hco,hgen,hbody,hc];refine AA (Bg hoc hdc hq (AA (AB ?_)))
 exact AA (AX h (λbinds s₁ h₁=>AA (AX h₁ (λenv s₂ h₂=>AA (wpAny_enterFrame h₂.1 hroom
  (AB (And.intro rfl h₂.2)))) λ_ _ h'=>h')) λ_ _ h'=>h')
def Vq:∀ {ps:Yk} {us:Yf} {i:Nat} {x:Str} {u:Yu},ps.Nodup->ps[i]?=some x->us[i]?=some u->(ps.zip us).reverse.lookup x=some u:=by
 intro ps us i x u nd h1 h2;let hm:(x,u)∈(ps.zip us).reverse:=by
  rw[List.mem_reverse];exact BD (by rw[List.getElem?_zip_eq_some];calc ⟨h1,h2⟩)
 let hu:∀ v,(x,v)∈(ps.zip us).reverse->v=u:=λv hv=>by
  rw[List.mem_reverse]at hv;let⟨j,hj⟩:=List.getElem?_of_mem hv;rw[List.getElem?_zip_eq_some]at hj;have:j=i:=(List.getElem?_inj (AK.mp hj.1).1 nd).mp (hj.1.trans h1.symm);subst this;exact Bh (hj.2.symm.trans h2)
 generalize (ps.zip us).reverse=l at hm hu;induction l with
 |nil=>ext hm
 |cons p r ih=>
  let⟨y,v⟩:=p;rw[D5];cases hb:x==y with
  |true=>
   have:=beq_iff_eq.mp hb;subst this;calc Bo some (hu v AZ)
  |false=>
   refine ih ?_ λv hv=>hu v (Aq _ hv);rcases AJ.mp hm with z|z
   .cases z;simp at hb
   .exact z
def Io (h:LamAt base l pr bd sc fs) (S:LamScope N ps fs pr bd sc)
  (hb:∀ (q:Str) (cd:Yu) (cl:Yv) (A:Yn) (outer:List Env) (s:Yl) (H:Hp),Room k (A.deeper (PySem.W.envX q sc ⇑s l.f cd cl))->QD (Lg P w K mg base N q sc l.f cd cl A outer s H) bd b) :
  LamOk P w K mg base (k+1) l ps.length (Gj b):=by
 let⟨qual,cl,pm,ctv,ho,inj,has,cel,cap⟩:=h.ex;refine ⟨_,ps,.all (S.bind qual cl pm l.c ctv),⟨_,_,_,_,ho⟩,λvs H Q E z=>?_,λA outer s H args us vs Q E hr e0 hbd r hsp=>?_⟩
 .obtain ⟨L,ds,cs,M,d,M',c,r,hl,_⟩:=z;rw[r.length,hl]
 let⟨L,ds,cs,M,d,M',c,rd,hl,⟨ca,oc,cvs,q,t,ec,eh,ed,e1⟩,rc,hf,hq⟩:=hsp;let lim:s.heap.NoLimit:=e0.mod.nolimit.keeps λb o e=>(e0.bs b o e).1;let⟨hoc,_⟩:=e0.hok ca _ eh;let hul:us.length=ps.length:=by rw[<-r.length,rd.length,hl]
 calc Xk hr.depth (e0.bs _ _ ho).1 rfl S.co S.gen rfl (by calc ec) hoc ed e1 (hbd _ _ _ _ ?_);refine wpAny_newFunctionEnv S.noc (λy hy=>S.par _ (List.of_mem_zip hy).1) (λh' hns hsb=>⟨lim.fresh _ hsb,?_⟩) S.kind;let hk:∀ b o,s.heap.get? b=some o->h'.get? b=some o:=λb o e=>hsb.extBut b o (Ad (AH e)) (AG _ e);let cellS:∀ d v,base.IsCell d v->h'.IsCell d v/\H d=none:=λd v ⟨o,e,z⟩=>⟨⟨o,hk _ _ (e0.bs _ _ e).1,z⟩,(e0.bs _ _ e).2⟩;let hN:N.length=(vs++l.us).length:=by rw[S.pre,AW,AW,h.len,r.length,hul]
 let I:Inv (Lg P w K mg base N q sc l.f (.ref ca) cl A outer s H) [] ((vs++l.us).map some) H { s with heap:=h',toks:=s.toks+(ps.zip us).length }:=by
  let noA:∀ b:Addr,b∉(Lg P w K mg base N q sc l.f (.ref ca) cl A outer s H).ex:=λb z=>absurd (show b∈([]:List Addr)from z) (by simp)
  refine ⟨⟨e0.mod,S.kind,rfl,rfl,AF _,inj,λy hy=>?_,λy c z _=>Bool.noConfusion z,λ_=>hr.hd,Around.frames_deeper e0.frames,.inr ⟨rfl,rfl⟩,λb z=>absurd z (noA b),e0.bs,e0.bsz,λb _ _=>noA b,λb z=>absurd z (noA b),e0.funs,e0.frf⟩,
   rfl,e0.bare,Un.kept hk,⟨_,hns,λi y v h1 h2 h3=>?_⟩,λy c z=>?_,e0.hok.fresh (AF _),λy c z=>?_,λp hp=>absurd (show p∈([]:List (Addr × Obj))from hp) (by simp),e0.hok.kept hk,?_⟩
  .have hy:sc.names.lookup y=some .cell\/sc.names.lookup y=some .free:=hy;rcases hy with hy|hy
   .exact absurd rfl (S.noc _ (B8 hy))
   .exact Option.isSome_iff_exists.mp (has _ (B8 hy) rfl)
  .have h1':(ps++fs)[i]?=some y:=by rw[<-S.pre];exact h1
   rw[Ac]at h2;let h2':(vs++l.us)[i]?=some v:=by
    cases e:(vs++l.us)[i]? with
    |none=>rw[e]at h2;ext h2
    |some z=>rw[e]at h2;ext h2;rfl
   by_cases hi:i<ps.length
   .rw[AY hi]at h1';rw[AY (by rw[r.length,hul];exact hi)]at h2';let⟨u,hu,rv⟩:=r.get h2';let ndP:ps.Nodup:=by have:=S.nd;rw[S.pre]at this;exact (EG.mp this).1
    exact ⟨u,rv,.inl ⟨S.par y (BD h1'),Vq ndP h1' hu⟩⟩
   .rw[CQ ()]at h1';let hv:vs.length=ps.length:=by rw[r.length,hul]
    rw[CQ (),hv]at h2';let⟨d,u,e2,rv,ce⟩:=cap _ y v h1' h2';exact ⟨u,rv,.inr ⟨.inr (S.fre y (BD h1')),d,e2,(cellS d _ ce).1⟩⟩
  .obtain ⟨v,z2⟩:=cel y c z;exact ⟨v,(cellS c v z2).1⟩
  .obtain ⟨v,z2⟩:=cel y c z;exact (cellS c v z2).2
  .rw[AI];exact hN.symm
 refine PySem.W.kla_codeExpr (AX ((hb q (.ref ca) cl A outer s H (hr.deeper _)).un [] _ _ H (λv H'=>Q v H') I ⟨L,(ds++cs).map some,M,d,M',c,?_,hf,λL' H' v s1 c1 r1=>hq L' H' v s1 c1 r1⟩) (λu s' ⟨v,H',J,rv,z⟩=>⟨v,H',J.os,J.bare,J.base,J.hok,rv,z⟩) λ_ _ z=>False.elim z);let rr:=rd.app rc;refine ⟨by rw[AI,AI,rr.length],λi d' e=>?_⟩;rw[Ac]at e ⊢;cases e2:(ds++cs)[i]? with
 |none=>rw[e2]at e;ext e
 |some d2=>
  rw[e2]at e;ext e;let⟨v,e3,r3⟩:=rr.get e2;calc ⟨v,by rw[e3];rfl,r3⟩
end
def GJ (X:Cx) (pr:Arguments) (bd:Expr) (sc:Y0) (H:Hp) (f:Yt) (c:Yu):Prop:=Dh H c /\ ∃ qual cl pm ctv,
 H f=some (.ext λh=>h.get? f=some { cls:=.type "function", data:=.func (PySem.W.kla_fn "<lambda>" qual pr bd sc cl pm c ctv) }) /\
 (∀ x d,cl.lookup x=some d->X.env.cells.lookup x=some d) /\ ∀ y∈sc.names,y.2=.free->(cl.lookup y.1).isSome=true
def Su (X:Cx) (P:Yt) (pr:Arguments) (bd:Expr) (sc:Y0):TE:=λ_ H Q=>(∃ ps,H P=some (.tbl ps)/\Ee H ps) /\ ∀ f c H',H f=none->Stp [] H [] H'->GJ X pr bd sc H' f c->Q (.ref f) H'
theorem Qt {pos p:Pos}:∀ {l:Yf},TriplesOk l->codeAmong p (l++[rawInt pos.line,rawInt pos.col,c])=some v->codeAmong p l=some v\/v=c
 |[],_,h=>by
  erw[codeAmong]at h;simp only[List.nil_append]at h;cbv at h
  .rename_i h2;ext h2;cbv at h
   .exact .inr (Bh h).symm
   .unfold codeAmong at h;ext h
  .cases h
 |.int a _ :: .int b _::x::r,ht,h=>by
  simp only[List.cons_append,codeAmong]at h ⊢;cbv at h
  .rename_i hc;rw[AD hc];exact .inl h
  .rename_i hc;rw[AE hc];calc Qt ht h
theorem Qz {pos:Pos}:∀ {l:Yf},TriplesOk l->TriplesOk (l++[rawInt pos.line,rawInt pos.col,c])
 |[],_=>trivial
 |.int a _ :: .int b _::x::r,ht=>Qz (l:=r) ht
section
variable {X:Cx} {pr:Arguments} {bd:Expr} {sc:Y0} {pos:Pos} {c P:Yt}
def WZ (hcode:X.env.code=.ref c) (hC:PySem.W.codeHdIn X.K c P=true) (hS:∀ y∈sc.names,y.2=.free->(X.env.kindOf y.1=some .cell\/X.env.kindOf y.1=some .free))
  (hd:pr.defaults=[]:=by rfl) (hkd:pr.kw_defaults=[]:=by rfl):PE X (.Lambda pr bd sc pos) (Su X P pr bd sc):=by
 intro zB s Y H Q I h;let⟨⟨ps,hP,gT⟩,h⟩:=h;let hPo:s.heap.get? P=some (PySem.W.tabObj ps):=I.hok P _ hP;let C:PySem.W.CodeHd s.heap c P:=PySem.W.codeHd_of_K I.kIn hC;let⟨cl,hcl,h1,h2⟩:=Qn λy hy hk=>I.ok.has y.1 (hS y hy hk);let hgl:=I.mod.glob.keeps I.bk;let hgP:mainGlobals≠P:=λq=>by
  let⟨o,es,ep,e,hd,_⟩:=hgl;rw[q,hPo]at e;ext e;ext hd
 let⟨bm,ob,b1,b2,b3,b4,b5,b6⟩:=I.mod.bmn;let b3':=I.bk _ _ b3;let hbG:bm≠mainGlobals:=λq=>by
  let⟨o,es,ep,e,hd,_⟩:=hgl;rw[q,e]at b3';ext b3';rw[hd]at b6;ext b6
 let hbP:bm≠P:=λq=>by
  rw[q,hPo]at b3';ext b3';ext b4
 let hbA:s.heap.BuiltinsAt X.mg P:=⟨bm,ob,b1,b2,hbG,hbP,b3',b4,b5,b6⟩;calc PySem.W.kla_eval (by rw[defaultsOf_eq,hd,hkd];rfl) ?_;cases hf:codeAmong pos ps.toList with
 |some cv=>
  refine PySem.W.kla_makeFunctionHit hcl I.ok.glob hgl hcode C hPo gT.1 hf hbA λctv h' tk hk hsz=>?_;let hn:H h'.objs.size=none:=I.hok.fresh hsz;let hk2:∀ b o,s.heap.get? b=some o->(h'.push { cls:=.type "function", data:=.func (PySem.W.kla_fn "<lambda>" (X.env.qual ++ "<lambda>") pr bd sc cl ((X.mg "__name__").getD .none) cv ctv) }).get? b=some o:=λb o e=>AG _ (hk b o e)
  refine ⟨.ref h'.objs.size,upd H h'.objs.size (.ext λh=>h.get? h'.objs.size=some { cls:=.type "function", data:=.func (PySem.W.kla_fn "<lambda>" (X.env.qual ++ "<lambda>") pr bd sc cl ((X.mg "__name__").getD .none) cv ctv) }),
   I.laid hk2 hsz ⟨AM _ rfl,⟨_,AM _ rfl⟩,λh1 h2 e k=>k _ e⟩,rfl,h _ cv _ hn (.upd hn) ⟨?_,_,_,_,_,zp,h1,h2⟩⟩
  exact (gT.2 pos cv hf).keep λa o u e=>by rw[zU (zm e hn)];calc e
 |none=>
  refine PySem.W.kla_makeFunction hcl I.ok.glob hgl hcode C hPo gT.1 hf hgP hbA λc' ctv h' tk hx hge hlt hrec htb=>?_;let⟨c₂,oc,vs,t,e2,hoc,hdc,hv⟩:=hrec;ext e2;let hPc:P≠c':=λz=>absurd (A0 (AH hPo) (by rw[z];calc hge)) (BY _);let hnc:H c'=none:=I.hok.fresh hge;let hnf:H h'.objs.size=none:=I.hok.fresh (Ar hge (Ce hlt));let hPf:P≠h'.objs.size:=λz=>by rw[<-z,hP]at hnf;ext hnf
  let hcf:c'≠h'.objs.size:=Ad hlt;generalize hfo:({ cls:=.type "function", data:=.func (PySem.W.kla_fn "<lambda>" (X.env.qual ++ "<lambda>") pr bd sc cl ((X.mg "__name__").getD .none) (.ref c') ctv) }:Obj)=fo;let hpu:(h'.push fo).get? h'.objs.size=some fo:=AM _ (by rw[<-hfo];rfl);generalize hH':upd (upd (upd H P (.tbl (ps ++ #[rawInt pos.line,rawInt pos.col,.ref c']))) c' (.frz oc (.ext λ_=>True))) h'.objs.size (.ext λh=>h.get? h'.objs.size=some fo)=H';let e3:H' h'.objs.size=some (.ext λh=>h.get? h'.objs.size=some fo):=by rw[<-hH'];exact zp
  let e4:H' c'=some (.frz oc (.ext λ_=>True)):=by rw[<-hH',zU hcf];exact zp
  let e5:H' P=some (.tbl (ps ++ #[rawInt pos.line,rawInt pos.col,.ref c'])):=by rw[<-hH',zU hPf,zU hPc];exact zp
  let e6:∀ b,b≠P->b≠c'->b≠h'.objs.size->H' b=H b:=λb z1 z2 z3=>by rw[<-hH',zU z3,zU z2,zU z1]
  let e7:∀ b o,H b=some o->b≠P->H' b=some o:=λb o e z=>by rw[e6 b z (zm e hnc) (zm e hnf)];exact e
  let hk:∀ b o,b≠P->s.heap.get? b=some o->(h'.push fo).get? b=some o:=λb o z e=>AG _ (hx b o z e);let st:Stp [] H [] H':=by
   let hfz:∀ a o u,H a=some (.frz o u)->H' a=some (.frz o u):=λa o u e=>e7 a _ e (DT e hP (by intro z;ext z));refine ⟨⟨[],by simp⟩,λa ha=> .inl ha,λa o e _ nt=>e7 a o e λz=>?_,λa xs e=>e7 a _ e (DT e hP (by intro z;ext z)),hfz,λa ps' e=>?_⟩
   .subst z;rw[hP]at e;ext e;exact nt _ rfl
   .by_cases z:a=P
    .subst z;rw[hP]at e;ext e;refine ⟨_,e5,λg=>⟨?_,λp v ev=>?_⟩⟩
     .rw[show (ps ++ #[rawInt pos.line,rawInt pos.col,Value.ref c']).toList=ps.toList++[rawInt pos.line,rawInt pos.col,.ref c'] by simp];exact Qz g.1
     .rw[show (ps ++ #[rawInt pos.line,rawInt pos.col,Value.ref c']).toList=ps.toList++[rawInt pos.line,rawInt pos.col,.ref c'] by simp]at ev;rcases Qt g.1 ev with z|z
      .exact (g.2 p v z).keep hfz
      .exact ⟨c',oc,vs,_,t,z,e4,hdc,hv⟩
    .exact ⟨ps',e7 a _ e z,.keep hfz⟩
  subst hfo;refine ⟨.ref h'.objs.size,H',I.un ⟨λb o e n _ _=>?_,λb o e n _ _=>⟨o.slots,?_⟩,λb o e n _=>?_,λb o e _=>?_,st.tup,st.frz,λb ps' e=>?_⟩ λa o e=>?_,rfl,h _ (.ref c') H' hnf st ⟨⟨c',oc,vs,_,t,rfl,e4,hdc,hv⟩,_,_,_,_,e3,h1,h2⟩⟩
  .exact hk b o (λz=>by rw[z,hP]at n;ext n) e
  .exact hk b o (λz=>by rw[z,hP]at n;ext n) e
  .rw[e6 b (λz=>by rw[z,hP]at n;ext n) (Ad (A0 (AH e) hge)) (Ad (A0 (AH e) (Ar hge (Ce hlt))))];exact n
  .by_cases z:b=P
   .subst z;exact ⟨_,AG _ htb⟩
   .exact ⟨o,hk b o z e⟩
  .by_cases z:b=P
   .subst z;rw[hP]at e;ext e;exact ⟨_,e5⟩
   .exact ⟨#[],by rw[e7 b _ e z];simp⟩
  .by_cases z1:a=h'.objs.size
   .subst z1;rw[e3]at e;ext e;exact ⟨hpu,⟨_,hpu⟩,λh1 h2 e k=>k _ e⟩
   .by_cases z2:a=c'
    .subst z2;rw[e4]at e;ext e;exact ⟨AG _ hoc,trivial,⟨_,AG _ hoc⟩,λ_ _ _ _=>trivial⟩
    .by_cases z3:a=P
     .subst z3;rw[e5]at e;ext e;exact AG _ htb
     .rw[e6 a z3 z2 z1]at e;refine (I.hok a o e).stay (λb u hb q=>hk b u (λz=>?_) q) (λb q=>e7 b _ q (DT q hP (by intro z;ext z))) st.tup;rcases hb with z4|z4
      .exact z3 (z4.symm.trans z)
      .rw[z,hP]at z4;ext z4
end
def drp (H:Hp) (f:Yt):Hp:=λb=>if b=f then none else H b
def Jp (h:b≠f):drp H f b=H b:=AE h
def Mi:drp H f f=none:=AD rfl
section
variable {H:Hp} {f:Yt} {φ:Heap->Prop} {L:Yg}
def Bb (e:H b=some o) (hf:H f=some (.ext φ)) (n:∀ ψ,o≠.ext ψ):drp H f b=some o:=by
 rw[Jp (DT e hf (n φ))];calc e
mutual
theorem Rep.drp (hf:H f=some (.ext φ)):∀ {d:D} {v:V},Rep L H d v->Rep L (drp H f) d v
 |.non,_,h=>by unfold Rep at h ⊢;calc h
 |.bl _,_,h=>by unfold Rep at h ⊢;calc h
 |.int _,_,h=>by unfold Rep at h ⊢;calc h
 |.str _,_,h=>by unfold Rep at h ⊢;calc h
 |.tup ds,_,h=>by
  unfold Rep at h ⊢;let⟨a,vs,rfl,e,r⟩:=h;calc ⟨a,vs,rfl,Bb e hf (by intro _ z;ext z),zI.drp hf r⟩
 |.ref n,_,h=>by unfold Rep at h ⊢;calc h
 |.fn _ ds,_,h=>by
  unfold Rep at h ⊢;let⟨h1,⟨a,oc,vs,q,t,e1,e2,r⟩,h2⟩:=h;calc ⟨h1,⟨a,oc,vs,q,t,e1,Bb e2 hf (by intro _ z;ext z),r⟩,zI.drp hf h2⟩
theorem zI.drp (hf:H f=some (.ext φ)):∀ {ds:List D} {vs:List V},zI L H ds vs->zI L (drp H f) ds vs
 |[],_,h=>by unfold zI at h ⊢;calc h
 |d::ds,_,h=>by
  unfold zI at h ⊢;let⟨v,r,rfl,h1,h2⟩:=h;calc ⟨v,r,rfl,Rep.drp hf h1,zI.drp hf h2⟩
end
theorem AQ.drp {κ:Type} {kf:D->Option κ} (hf:H f=some (.ext φ)):∀ {ps:List (D × D)} {vs:List (κ × V)},AQ kf L H ps vs->AQ kf L (drp H f) ps vs
 |[],_,h=>h
 |p::r,_,h=>by
  let⟨k,v,r',rfl,e,h1,h2⟩:=h;calc ⟨k,v,r',rfl,e,h1.drp hf,AQ.drp hf h2⟩
def CL.drp {K:Yb} {a:Yt} {m:MO} (hf:H f=some (.ext φ)) (h:CL K L H a m):CL K L (L3.drp H f) a m:=by
 cases m with
 |lst xs=>let⟨vs,e,r⟩:=h;calc ⟨vs,Bb e hf (by intro _ z;ext z),r.drp hf⟩
 |fro xs=>let⟨o,vs,e,r⟩:=h;calc ⟨o,vs,Bb e hf (by intro _ z;ext z),r.drp hf⟩
 |dict ps=>let⟨vs,e,r⟩:=h;calc ⟨vs,Bb e hf (by intro _ z;ext z),r.drp hf⟩
 |dicT ps=>let⟨vs,e,r⟩:=h;calc ⟨vs,Bb e hf (by intro _ z;ext z),r.drp hf⟩
 |set _=>let⟨o,u,e⟩:=h;calc ⟨o,u,Bb e hf (by intro _ z;ext z)⟩
 |froT ps=>let⟨o,vs,e,r⟩:=h;calc ⟨o,vs,Bb e hf (by intro _ z;ext z),r.drp hf⟩
 |froK ps=>let⟨o,vs,e,r⟩:=h;calc ⟨o,vs,Bb e hf (by intro _ z;ext z),r.drp hf⟩
def Dh.drp (hf:H f=some (.ext φ)) (x:Dh H v):Dh (L3.drp H f) v:=x.keep λ_ _ _ e=>Bb e hf (by intro _ z;ext z)
def Cor.drp {K:Yb} {M:Mem} (hf:H f=some (.ext φ)) (c:Cor K L M H):Cor K L M (L3.drp H f) :=
 ⟨c.len,c.nd,λn a m e1 e2=>(c.obj n a m e1 e2).drp hf,λx hx d P e=>
  let ⟨ps,e1,g⟩:=c.tab x hx d P e
  ⟨ps,Bb e1 hf (by intro _ z;ext z),g.keep λ_ _ _ e=>Bb e hf (by intro _ z;ext z)⟩⟩
def Stp.drp (hf:H f=some (.ext φ)) (h0:H0 f=none) (s:Stp L0 H0 L H):Stp L0 H0 L (L3.drp H f):=by
 refine ⟨s.pre,s.new,λa o e hl nt=>?_,λa xs e=>Bb (s.tup a xs e) hf (by intro _ z;ext z),λa o u e=>Bb (s.frz a o u e) hf (by intro _ z;ext z),λa ps e=>?_⟩
 .rw[Jp (zm e h0)];exact s.old a o e hl nt
 .obtain ⟨p,e1,g⟩:=s.tbl a ps e;calc ⟨p,Bb e1 hf (by intro _ z;ext z),λq=>(g q).keep λ_ _ _ e=>Bb e hf (by intro _ z;ext z)⟩
end
section
variable {X:Cx} {pr:Arguments} {bd:Expr} {sc:Y0} {pos p lp:Pos} {e:Expr} {es:Yi} {c P f:Yt} {g1 g2:FA}
def only (h:Heap) (base:Heap) (S:Yg):Heap:=PySem.W.hideAll h ((List.range h.objs.size).filter λb=> !((base.get? b).isSome||S.contains b))
def MS (e:h.get? b=some o) (hb:(∃ u,base.get? b=some u)\/b∈S):(only h base S).get? b=some o:=by
 refine PySem.W.hideAll_get _ e λhm=>?_;let q:=(List.mem_filter.mp hm).2;rcases hb with ⟨u,z⟩|z
 .rw[z]at q;simp at q
 .rw[List.contains_iff_mem.mpr z]at q;simp at q
def Oh (e:(only h base S).get? b=some o):h.get? b=some o/\((∃ u,base.get? b=some u)\/b∈S):=by
 let e1:=PySem.W.of_hideAll _ e;calc ⟨e1,?_⟩;cases q:base.get? b with
 |some u=>calc .inl ⟨u,rfl⟩
 |none=>
  by_cases z:b∈S
  .exact .inr z
  .have:(only h base S).get? b=none:=PySem.W.hideAll_none _ (List.mem_filter.mpr ⟨Ey.mpr (AH e1),by rw[q];simpa using z⟩);rw[this]at e;ext e
def ZS
  (F:∀ base',LamAt base' ⟨f,cv,cvs⟩ pr bd sc fs->FnOk X.prog X.w X.K X.mg base' CX0 k g gd ps sp) (hfn:∀ x,X.fn x=true) (hr:Room k X.A) (hb:D2 X.K gd ps []) (I:Inv X zB Y H s) (V:GJ X pr bd sc H f cv)
  (hl:cvs.length=fs.length) (hcap:∀ (i:Nat) x v,fs[i]?=some x->cvs[i]?=some v -> ∃ j:Nat,X.N[j]?=some x/\Y[j]?=some (some v)/\X.env.scope.names.lookup x=some .cell/\(x,NameKind.free)∈sc.names)
  (r:za vs us) (h:sp vs (drp H f) Q E0):wpAny (model X.prog X.w) X.A (call (.ref g) us) (EP X zB Y Q) X.xe s:=by
 let⟨cf,qual,cl,pm,ctv,hf,h1,h2⟩:=V;let⟨ho,_⟩:=I.hok f _ hf;let fne:∀ b,H b=none->drp H f b=none:=λb n=>by
  by_cases z:b=f
  .rw[z];exact Mi
  .rw[Jp z];exact n
 let cells:∀ x d,cl.lookup x=some d->d∈X.env.cells.map (·.2):=λx d e=>Ak.mpr ⟨(x,d),B8 (h1 x d e),rfl⟩;generalize hS:f::X.env.cells.filterMap (λp=>if X.env.cells.lookup p.1=some p.2 then some p.2 else none)=S;let inS:∀ x d,cl.lookup x=some d->d∈S:=λx d e=>by
  rw[<-hS];exact Aq _ (List.mem_filterMap.mpr ⟨(x,d),B8 (h1 x d e),AD (h1 x d e)⟩)
 let ofS:∀ b∈S,b=f \/ ∃ x,X.env.cells.lookup x=some b:=λb hb=>by
  rw[<-hS]at hb;rcases AJ.mp hb with z|z
  .exact .inl z
  .obtain ⟨p,hp,e⟩:=List.mem_filterMap.mp z;cbv at e
   .rename_i q;ext e;exact .inr ⟨_,q⟩
   .cases e
 let bk:∀ b o,X.base.get? b=some o->(only s.heap X.base S).get? b=some o:=λb o e=>MS (I.bk b o e) (.inl ⟨o,e⟩);let nsK:∀ {b:Yt} {m:Yh},X.base.Ns b m->(only s.heap X.base S).Ns b m:=λ{b m} ⟨o,es,ep,e,d,r⟩=>⟨o,es,ep,bk _ _ e,d,r⟩;let md:Mod X.K X.mg (only s.heap X.base S):=by
  let M:=I.mod;let⟨mb,n1,n2⟩:=M.blt;let⟨bm,ob,b1,b2,b3,b4⟩:=M.bmn;exact ⟨M.kin.keeps bk,M.glob.keeps bk,⟨mb,n1.keeps bk,n2⟩,M.nolimit.keeps bk,bm,ob,b1,b2,bk _ _ b3,b4⟩
 let la:LamAt (only s.heap X.base S) ⟨f,cv,cvs⟩ pr bd sc fs:=by
  let cel:∀ x d,cl.lookup x=some d -> ∀ v,s.heap.IsCell d v->(only s.heap X.base S).IsCell d v:=λx d e v ⟨o,e2,z⟩=>⟨o,MS e2 (.inr (inS x d e)),z⟩;refine ⟨hl,qual,cl,pm,ctv,MS ho (.inr (by rw[<-hS];calc AZ)),λx y d a b=>I.ok.inj x y d (h1 x d a) (h1 y d b),h2,λx d e=>?_,λi x v e1 e2=>?_⟩
  .obtain ⟨v,z⟩:=I.cell x d (h1 x d e);exact ⟨v,cel x d e v z⟩
  .obtain ⟨j,n1,n2,n3,n4⟩:=hcap i x v e1 e2;let⟨m,hn,lk⟩:=I.loc;let⟨u,ru,l⟩:=lk j x v n1 n2 (.inr (.inl n3));let⟨d,hd⟩:=Option.isSome_iff_exists.mp (h2 (x,.free) n4 rfl);refine ⟨d,u,hd,ru,cel x d hd _ ?_⟩;rcases l with ⟨l,_⟩|⟨_,c2,l,z⟩
   .exfalso;let l':X.env.scope.names.lookup x=some .local:=l;rw[n3]at l';ext l'
   .rw[h1 x d hd]at l;ext l;exact z
 let hok:HOk X.prog X.w (drp H f) s.heap:=λa o e=>by
  by_cases z:a=f
  .rw[z,Mi]at e;ext e
  .rw[Jp z]at e;exact (I.hok a o e).stay (λ_ _ _ q=>q) (λb q=>Bb q hf (by intro _ z;ext z)) λb xs q=>Bb q hf (by intro _ z;ext z)
 let I2:Inv X zB Y (drp H f) s:=by
  refine ⟨I.ok,I.os,I.bare,⟨I.base.keep,I.base.slot,λb o e n hx=>fne b (I.base.free b o e n hx),I.base.there,λb xs e=>Bb (I.base.tups b xs e) hf (by intro _ z;ext z),λb o xs e=>Bb (I.base.frzs b o xs e) hf (by intro _ z;ext z),λb qs e=>?_⟩,I.loc,I.cell,fne _ I.free,λx c e=>fne _ (I.freeC x c e),λq hq=>?_,hok,I.len⟩
  .obtain ⟨more,z⟩:=I.base.tbls b qs e;exact ⟨more,Bb z hf (by intro _ z;ext z)⟩
  .obtain ⟨a1,a2,a3⟩:=I.pin q hq;exact ⟨a1,fne _ a2,a3⟩
 let E0':=I2.env0;let e1:Env0 X.prog X.w X.K X.mg (only s.heap X.base S) X.A X.stack s (drp H f):=by
  refine ⟨E0'.frames,md,λb o e=>?_,Nat.le_of_eq (PySem.W.hideAll_size _ _),?_,E0'.frf,hok,E0'.bare⟩
  .obtain ⟨q1,q2⟩:=Oh e;refine ⟨q1,?_⟩;rcases q2 with ⟨u,q2⟩|q2
   .exact fne b (I.bs b u q2).2
   .rcases ofS b q2 with rfl|⟨x,z⟩
    .exact Mi
    .exact fne b (I.freeC x b z)
  .have nofr:∀ L∈frs X.stack,X.base.get? L=none->(only s.heap X.base S).get? L=none:=λL hL eb=>by
    cases q:(only s.heap X.base S).get? L with
    |none=>rfl
    |some u=>
     let⟨q1,q2⟩:=Oh q;rcases q2 with ⟨u,q2⟩|q2
     .rw[eb]at q2;ext q2
     .rcases ofS L q2 with rfl|⟨x,z⟩
      .have:=I.stkFree L hL;rw[hf]at this;ext this
      .rcases AJ.mp (I.stkSub L hL)with z2|z2
       .exact absurd z2 (I.cne x L z)
       .obtain ⟨_,o,ho2,_⟩:=I.ok.funs.mem z2;exact absurd (A0 (AH ho2) (I.ok.cab x L (hfn x) z)) (BY _)
   let all:∀ l:List Env,(∀ b∈frs l,b∈frs X.stack)->s.heap.FunFrames X.base l->s.heap.FunFrames (only s.heap X.base S) l:=by
    intro l;induction l with
    |nil=>intro _ _;trivial
    |cons env r ih=>
     intro hs hh;let⟨hk,⟨L,o,hf,hn,ho'⟩,hr⟩:=hh;exact ⟨hk,⟨L,o,hf,nofr L (hs L (by erw[frs];rw[List.filterMap_cons,hf];calc AZ)) hn,ho'⟩,ih (λb hb=>hs b (by erw[frs];rw[List.filterMap_cons,hf];calc Aq _ hb)) hr⟩
   exact all _ (λ_ h=>h) E0'.funs
 let hl2:us.length=ps.length:=by rw[<-r.length];exact (F _ la).len _ _ _ _ h
 refine wpAny_call (codeAny_mono ((F _ la).run X.A X.stack s (drp H f) ⟨us,[]⟩ us vs Q E0 hr e1 (by have:=hb s us I.kIn (~~~hl2);simpa using this) r h) λr s' hq=>?_);cases r with
 |error e=>calc False.elim hq
 |ok fl=>
  cases fl with
  |ret u=>calc I2.after hq
  |next=>calc False.elim hq
  |brk=>calc False.elim hq
  |cont=>calc False.elim hq
end
def i5 (X:Cx) (pr:Arguments) (bd:Expr) (sc:Y0) (g1 g2:FA):TA:=λτ H Q=>∃ L Y M ds1 M1 ds2 M2,Cor X.K L M H/\Al L H Y τ/\g1 Y M=some (ds1,M1)/\g2 Y M1=some (ds2,M2) /\
 ∀ L' H' vs1 f c vs2,Stp L H L' H'->Cor X.K L' M2 H'->zI L' H' ds1 vs1->zI L' H' ds2 vs2->H f=none->GJ X pr bd sc H' f c->Q (vs1 ++ .ref f::vs2) H'
structure QAL (X:Cx) (es:Yi) (pr:Arguments) (bd:Expr) (sc:Y0) (g1 g2:FA):Prop where
 un:PA X es (i5 X pr bd sc g1 g2)
def GJ.stp {X:Cx} {pr:Arguments} {bd:Expr} {sc:Y0} {L L':Yg} {M:Mem} {K:Yb} {H H':Hp} {f:Yt} {c:Yu} (k:Cor K L M H) (s:Stp L H L' H') (v:GJ X pr bd sc H f c):GJ X pr bd sc H' f c:=by
 let⟨cf,qual,cl,pm,ctv,hf,h1,h2⟩:=v;refine ⟨cf.keep s.frz,qual,cl,pm,ctv,s.old f _ hf (λz=>?_) (by intro _ z;ext z),h1,h2⟩;let⟨n,hn⟩:=List.getElem?_of_mem z;let hm:=k.obj n f _ hn (AL (by rw[<-k.len];calc (AK.mp hn).1));generalize M[n]'_=m at hm;cases m with
 |lst xs=>let⟨vs,e',_⟩:=hm;rw[hf]at e';ext e'
 |fro xs=>let⟨o,vs,e',_⟩:=hm;rw[hf]at e';ext e'
 |dict ps=>let⟨vs,e',_⟩:=hm;rw[hf]at e';ext e'
 |dicT ps=>let⟨vs,e',_⟩:=hm;rw[hf]at e';ext e'
 |set _=>let⟨o,u,e'⟩:=hm;rw[hf]at e';ext e'
 |froT ps=>let⟨o,vs,e',_⟩:=hm;rw[hf]at e';ext e'
 |froK ps=>let⟨o,vs,e',_⟩:=hm;rw[hf]at e';ext e'
section
variable {X:Cx} {pr:Arguments} {bd:Expr} {sc:Y0} {pos p lp:Pos} {e:Expr} {es:Yi} {c P:Yt} {g1 g2:FA} {x y:Str}
def Hz (hx:y∈GU) (ht:PySem.W.tabIn X.K y=some (c,P)) (hcode:X.env.code=.ref c) (hC:PySem.W.codeHdIn X.K c P=true) {sc0:Y0} (hs0:X.env.scope=sc0) (hS:∀ y∈sc.names,y.2=.free->sc0.names.lookup y.1=some .cell) (h2:QA X es g2)
  (hd:pr.defaults=[]:=by rfl) (hkd:pr.kw_defaults=[]:=by rfl) (hs:starEach (.Lambda pr bd sc lp::es) X.env=(false,eval (.Lambda pr bd sc lp) X.env)::starEach es X.env:=by rfl):QAL X (.Lambda pr bd sc lp::es) pr bd sc zK g2 :=
 .mk <| PA.imp (E9 (WZ hcode hC (λy hy hf=> .inl (by show X.env.scope.names.lookup y.1=_;rw[hs0];exact hS y hy hf)) hd hkd) h2.un hs) λτ H Q zz=>by
  let⟨L,Y,M,ds1,M1,ds2,M2,k,rs,e1,e2,q⟩:=zz;erw[zK]at e1;ext e1;refine ⟨k.tab y hx c P ht,λf cv H1 hf s1 V=>?_⟩;let s1':Stp L H L H1:=s1.bare;refine ⟨L,Y,M,ds2,M2,k.bare s1,rs.stp s1',e2,λL2 H2 vs s2 k2 r2=>?_⟩;calc q L2 H2 [] f cv vs (s1'.trans s2) k2 .nil r2 hf (V.stp (k.bare s1) s2)
def EK (h1:QD X e f) (h2:QAL X es pr bd sc g1 g2) (hs:starEach (e::es) X.env=(false,eval e X.env)::starEach es X.env:=by rfl):QAL X (e::es) pr bd sc (zD f g1) g2 :=
 .mk <| PA.imp (E9 h1.un h2.un hs) λτ H Q zz=>by
  let⟨L,Y,M,ds1,M1,ds2,M2,k,rs,e1,e2,q⟩:=zz;erw[zD]at e1;cbv at e1
  .rename_i d0 M0 e0;cbv at e1
   .rename_i ds3 M3 e3;ext e1;refine ⟨L,Y,M,d0,M0,k,rs,e0,λL0 H0 v s0 k0 r0=>⟨L0,Y,M0,ds3,M1,ds2,M2,k0,rs.stp s0,e3,e2,λL' H' vs1 f c vs2 s' k' r1 r2 hf V=>?_⟩⟩;exact q L' H' (v::vs1) f c vs2 (s0.trans s') k' (.cons (r0.stp s') r1) r2 (RE s0 k k0 hf).1 V
   .cases e1
  .cases e1
def IA (Y:Sd):List Nat->Option (List D)
 |[]=>some []
 |i::r=>match Y[i]?,IA Y r with
  |some (some d),some ds=>some (d::ds)
  |_,_=>none
def Ei (idx:Yj) (m:Lm->FF) (g1 g2:FA):FE:=λY M=>match g1 Y M with
 |some (ds1,M1)=>match g2 Y M1 with
  |some (ds2,M2)=>match IA Y idx with
   |some cs=>open Classical in if h:∃ r:D × Mem,∀ l,m l (ds1 ++ .fn l cs::ds2) M2=some r then some (.dat h.choose.1,h.choose.2) else none
   |none=>none
  |none=>none
 |none=>none
theorem QP (rs:Al L H Y τ):∀ {idx:Yj} {cs:List D},IA Y idx=some cs -> ∃ vs,zI L H cs vs/\vs.length=idx.length /\ ∀ (i:Nat) v,vs[i]?=some v -> ∃ j:Nat,idx[i]?=some j/\τ[j]?=some (some v)
 |[],cs,h=>by ext h;exact ⟨[],.nil,rfl,λi v e=>by simp at e⟩
 |j::r,cs,h=>by
  erw[IA]at h;cbv at h
  .rename_i d ds e1 e2;ext h;let⟨v,e3,r3⟩:=rs.2 j d e1;let⟨vs,r4,l4,h4⟩:=QP rs e2;refine ⟨v::vs,.cons r3 r4,by simp[l4],λi u e=>?_⟩;cases i with
   |zero=>simp at e;subst e;calc ⟨j,rfl,e3⟩
   |succ i=>exact h4 i u (~~~e)
  .cases h
def Ua (h1:zI L H d1 v1) (h2:zI L H d2 v2) (hc:Dh H l.c) (h3:zI L H cs l.us):zI L H (d1 ++ .fn l cs::d2) (v1 ++ .ref l.f::v2) :=
 h1.app (.cons (by erw[Rep];calc ⟨rfl,hc,h3⟩) h2)
def IF
  (F:∀ base' l,LamAt base' l pr bd sc fs->FnOk X.prog X.w X.K X.mg base' CX0 k g gd ps (spF X.K n (m l))) (hfn:∀ x,X.fn x=true) (hr:Room k X.A) (hg:Gl X x) (hm:X.mg x=some (.ref g)) (hk:PySem.W.keepIn X.K (.ref g)=true) (hb:D2 X.K gd ps [])
  (ha:QAL X (e::es) pr bd sc g1 g2) (hl:∀ Y M ds1 M1 ds2 M2,g1 Y M=some (ds1,M1)->g2 Y M1=some (ds2,M2)->ds1.length+(ds2.length+1)=n)
  (hi:idx.length=fs.length) (hcap:∀ (i:Nat) x j,fs[i]?=some x->idx[i]?=some j->X.N[j]?=some x/\X.env.scope.names.lookup x=some .cell/\(x,NameKind.free)∈sc.names)
  (hdb:(x==("__debug__" : Str))=false:=by decide) (he:starEach (e::es) X.env=(false,eval e X.env)::starEach es X.env:=by rfl) (hpl:(backTo pos (starEach es X.env)).any (·.1)=false:=by rfl) :
  QE X (.Call (.Name x p) (e::es) [] pos) (Ei idx m g1 g2):=.mk <| by
 intro zB s τ H Q I ⟨L,Y,M,d,M',k0,rs,hf,q⟩;erw[Ei]at hf;cbv at hf
 .rename_i ds1 M1 e1;cbv at hf
  .rename_i ds2 M2 e2;cbv at hf
   .rename_i cs e3;cbv at hf
    .rename_i hh;let hc:=hh.choose_spec;generalize hh.choose=r at hc hf;ext hf;refine wpAny_Call_Name_kw (RG I hg hm ?_ hdb)
     refine PySem.W.callWith_K I.ok.mod.kin hk (thn (ha.un pos zB s τ H (λvs H1=>∃ L' vs1 f c vs2,Stp L H L' H1/\Cor X.K L' M2 H1/\zI L' H1 ds1 vs1/\zI L' H1 ds2 vs2/\H f=none/\GJ X pr bd sc H1 f c/\vs=vs1 ++ .ref f::vs2) I
      ⟨L,Y,M,ds1,M1,ds2,M2,k0,rs,e1,e2,λL' H' vs1 f c vs2 a1 a2 a3 a4 a5 a6=>⟨L',vs1,f,c,vs2,a1,a2,a3,a4,a5,a6,rfl⟩⟩) λus s1 ⟨vs,H1,I1,rv,L1,vs1,f,c,vs2,s1',k1,r1,r2,hfn0,V,ev⟩=>⟨I1.kIn,?_⟩) he hpl
     subst ev;let⟨cvs,rc,lc,hcv⟩:=QP (rs.stp s1') e3;let V':=V;let⟨cf,qual,cl,pm,ctv,hfe,_⟩:=V';refine ZS (F:=λbase' la=>F base' ⟨f,c,cvs⟩ la) hfn hr hb I1 V (by rw[lc,hi]) (λi y v q1 q2=>?_) rv ?_
     .obtain ⟨j,z1,z2⟩:=hcv i v q2;let⟨z3,z4,z5⟩:=hcap i y j q1 z1;exact ⟨j,z3,z2,z4,z5⟩
     .refine ⟨L1,ds1 ++ .fn ⟨f,c,cvs⟩ cs::ds2,M2,r.1,r.2,k1.drp hfe,Ua (r1.drp hfe) (r2.drp hfe) (cf.drp hfe) (rc.drp hfe),?_,hc _,λL2 H2 v s2 k2 r3=>?_⟩
      .rw[AW,B4];exact hl Y M ds1 M1 ds2 M2 e1 e2
      .exact q L2 H2 v ((s1'.drp hfe hfn0).trans s2) k2 r3
    .cases hf
   .cases hf
  .cases hf
 .cases hf
def En (i:Nat) (l:Lm) (g:List D->FF) (fa:FA):FE:=λY M=>match Y[i]? with
 |some (some (.fn l' cs))=>open Classical in if l'=l then match fa Y M with
   |some (ds,M1)=>match g cs ds M1 with
    |some (d,M2)=>some (.dat d,M2)
    |none=>none
   |none=>none
  else none
 |_=>none
def YU (F:LamOk X.prog X.w X.K X.mg X.base k l n g) (hr:Room k X.A) (hN:X.N[i]?=some x) (ha:QA X (e::es) fa) (hl:Fn fa n)
  (hv:Vis X.env.scope x:=by first|exact Or.inl rfl|exact Or.inr (Or.inl rfl)|calc Or.inr (Or.inr rfl)) (hdb:(x==("__debug__" : Str))=false:=by decide) (hcd:(x==("__classdict__" : Str))=false:=by decide)
  (he:starEach (e::es) X.env=(false,eval e X.env)::starEach es X.env:=by rfl) (hpl:(backTo pos (starEach es X.env)).any (·.1)=false:=by rfl) :
  QE X (.Call (.Name x p) (e::es) [] pos) (En i l g fa):=.mk <| by
 intro zB s τ H Q I ⟨L,Y,M,d,M',k0,rs,hf,q⟩;erw[En]at hf;cbv at hf
 .rename_i l' cs e1;cbv at hf
  .rename_i hl';subst hl';cbv at hf
   .rename_i ds M1 e2;cbv at hf
    .rename_i d' M2 e3;ext hf;let⟨fd,ps,hb,⟨oc,od,fd',sl,fo⟩,FO⟩:=F.ex;let⟨v,e4,r4⟩:=rs.2 i _ e1;erw[Rep]at r4;let⟨rfl,cf,rc⟩:=r4;refine wpAny_Call_Name_kw (thn (OJ hN hv hdb hcd zB s τ H (λv H'=>v=.ref l'.f/\H'=H) I ⟨_,e4,rfl,rfl⟩) λu s1 ⟨v,H1,I1,rv,ev,eH⟩=>?_);subst ev eH;obtain rfl:u=Value.ref l'.f:=rv;refine PySem.W.callWith_F ⟨_,_,_,_,I1.bk _ _ fo⟩ (thn (ha.un pos zB s1 τ H1 (λvs H2=>∃ L2,Stp L H1 L2 H2/\Cor X.K L2 M1 H2/\zI L2 H2 ds vs) I1 ⟨L,Y,M,ds,M1,k0,rs,e2,λL2 H2 vs a1 a2 a3=>⟨L2,a1,a2,a3⟩⟩) λus s2 ⟨vs,H2,I2,rv2,L2,s2',k2,r2⟩=>⟨⟨_,_,_,_,I2.bk _ _ fo⟩,?_⟩) he hpl;have:=ON FO hr hb .nil SF I2 rv2 (by
      rw[CU];calc ⟨L2,ds,cs,M1,d',M',k2,r2,hl _ _ _ _ e2,cf.keep s2'.frz,rc.stp s2',e3,λL3 H3 v s3 k3 r3=>q L3 H3 v (s2'.trans s3) k3 r3⟩)
     simpa using this
    .cases hf
   .cases hf
  .cases hf
 .cases hf
end
def Iz {P:Ym} {w:Yo} {K:Yb} {mg:Yh} {base:Heap} {qual x:Str} {st:Stmt} {f c:Yt} {fd:Yz} {N ps:Yk} {b:FS} {n k:Nat} (F:Fun K x qual st f fd) (S:FnScope N ps (zJ st)) (hn:ps.length=n) (hc:fd.code=.ref c)
  (hb:∀ (A:Yn) (outer:List Env) (s:Yl) (H:Hp) (E:XK),Room k (A.deeper (envOfC qual (zJ st) ⇑s f (.ref c)))->QSs (FL CX0 P w K mg base N qual (zJ st) f (.ref c) A outer s H E).nox (EB st) b) :
  FnOk P w K mg base CX0 (k+1) f fd ps (spF K n (AS N.length b)):=by
 let F':=F;let⟨oc,od,kV,doc,pm,an,cdv,ct,osl,rfl,lk,hcd⟩:=F'.ex;let hc':cdv=.ref c:=hc;subst hc';refine Qc lk hcd S (λvs H Q E h=>?_) (λA outer s H vs Q E hr h=>⟨_,(hb A outer s H E hr).un.nox,?_⟩)
 .obtain ⟨L,ds,M,d,M',c,r,hl,_⟩:=h;rw[r.length,hl,hn]
 .obtain ⟨L,ds,M,d,M',c,r,hl,hf,q⟩:=h;erw[AS]at hf;cbv at hf
  .rename_i d' Y' M1 e1;ext hf;exact ⟨L,_,M,_,_,_,c,Ja r,e1,λL1 H1 s1 c1 v r1=>q L1 H1 v s1 c1 r1⟩
  .rename_i Y' M1 e1;ext hf;exact ⟨L,_,M,_,_,_,c,Ja r,e1,λL1 H1 s1 c1 τ' r1=>q L1 H1 .non s1 c1 (by erw[Rep];rfl)⟩
  .cases hf
def NX (ts:Yg) (H:Hp):Prop:=(∀ b xs,H b≠some (.lst xs)) /\ ∀ P∈ts,H P=some (.tbl #[])
def VH {K:Yb} {ts:Yg} {H:Hp} (h:∀ x∈GU,∀ c P,PySem.W.tabIn K x=some (c,P)->P∈ts) (hO:NX ts H):G4 K H:=λx hx c P e=>
 ⟨#[],hO.2 P (h x hx c P e),trivial,λpos v q=>by
  let q':(none:Option Value)=some v:=q;ext q'⟩
def YL {K:Yb} {s₁:Yl} {vs:Yf} {ns:Ye}
  (KX:K.In s₁.heap) (hns:s₁.heap.Ns mainGlobals mg) (hb:s₁.heap.Ns builtinsNs mb) (hbb:∀ x:Str,x ≠ "__name__" -> mb x=bootBuiltins x) (hlim:s₁.heap.NoLimit) (hbm:BMn mg s₁.heap) (hg:s₁.gens = #[])
  (ha:s₁.heap.get? a=some { cls:=.type "list", data:=.seq vs.toArray }) (hi:IntsAre vs ns) (hl:ns.length<=sizeLine) (hr:Room k callerA)
  (hnL:Gx K=true) (hnT:PySem.W.noTabs K=true) (hts:∀ P∈ts,s₁.heap.get? P=some (PySem.W.tabObj #[]) /\ ∃ c,PySem.W.codeHdIn K c P=true)
  (F:∀ base:Heap,K.In base->base.Ns mainGlobals mg->FnOk P w K mg base CX0 k fa fd [x] sp) (hbind:∀ (s:Yl) (u:Yu),BindsTo s fd ⟨[u],[]⟩ [(x,u)])
  (hsp:∀ H:Hp,NX ts H->SqL K H a (ns.map V.int)->sp [.ref a] H (λv _=>v=.bl true) λ_ _ _=>False) :
  codeAny (model P w) callerA (.call (.ref fa) ⟨[.ref a],[]⟩) (λr s'=>r=.ok (.ret (.bool true))/\OldK s₁.heap s'.heap/\s'.os=s₁.os/\AllBare s'.gens) s₁:=by
 let rv:=Nx hi;let lenV:=hi.length;let aT:a∉ts:=λz=>by
  have:=(hts a z).1;rw[ha]at this;ext this
 let Ka:K.lookup a=none:=by
  cases q:K.lookup a with
  |none=>rfl
  |some o=>
   let e:=KX a o q;rw[ha]at e;ext e;exact (Ph hnL q rfl).elim
 let KT:∀ P∈ts,K.lookup P=none:=λP hP=>by
  cases q:K.lookup P with
  |none=>rfl
  |some o=>
   let e:=KX P o q;rw[(hts P hP).1]at e;ext e;let h2:=Aj.mp hnT (P,_) (Kj q);exact absurd (show false=true from h2) Ab
 generalize hH:(λb=>if b=a then some (.frz { cls:=.type "list", data:=.seq vs.toArray } (.lst (ns.map V.int))) else if b∈ts then some (.tbl #[]) else none:Hp)=H;let Ha:H a=some (.frz { cls:=.type "list", data:=.seq vs.toArray } (.lst (ns.map V.int))):=by rw[<-hH];exact AD rfl
 let Ht:∀ P∈ts,H P=some (.tbl #[]):=λP hP=>by
  rw[<-hH];show (if P=a then _ else if P∈ts then _ else _)=_;let hPa:P≠a:=λz=>by subst z;exact aT hP
  rw[AE hPa,AD hP]
 let Hn:∀ b,b≠a->b∉ts->H b=none:=λb h1 h2=>by
  rw[<-hH];show (if b=a then _ else if b∈ts then _ else _)=_;rw[AE h1,AE h2]
 let hO:NX ts H:=by
  refine ⟨λb xs z=>?_,Ht⟩;by_cases h1:b=a
  .rw[h1,Ha]at z;ext z
  .by_cases h2:b∈ts
   .rw[Ht b h2]at z;ext z
   .rw[Hn b h1 h2]at z;ext z
 let hok:HOk P w H s₁.heap:=λb u z=>by
  by_cases h1:b=a
  .subst h1;rw[Ha]at z;ext z;exact ⟨ha,by rw[AI];calc hl,vs,_,rv,ha⟩
  .by_cases h2:b∈ts
   .rw[Ht b h2]at z;ext z;exact (hts b h2).1
   .rw[Hn b h1 h2]at z;ext z
 let base_of:∀ {b:Yt} {o:Obj},s₁.heap.get? b=some o->H b=none->(EL s₁.heap H).get? b=some o:=λe n=>Z3 e n;let noA:∀ {b:Yt} {o:Obj},s₁.heap.get? b=some o->(∀ xs n,o.data≠.seq xs n)->(∀ xs,o.data≠.fields xs)->H b=none:=λ{b o} e d1 d2=>by
  refine Hn b (λz=>?_) λz=>?_
  .rw[z,ha]at e;ext e;exact d1 _ _ rfl
  .rw[(hts b z).1]at e;ext e;exact d2 _ rfl
 let nsK:∀ {b:Yt} {m:Yh},s₁.heap.Ns b m->(EL s₁.heap H).Ns b m:=λ{b m} ⟨o,es,ep,e,d,r⟩=>⟨o,es,ep,base_of e (noA e (λ_ _ z=>by rw[d]at z;ext z) λ_ z=>by rw[d]at z;ext z),d,r⟩;let hKb:K.In (EL s₁.heap H):=λb o e=>base_of (KX b o e) (Hn b (λz=>by rw[z,Ka]at e;ext e) λz=>by rw[KT b z]at e;ext e);let bmK:BMn mg (EL s₁.heap H):=by
  let⟨bm,ob,b1,b2,b3,b4,b5,b6⟩:=hbm;exact ⟨bm,ob,b1,b2,base_of b3 (noA b3 (λ_ _ z=>by rw[b6]at z;ext z) λ_ z=>by rw[b6]at z;ext z),b4,b5,b6⟩
 let hM:Mod K mg (EL s₁.heap H):=⟨hKb,nsK hns,⟨mb,nsK hb,hbb⟩,let ⟨mc,h1,h2⟩:=hlim;⟨mc,nsK h1,h2⟩,bmK⟩;let e0:Env0 P w K mg (EL s₁.heap H) callerA [] s₁ H:=⟨rfl,hM,λb o e=>lH e,Nat.le_of_eq (mM _ _),trivial,λb hb=>absurd (show b∈([]:List Addr)from hb) (by simp),hok,.of_eq hg⟩;refine codeAny_mono ((F _ hKb (nsK hns)).run callerA [] s₁ H ⟨[.ref a],[]⟩ [.ref a] [.ref a] _ _ hr e0 (hbind s₁ (.ref a)) (.cons rfl .nil) (hsp H hO (.inl (.inr ⟨_,Ha⟩)))) λr s' h=>?_;cases r with
 |error e=>calc False.elim h
 |ok fl=>
  cases fl with
  |next=>calc False.elim h
  |brk=>calc False.elim h
  |cont=>calc False.elim h
  |ret u=>
   let⟨v,H',os,bare,un,hok',r',q⟩:=h;let q':v=.bl true:=q;subst q';obtain rfl:u=Value.bool true:=r';let tb:∀ P∈ts,∃ more,s'.heap.get? P=some (PySem.W.tabObj (#[]++more)):=λP hP=>by
    let⟨more,z⟩:=un.tbls P _ (Ht P hP);exact ⟨more,hok' P _ z⟩
   refine ⟨rfl,⟨λb o e=>?_,λb o e=>un.there b o e (by simp)⟩,os,bare⟩;by_cases h2:b∈ts
   .obtain ⟨more,z⟩:=tb b h2;let⟨e1,c,hc⟩:=hts b h2;rw[e]at e1;ext e1;exact .inr (.inl ⟨((PySem.W.codeHd_of_K KX hc).tab e).isCodeTable,rfl,#[],more,rfl,z⟩)
   .refine .inl ?_;by_cases h1:b=a
    .subst h1;let z2:=un.frzs b _ _ Ha;let⟨e2,_⟩:=hok' b _ z2;rw[ha]at e;ext e;exact e2
    .exact un.keep b o e (Hn b h1 h2) (by intro z;calc absurd (show b∈([]:List Addr)from z) (by simp)) (by simp)
def Ay (K:Yb) (ts:Yg):Prop:=(∀ P∈ts,∃ c,PySem.W.codeHdIn K c P=true) /\ ∀ x∈GU,∀ c P,PySem.W.tabIn K x=some (c,P)->P∈ts
def Uw {l:PySem.W.OpenLaw} {n k:Nat} {q:Ym} {loose:Yk} {XP:(Str->Option Value)->Heap->Prop} {d:DefRec} {K:Params->PySem.W.Frag} {as:Yg} {ee:∀ P,as=(K P).map (·.1)} {ts:Yg} {m:FF} {x:Str}
  (hn:l.most=some n) (hn2:n<=sizeLine) (hdf:d.params.defaults=[]) (hr:Room k callerA)
  (hL:∀ w:World,Gx (K w.params)=true) (hT:∀ w:World,PySem.W.noTabs (K w.params)=true)
  (F:∀ (w:Yo) (mg:Yh) (fa:Yt) (h:Heap),(K w.params).In h->h.Ns mainGlobals mg->mg d.name=some (.ref fa) ->
   Ay (K w.params) ts /\ ∃ fd:FuncData,(∀ (s:Yl) (u:Yu),BindsTo s fd ⟨[u],[]⟩ [(x,u)]) /\
    ∀ base:Heap,(K w.params).In base->base.Ns mainGlobals mg->FnOk l.prog w (K w.params) mg base CX0 k fa fd [x] (spF (K w.params) 1 m))
  (hsp:∀ ns:List Int,ns.length<=n -> ∃ M',m [.ref 0] [.fro (ns.map D.int)]=some (.bl true,M')) :
  PySem.W.WalkO q loose XP (PySem.W.kmHook K as ee ts).says l.row.toRowW d [] (λf vs=>PySem.call f vs):=by
 refine Att.XH hn hdf λw s₀ s₁ mg mb fa o pm cd doc a vs ns G YY ho hd hcd hmg hobj hints hlen hg=>?_;let KX:=PySem.W.km_in_of YY;let⟨⟨c1,c2⟩,fd,hb,hF⟩:=F w mg fa _ KX G.T.g hmg;calc YL KX G.T.g G.T.b G.T.builtins G.T.nolimit G.T.bmain hg hobj hints (Ar hlen hn2) hr (hL w) (hT w) (λP hP=>⟨PySem.W.km_tabs_of YY P hP,c1 P hP⟩) hF hb λH hO hS=>Zc (hL w) (VH c2 hO) hO.1 hS (hsp ns hlen)
structure Tb (K:Yb) (x:Str) {st:Stmt} (g:Dg K x st) where
 c:Addr
 P:Addr
 {od:Option Addr}
 {sl:Array (Option Value)}
 {vs:Yp}
 e:g.cd=.ref c
 l:K.lookup c=some ⟨.type "code", od,.fields vs,sl⟩
 v:vs[11]?=some (.ref P)
 h:PySem.W.codeHdIn [(c,⟨.type "code", od,.fields vs,sl⟩)] c P=true
section
variable {K:Yb} {x:Str} {st:Stmt} {g:Dg K x st}
def Tb.tab (t:Tb K x g):PySem.W.tabIn K x=some (t.c,t.P):=by
 let h1:=g.a;let h2:=g.l;let h3:=t.e;let h4:=t.l;let h5:=t.v;generalize g.cd=cd at h2 h3;subst h3;erw[PySem.W.tabIn];simp only[h1,h2,h4,h5]
def Tb.hd (t:Tb K x g):PySem.W.codeHdIn K t.c t.P=true:=by
 let h4:=t.l;let h6:=t.h;let e:List.lookup t.c [(t.c,(⟨.type "code", t.od,.fields t.vs,t.sl⟩:Obj))]=K.lookup t.c:=by rw[h4,D5];simp
 unfold PySem.W.codeHdIn at h6 ⊢;rw[e]at h6;calc h6
def gE (h:Zn K x):PySem.W.tabIn K x=none:=by
 erw[PySem.W.tabIn];rw[h]
def TH (xs:List (Str × Addr × Addr)) (h1:∀ p∈xs,PySem.W.tabIn K p.1=some (p.2.1,p.2.2)/\PySem.W.codeHdIn K p.2.1 p.2.2=true) (h2:∀ x∈GU,x∉xs.map (·.1)->PySem.W.tabIn K x=none)
  (h3:(ts.all (λP=>xs.any (·.2.2==P))&&xs.all (λp=>ts.contains p.2.2))=true):Ay K ts:=by
 rw[Au,Aj,Aj]at h3;refine ⟨λP hP=>?_,λx hx c P e=>?_⟩
 .obtain ⟨p,hp,e⟩:=Fj.mp (h3.1 P hP);rw[beq_iff_eq]at e;subst e;exact ⟨_,(h1 p hp).2⟩
 .by_cases z:x∈xs.map (·.1)
  .obtain ⟨p,hp,rfl⟩:=Ak.mp z;rw[(h1 p hp).1]at e;ext e;exact List.contains_iff_mem.mp (h3.2 p hp)
  .rw[h2 x hx z]at e;ext e
def LamOk.mono {P:Ym} {w:Yo} {mg:Yh} {base:Heap} {j k n:Nat} {l:Lm} {g:List D->FF} (h:LamOk P w K mg base j l n g) (hk:j<=k):LamOk P w K mg base k l n g :=
 let ⟨fd,ps,a,b,c⟩:=h.ex;⟨fd,ps,a,b,c.mono hk⟩
def JA (h1:Fn g1 a) (h2:Fn g2 b) (h:a+(b+1)=n):∀ Y M ds1 M1 ds2 M2,g1 Y M=some (ds1,M1)->g2 Y M1=some (ds2,M2)->ds1.length+(ds2.length+1)=n:=λY M ds1 M1 ds2 M2 e1 e2=>by
 rw[h1 _ _ _ _ e1,h2 _ _ _ _ e2,h]
def Wy {X:Cx} {sc:Y0}:∀ (i:Nat) x j,([]:List Str)[i]?=some x->([]:List Nat)[i]?=some j->X.N[j]?=some x/\X.env.scope.names.lookup x=some .cell/\(x,NameKind.free)∈sc.names:=λi x j h=>by simp at h
def Jg {X:Cx} {sc:Y0} {y:Str} {n:Nat} (h:X.N[n]?=some y/\X.env.scope.names.lookup y=some .cell/\(y,NameKind.free)∈sc.names):∀ (i:Nat) x j,[y][i]?=some x->[n][i]?=some j->X.N[j]?=some x/\X.env.scope.names.lookup x=some .cell/\(x,NameKind.free)∈sc.names:=λi x j h1 h2=>by
 cases i with
 |zero=>simp at h1 h2;subst h1;subst h2;calc h
 |succ i=>simp at h1
end
def Pj:Expr->Bool
 |.Lambda _ _ _ _=>true
 |_=>false
def UY (e:Expr):Expr:=match e with
 |.Subscript (.Call _ args _ _) _ _=>(args.find? Pj).getD e
 |.Call _ args _ _=>(args.find? Pj).getD e
 |_=>e
def MN (st:Stmt):Expr:=match EB st with
 |[.Return (some e) _]=>UY e
 |_=> .Constant .none 0 ⟨0,0,0,0⟩
def UA (e:Expr):Arguments:=match e with
 |.Lambda p _ _ _=>p
 |_=>Fv (.Pass ⟨0,0,0,0⟩)
def fV (e:Expr):Expr:=match e with
 |.Lambda _ b _ _=>b
 |_=>e
def Tq (e:Expr):Scope:=match e with
 |.Lambda _ _ s _=>s
 |_=>zJ (.Pass ⟨0,0,0,0⟩)
abbrev IW (base:Heap) (l:Lm) (st:Stmt) (fs:Yk):Prop:=LamAt base l (UA (MN st)) (fV (MN st)) (Tq (MN st)) fs
def RF (neg:Bool) (K:Yb):R2:=λx y H Q=>∃ (L:Yg) (d:D) (ds:List D) (p:Yt) (xs:List V),y=.ref p/\(SqL K H p xs\/SqT K H p xs)/\zh 1 d=true/\ds.all (zh 1)=true/\Rep L H d x/\zI L H ds xs/\Q (.bl (nb neg (ds.any λe=>An 1 e d))) H
section
variable {X:Cx} {a b:Expr} {pos:Pos} {f g:FE} {zB:Yd} {Y:L2.St} {H:Hp} {s:Yl} {L:Yg} {d:D} {ds:List D} {xs:List V} {its:Yf} {v:V} {u:Yu}
open Classical in
def eY (L:Yg) (H:Hp) (ds:List D) (d:D) (y:Yu):Bool:=decide (∃ e,e∈ds/\(∃ v,Rep L H e v/\zk v y)/\An 1 e d=true)
open Classical in
def Lz (hs:ds.all (zh 1)=true) {e:D} {v:V} {y:Yu} (he:e∈ds) (r:Rep L H e v) (q:zk v y):eY L H ds d y=An 1 e d:=by
 rw[Aj]at hs;let h1:=hs e he;let key:(∃ e,e∈ds/\(∃ v,Rep L H e v/\zk v y)/\An 1 e d=true) ↔ An 1 e d=true:=by
  constructor
  .rintro ⟨e',h2,⟨v',r',q'⟩,h3⟩;let h4:=hs e' h2;have:v=v':=by
    cases e <;> first|cases h1|skip
    cases e' <;> first|cases h4|skip
    let r1:=r;let r2:=r';unfold Rep at r1 r2;let⟨a1,_,rfl,_⟩:=r1;let⟨a2,_,rfl,_⟩:=r2;ext q;ext q';rfl
   subst this;rw[Rg 1 e e' v h1 h4 r r'];exact h3
  .intro h;exact ⟨e,he,⟨v,r,q⟩,h⟩
 erw[eY];cases z:An 1 e d with
 |true=>calc Ap (key.mpr z)
 |false=>exact Aa λw=>by rw[key.mp w]at z;ext z
def Kp (rr:zI L H ds xs) (r:za xs its) (h:j<its.length):∃ e v,e∈ds/\ds[j]?=some e/\Rep L H e v/\zk v its[j]:=by
 let l1:xs.length=its.length:=r.length;let l2:xs.length=ds.length:=rr.length;let hj:j<ds.length:=()
 let⟨v,g1,t1⟩:=rr.get (AL hj);let⟨o,g2,t2⟩:=r.get g1;rw[AL h]at g2;ext g2;calc ⟨_,v,BF hj,AL hj,t1,t2⟩
def N7 (I:Inv X zB Y H s) (hu:X.A.units+1+1<cLine) (hd:zh 1 d=true) (hs:ds.all (zh 1)=true) (rd:Rep L H d v) (rx:zk v u) (rr:zI L H ds xs) (r:za xs its) (w:Yu) (hw:w∈its):SeqAt.EqAt X.A.in1 s w u (eY L H ds d w):=by
 let⟨j,hj,rfl⟩:=ET hw;let⟨e,v',he,_,re,q⟩:=Kp rr r hj;rw[Lz hs he re q];rw[Aj]at hs;calc Q9 I 1 X.A.in1 _ _ _ _ _ _ hu (hs e he) hd re rd q rx
def O9 (hs:ds.all (zh 1)=true) (rr:zI L H ds xs) (r:za xs its):its.any (eY L H ds d)=ds.any λe=>An 1 e d:=by
 let l1:xs.length=its.length:=r.length;let l2:xs.length=ds.length:=rr.length;rw[Ex,Fj,Fj];constructor
 .rintro ⟨w,hw,h⟩;let⟨j,hj,rfl⟩:=ET hw;let⟨e,v',he,_,re,q⟩:=Kp rr r hj;rw[Lz hs he re q]at h;exact ⟨e,he,h⟩
 .rintro ⟨e,he,h⟩;let⟨j,hj,rfl⟩:=ET he;let⟨e',v',he',g,re,q⟩:=Kp rr r (j:=j) ();rw[AL hj]at g;ext g;calc ⟨its[j],BF (),by rw[Lz hs he' re q];calc h⟩
def mF (hu:X.A.units+1+1<cLine):OpR X (compareOp .NotIn) (RF true X.K):=by
 intro zB s Y H x y v u Q I rx ry h;let⟨L,d,ds,p,xs,rfl,hq,hd,hs,rd,rr,q⟩:=h;ext ry;rcases hq with hq|hq
 .obtain ⟨its,r,pl,hz⟩:=I.list hq;refine SeqAt.notIn_listAt (eY L H ds d) pl.isList (λw hw=>N7 I hu hd hs rd rx rr r w (~~~hw)) ⟨.bl _,H,I,rfl,?_⟩;rw[show its.toArray.any (eY L H ds d)=its.any (eY L H ds d) by simp,O9 hs rr r];exact q
 .obtain ⟨its,r,pl,hz⟩:=I.tuple hq;refine SeqAt.notIn_tupleAt (eY L H ds d) pl (λw hw=>N7 I hu hd hs rd rx rr r w (~~~hw)) ⟨.bl _,H,I,rfl,?_⟩;rw[show its.toArray.any (eY L H ds d)=its.any (eY L H ds d) by simp,O9 hs rr r];calc q
def GC (neg:Bool):K2:=λx y M=>match x with
 |.dat d=>match BA M y with
  |some ds=>if zh 1 d&&ds.all (zh 1) then some (.dat (.bl (nb neg (ds.any λe=>An 1 e d))),M) else none
  |none=>none
 |_=>none
def UO {K:Yb} {neg:Bool}:A9 K (RF neg K) (GC neg):=by
 intro L M M' H H0 x y d v w Q cc rx ry hk q;erw[GC]at hk;cbv at hk
 .rename_i d';cbv at hk
  .rename_i ds e1;cbv at hk
   .rename_i hb;ext hk;rw[Au]at hb;let⟨p,vs,rfl,hs,r⟩:=HF cc ry e1;exact ⟨L,d',ds,p,vs,rfl,hs,hb.1,hb.2,rx,r,q L H _ (.refl L H) cc (Bn (L:=L) (H:=H))⟩
   .cases hk
  .cases hk
 .cases hk
def aO (hu:X.A.units+1+1<cLine) (h1:QE X a f) (h2:QE X b g) (hm:behindInMarks .NotIn b=false:=by rfl):QT X (.Compare a [.NotIn] [b] pos) (tst (fOp (GC true) f g)):=Ec UO (mF hu) h1 h2 hm
end
end L3
namespace L2
def Itd (lo:Int) (n:Nat):It:=⟨λi _=>i<n,λi H x H'=>H'=H/\x=.int (lo-i),λi _=>n<=i⟩
def YW {P:Ym} {w:Yo} {K:Yb} {tg:Expr} (it:Yt) (lo:Int) (n:Nat):Turn P w K tg (Itd lo n) [it] it (λi h=>IsRangeIter h it (lo+(i:Nat)*(-1)) ((n:Int)-(i:Nat)) (-1)) where
 mem:=by simp
 obj:=λi h st b hb=>by
  let e:b=it:=by simpa using hb
  subst e;exact ⟨_,st,λv z=>by
   let z':Data.fields _=Data.cell v:=z;ext z'⟩
 keep:=λi h h' st k=>k it (by simp) _ st;item:=by
  intro X hP hw hK hc i zB s Y H E I hf st hg;subst hP hw hK;let⟨f0,f1,f2,f3,f4,f5⟩:=hf it (by simp);let W:=Walks.range (prog:=X.prog) (w:=X.w) (I.ok.hd hc) it lo (-1) n;refine W.item i s _ _ hg st λv h' tk hv st' kk=>?_;let⟨t,rfl⟩:=hv;let I1:Inv X zB Y H { s with heap:=h',toks:=tk }:=I.turned (λb o hb e=>kk b o (~~~hb) e) f0 f1 f3 f4 f5;refine ⟨_,rfl,Hy st' rfl rfl () ⟨.int (lo-i),H,I1,⟨t,?_⟩,⟨rfl,rfl⟩,st',λb hb=>(hf b hb).1⟩⟩;rw[show lo+(i:Nat)*(-1)=lo-(i:Nat) by omega]
 done:=by
  intro X hP hw hK hc i zB s Y H E I hf st hg;subst hP hw hK;let⟨f0,f1,f2,f3,f4,f5⟩:=hf it (by simp);exact wpAny_pyNext_range_end (I.ok.hd hc) st (by have:n<=i:=hg;omega) λh' eb=>⟨rfl,I.turned (λb o hb e=>eb b o hb e) f0 f1 f3 f4 f5⟩
 self:=λ_ _ _ _ _ st h=>wpAny_pyIter_rangeiter st h
def Qm (a b:Int):Builtin.Range.rangeSize a b (-1)=if a>b then a-b else 0:=by
 erw[Builtin.Range.rangeSize];rw[AE ()];split
 .rw[show -(-1:Int)=1 by decide,Int.ediv_one];omega
 .rfl
def gY (ha : -(2 ^ 62)<=a) (ha':a<2 ^ 62) (hb : -(2 ^ 62)<=b) (hb':b<2 ^ 62):Builtin.Range.small a b (-1)=true:=by
 erw[Builtin.Range.small];rw[Qm];simp only[Builtin.Range.rangeFitsLong,Au,Bool.or_eq_true,DD,beq_iff_eq];split <;> simp <;> omega
section
variable {X:Cx} {tg:Expr}
def YF {zB:Yd} {Y:St} {H:Hp} {s:Yl} {R:It->Hp->Prop} {E:Yc} {lo hi:Int} {t u v:Tok} {tk:Nat} (I:Inv X zB Y H s) (h1 : -(2 ^ 62)<=lo) (h2:lo<2 ^ 62) (h3 : -(2 ^ 62)<=hi) (h4:hi<2 ^ 62)
  (q:R (Itd lo (lo-hi).toNat) H):wpAny (model X.prog X.w) X.A (pyIter (.ref ⇑s)) (PIE X zB Y tg R) E { s with heap:=s.heap.push { cls:=.type "range", data:=.fields #[.int lo t,.int hi u,.int (-1) v] },toks:=tk }:=by
 calc wpAny_pyIter_range (IsRange.new ..) (gY h1 h2 h3 h4) ?_;let I1:Inv X zB Y H { s with heap:=s.heap.push { cls:=.type "range", data:=.fields #[.int lo t,.int hi u,.int (-1) v] },toks:=tk }:=I.kept λb o e=>AG _ e
 refine ⟨(s.heap.push { cls:=.type "range", data:=.fields #[.int lo t,.int hi u,.int (-1) v] }).objs.size,[(s.heap.push { cls:=.type "range", data:=.fields #[.int lo t,.int hi u,.int (-1) v] }).objs.size],_,_,H,rfl,
  I1.kept λb o e=>AG _ e,YW _ lo (lo-hi).toNat,?_,λb hb=>?_,q⟩
 .have e1:lo+((0:Nat):Int)*(-1)=lo:=by simp
  let e2:(((lo-hi).toNat:Nat):Int)-((0:Nat):Int)=Builtin.Range.rangeSize lo hi (-1):=by rw[Qm];split <;> omega
  rw[e1,e2];exact AM _ rfl
 .have e:b=(s.heap.push { cls:=.type "range", data:=.fields #[.int lo t,.int hi u,.int (-1) v] }).objs.size:=by simpa using hb
  subst e;calc I1.fpOk (AF _) (I1.hok.fresh (AF _))
def Ud (ta:TA):TI:=λY H R=>ta Y H λvs H1=>∃ i j:Int,vs=[.int i,.int j,.int (-1)]/\(-(2 ^ 20)<=i/\i<2 ^ 20 /\ -(2 ^ 20)<=j/\j<2 ^ 20)/\R (Itd i (i-j).toNat) H1
def VG {a b c:Expr} {ta:TA} {p pos:Pos} (hg:Gl X "range") (hm:X.mg "range" = none) (ha:PA X [a,b,c] ta) (hs:starEach [a,b,c] X.env=(false,eval a X.env)::starEach [b,c] X.env:=by rfl) (hs2:(backTo pos (starEach [b,c] X.env)).any (·.1)=false:=by rfl) :
  PI X tg (.Call (.Name "range" p) [a,b,c] [] pos) (Ud ta):=by
 intro zB s Y H R I h;refine Call_ (E5 I hg hm boot_range (PyProof.Rows.callWith_type1 (thn (ha pos zB s Y H _ I h) λus s1 ⟨vs,H1,I1,r1,q1⟩=>?_) hs hs2));let⟨i,j,e,⟨q1,q2,q3,q4⟩,q⟩:=q1;subst e;cases r1 with
 |cons r rr=>
  cases rr with
  |cons r' rr=>
   cases rr with
   |cons r'' rr=>
    ext rr;let⟨t,rfl⟩:=r;let⟨t',rfl⟩:=r';let⟨t'',rfl⟩:=r'';calc call_range_3 () (YF I1 () () () () q)
end
end L2
namespace L3
open L2
section
variable {X:Cx} {p pos:Pos}
def IC (f:FA):FI:=λY M=>match f Y M with
 |some ([.int i,.int j,.int k],M1)=>if k = -1 /\ -(2 ^ 20)<=i/\i<2 ^ 20 /\ -(2 ^ 20)<=j/\j<2 ^ 20 then some ((List.range (i-j).toNat).map λ(n:Nat)=>D.int (i-n),none,M1) else none
 |_=>none
def cN {K:Yb} {L:Yg} {H:Hp} {lo:Int} {n:Nat}:JH K (Itd lo n) L H ((List.range n).map λ(k:Nat)=>D.int (lo-k)) none:=by
 intro L' H' M' s c _;refine ⟨λi d hd=>?_,by simp[Itd]⟩;rw[Ac]at hd;cases q:(List.range n)[i]? with
 |none=>rw[q]at hd;ext hd
 |some k=>
  rw[q]at hd;ext hd;let hi:i<n:=by have:=(AK.mp q).1;simpa using this
  rw[List.getElem?_range hi]at q;ext q;refine ⟨hi,λv H'' ⟨hH,hv⟩=>?_⟩;subst hH hv;calc ⟨λ_ _ z=>z,Cj⟩
def Va (h:zI L H [.int i,.int j,.int k] vs):vs=[.int i,.int j,.int k]:=by
 erw[zI]at h;let⟨v,r,rfl,h1,h2⟩:=h;erw[Rep]at h1;rw[Wn h2,h1]
def TX (hg:Gl X "range") (hm:X.mg "range" = none) (ha:QA X [a,b,c] g) (hs:starEach [a,b,c] X.env=(false,eval a X.env)::starEach [b,c] X.env:=by rfl) (hs2:(backTo pos (starEach [b,c] X.env)).any (·.1)=false:=by rfl):QI X tg (.Call (.Name "range" p) [a,b,c] [] pos) (IC g) :=
 .mk <| PI.imp (VG hg hm ha.un hs hs2) λτ H R zz=>by
  let⟨L,Y,M,xs,gd,M',c,rs,hf,q⟩:=zz;erw[IC]at hf;cbv at hf
  .rename_i i j k M1 e1;cbv at hf
   .rename_i hb;ext hf;let⟨rfl,hb⟩:=hb;exact ⟨L,Y,M,_,_,c,rs,e1,λL1 H1 vs s1 c1 r1=>⟨i,j,Va r1,hb,q L1 H1 _ s1 c1 cN⟩⟩
   .cases hf
  .cases hf
def dJ {P:List Value->Prop} (h:∀ a b c d e f g,P [a,b,c,d,e,f,g]):∀ us:List Value,us.length=7->P us:=qS λa=>qS λb=>qS λc=>qS λd=>qS λe=>qS λf=>qS λg us z=>List.length_eq_zero_iff.mp z▸h a b c d e f g
end
end L3
namespace Law
open L2 L3
theorem CS (n:Nat):∀ c:List Int,D.unds n (c.map D.int)=true
 |[]=>rfl
 |x::r=>by
  show (D.und n (D.int x)&&D.unds n (r.map D.int))=true;rw[CS n r];rfl
theorem KY:∀ {a b:Ye},a.map D.int=b.map D.int->a=b
 |[],[],_=>rfl
 |[],_::_,h=>by ext h
 |_::_,[],h=>by ext h
 |x::a,y::b,h=>by
  rw[Af,Af]at h;let h1:=(Cb h).1;let h2:=KY (Cb h).2;ext h1;rw[h2]
def JK (h:x::r=c.map D.int):∃ y c',c=y::c'/\x=.int y/\r=c'.map D.int:=by
 cases c with
 |nil=>ext h
 |cons y c'=>rw[Af]at h;calc ⟨y,c',rfl,(Cb h).1,(Cb h).2⟩
def zq:Br none xs M:=trivial
def zd (h:n<=100000):n<=sizeLine:=Ar h ()
mutual
theorem Jf (h:a<=b):∀ {d:D},D.und a d=true->D.und b d=true
 |.non,_=>by erw[D.und];rfl
 |.bl _,_=>by erw[D.und];rfl
 |.int _,_=>by erw[D.und];rfl
 |.str _,_=>by erw[D.und];rfl
 |.tup ds,e=>by unfold D.und at e ⊢;calc Ft h e
 |.fn _ ds,e=>by unfold D.und at e ⊢;calc Ft h e
 |.ref k,e=>by unfold D.und at e ⊢;simp at e ⊢;omega
theorem Ft (h:a<=b):∀ {ds:List D},D.unds a ds=true->D.unds b ds=true
 |[],_=>by erw[D.unds];rfl
 |d::ds,e=>by
  unfold D.unds at e ⊢;rw[Au]at e ⊢;calc ⟨Jf h e.1,Ft h e.2⟩
end
def QV (h:a<=b) (e:MO.und a u=true):MO.und b u=true:=by
 cases u with
 |lst xs=>calc Ft h e
 |fro xs=>calc Ft h e
 |set xs=>calc Ft h e
 |dict kvs|dicT kvs|froT kvs|froK kvs=>
  unfold MO.und at e ⊢;rw[Aj]at e ⊢;intro p hp;have:=e p hp;rw[Au]at this ⊢;calc ⟨Jf h this.1,Jf h this.2⟩
theorem Mn:∀ {xs ys:List D},D.unds n (xs++ys)=(D.unds n xs&&D.unds n ys)
 |[],ys=>by simp[D.unds]
 |x::xs,ys=>by
  show (D.und n x&&D.unds n (xs++ys))=((D.und n x&&D.unds n xs)&&D.unds n ys);rw[Mn,Bool.and_assoc]
theorem GH:∀ {xs:List D},(∀ x∈xs,D.und n x=true)->D.unds n xs=true
 |[],_=>rfl
 |x::xs,h=>by
  show (D.und n x&&D.unds n xs)=true;rw[h x AZ,GH λy hy=>h y (Aq _ hy)];rfl
def ES (c:Ye):D.und n (.tup (c.map D.int))=true:=by erw[D.und];calc CS n c
def DR (i:Nat):Nat->List D
 |0=>[]
 |n+1=> .int i::DR (i+1) n
def Tf (n:Nat):∀ i,((List.range' i n).map λ(k:Nat)=>D.int k)=DR i n:=by
 induction n with
 |zero=>intro i;rfl
 |succ n ih=>intro i;rw[List.range'_succ,Af,ih];rfl
def Mr (n:Nat):((List.range n).map λ(k:Nat)=>D.int k)=DR 0 n:=by rw[List.range_eq_range',Tf]
theorem Gy:∀ (n i:Nat),(DR i n).length=n
 |0,_=>rfl
 |n+1,i=>by show (DR (i+1) n).length+1=_;rw[Gy n]
def F9 (n:Nat) (I:Nat->Sd->Mem->Prop)
  (hs:∀ i Y M,i<n->I i Y M -> ∃ σ1,g (.int i) Y=some σ1/\OkS (b σ1 M) λo σ2 M2=>match o with|.nx=>I (i+1) σ2 M2|.cnt=>I (i+1) σ2 M2|.brk=>P .nx σ2 M2|.ret d=>P (.ret d) σ2 M2)
  (he:∀ Y M,I n Y M->P .nx Y M) (Y:Sd) (M:Mem) (h0:I 0 Y M):OkS (DN g b all none (DR 0 n) Y M) P:=by
 refine DP (I:=λr Y M=>∃ i,i<=n/\r=DR i (n-i)/\I i Y M) ?_ ?_ _ _ _ ⟨0,Bv _,by simp,h0⟩
 .intro x r Y M hI;refine qz λG=>?_;let⟨i,hi,e,hI⟩:=hI;refine G ?_;clear G;let hlt:i<n:=by
   rcases Cw i n with z|z
   .exact z
   .rw[show n-i=0 by omega]at e;ext e
  rw[show n-i=(n-(i+1))+1 by omega]at e;let⟨rfl,rfl⟩:=Cb e;let⟨σ1,e1,q⟩:=hs i Y M hlt hI;calc ⟨zq,σ1,e1,OkS.mono q ?_⟩;intro o σ2 M2 z;cases o with
  |nx=>calc ⟨i+1,hlt,rfl,z⟩
  |cnt=>calc ⟨i+1,hlt,rfl,z⟩
  |brk=>calc z
  |ret d=>exact z
 .intro Y M hI;refine qz λG=>?_;let⟨i,hi,e,hI⟩:=hI;refine G ?_;clear G;have:i=n:=by
   rcases Cw i n with z|z
   .rw[show n-i=(n-(i+1))+1 by omega]at e;ext e
   .omega
  subst this;calc ⟨zq,he Y M hI⟩
def JW (n:Nat) (I:Nat->List D->Mem->Prop)
  (hs:∀ i acc M,i<n->I i acc M -> ∃ σ1,g (.int i) Y=some σ1/\Ok (te σ1 M) (D0 λd M2=>I (i+1) (acc++[d]) M2)) (h0:I 0 [] M) :
  Ok (BX g zo te Y all none (DR 0 n) M) λys M1=>I n ys M1:=by
 refine Ok.mono (IP (I:=λr acc M=>∃ i,i<=n/\r=DR i (n-i)/\I i acc M) (Q:=λacc M=>I n acc M) ?_ ?_ _ [] _ ⟨0,Bv _,by simp,h0⟩) λys M1 q=>by simpa using q
 .intro x r acc M hI;refine qz λG=>?_;let⟨i,hi,e,hI⟩:=hI;refine G ?_;clear G;let hlt:i<n:=by
   rcases Cw i n with z|z
   .exact z
   .rw[show n-i=0 by omega]at e;ext e
  rw[show n-i=(n-(i+1))+1 by omega]at e;let⟨rfl,rfl⟩:=Cb e;let⟨σ1,e1,q⟩:=hs i acc M hlt hI;calc ⟨zq,σ1,e1,PF.mpr ?_⟩;rw[AD rfl];calc Ok.mono q ?_;intro x M2 z;cases x with
  |dat d=>calc ⟨i+1,hlt,rfl,z⟩
  |fl xs=>exact ⟨i+1,hlt,rfl,z⟩
 .intro acc M hI;refine qz λG=>?_;let⟨i,hi,e,hI⟩:=hI;refine G ?_;clear G;have:i=n:=by
   rcases Cw i n with z|z
   .rw[show n-i=(n-(i+1))+1 by omega]at e;ext e
   .omega
  subst this;calc ⟨zq,hI⟩
def DI (e:f Y M=some (.dat (.int j),M)) (h1:0<=j) (h2:j<2 ^ 62):BG (zD (toD f) zK) Y M=some (DR 0 j.toNat,none,M):=by
 let e':(zD (toD f) zK) Y M=some ([.int j],M):=by erw[zD,toD,zK];rw[e]
 rw[Q8 e' h1 h2,Mr]
def mD (zA:Ya):D:=.tup (zA.map λr=> .tup (r.map D.int))
structure IsM (zA:Ya) (l:Nat):Prop where
 r0:0<zA.length
 l0:0<l
 row:∀ r∈zA,r.length=l /\ ∀ g∈r,0<=g/\g<zA.length
def E1 (zA:Ya):D.und n (mD zA)=true:=by
 erw[mD,D.und];refine GH λx hx=>?_;let⟨r,_,rfl⟩:=Ak.mp hx;calc ES r
def zH {α:Type} {x:Option (α × Mem)} {a:α} {M:Mem} (h:Ok x λb M'=>b=a/\M'=M):x=some (a,M):=by
 let⟨b,M',e,rfl,rfl⟩:=h;calc e
def zL {α:Type} {x:Option (α × Mem)} {a:α} {M:Mem} {P:α->Mem->Prop} (h:x=some (a,M)) (p:P a M):Ok x P:=⟨a,M,h,p⟩
def C2 {c:FT} {a g:FS} {Y:Sd} {M:Mem} {P:Out->Sd->Mem->Prop} (hc:c Y M=some (false,M)) (h:OkS (g Y M) P):OkS (zS (sIf c a AV) g Y M) P:=by
 rw[zN,BJ];calc zL hc ?_;rw[AE (),BU];calc h
def J8 {c:FT} {a:FS} {Y:Sd} {M:Mem} {P:Out->Sd->Mem->Prop} (hc:c Y M=some (false,M)) (h:P .nx Y M):OkS (sIf c a AV Y M) P:=by
 rw[BJ];calc zL hc ?_;rw[AE (),BU];calc h
def JD {f:FE} {Y:Sd} {M M':Mem} {k:Bool} (h:f Y M=some (.dat (.bl k),M')):B0 (tst f) Y M=some (!k,M'):=by
 erw[B0,tst];rw[h]
def zW {f:FE} {Y:Sd} {M:Mem} {d:D} (h:f Y M=some (.dat d,M)):zD (toD f) zK Y M=some ([d],M):=by
 erw[zD,toD,zK];rw[h]
def zM {f:FE} {g:FA} {Y:Sd} {M:Mem} {d:D} {ds:List D} (h:f Y M=some (.dat d,M)) (hg:g Y M=some (ds,M)):zD (toD f) g Y M=some (d::ds,M):=by
 erw[zD,toD];rw[h];dsimp only;rw[hg]
def zV {m:FF} {a:FA} {Y:Sd} {M M':Mem} {ds:List D} {d:D} (h:a Y M=some (ds,M)) (hm:m ds M=some (d,M')):zR m a Y M=some (.dat d,M'):=by
 erw[zR];rw[h];dsimp only;rw[hm]
def zE {k:K2} {f g:FE} {Y:Sd} {M:Mem} {x y:EV} {r:Option (EV × Mem)} (hf:f Y M=some (x,M)) (hg:g Y M=some (y,M)) (hk:k x y M=r):fOp k f g Y M=r:=by
 erw[fOp];rw[hf];dsimp only;rw[hg];calc hk
def A8 {x:EV} {xs:List D} {i:Int} {d:D} {M:Mem} (h:BA M x=some xs) (hd:atI xs i=some d):kIx x (.dat (.int i)) M=some (.dat d,M):=zH (U3 h hd ⟨rfl,rfl⟩)
def BP {f:FE} {x:EV} {xs:List D} {Y:Sd} {M:Mem} (hf:f Y M=some (x,M)) (h:BA M x=some xs):fB zj (zG f zO) Y M=some (.dat (.int xs.length),M):=by
 erw[fB,zG,zO];rw[hf];calc zH ((fH h).mpr ⟨rfl,rfl⟩)
def BE (zA:Ya) (h g:Int):Int:=(zA.getD h.toNat []).getD g.toNat 0
def Nj {zA:Ya} {h:Int} (h0:0<=h) (h1:h<zA.length):atI (zA.map λr=>D.tup (r.map D.int)) h=some (.tup ((zA.getD h.toNat []).map D.int)):=by
 calc Ii h0 ?_;rw[Ac,DU,AL ()];rfl
def j5 {r:Ye} {g:Int} (h0:0<=g) (h1:g<r.length):atI (r.map D.int) g=some (.int (r.getD g.toNat 0)):=by
 calc Ii h0 ?_;rw[Ac,DU,AL ()];rfl
def IsM.get {zA:Ya} {l:Nat} (m:IsM zA l) {h:Int} (h0:0<=h) (h1:h<zA.length):(zA.getD h.toNat []).length=l /\ ∀ g∈zA.getD h.toNat [],0<=g/\g<zA.length:=by
 calc m.row _ ?_;rw[DU,AL ()];calc BF _
def IsM.step {zA:Ya} {l:Nat} (m:IsM zA l) {h g:Int} (h0:0<=h) (h1:h<zA.length) (g0:0<=g) (g1:g<l):0<=BE zA h g/\BE zA h g<zA.length:=by
 let⟨q1,q2⟩:=m.get h0 h1;calc q2 _ ?_;erw[BE];rw[DU (l:=zA.getD h.toNat []),AL ()];calc BF _
def IsM.ix {zA:Ya} {l:Nat} (m:IsM zA l) {h g:Int} (h0:0<=h) (h1:h<zA.length) (g0:0<=g) (g1:g<l) {f1 f2 f3:FE} {Y:Sd} {M:Mem} (e1:f1 Y M=some (.dat (mD zA),M)) (e2:f2 Y M=some (.dat (.int h),M)) (e3:f3 Y M=some (.dat (.int g),M)) :
  fOp kIx (fOp kIx f1 f2) f3 Y M=some (.dat (.int (BE zA h g)),M):=by
 let⟨q1,_⟩:=m.get h0 h1;calc zE (zE e1 e2 (A8 zQ (Nj h0 h1))) e3 (A8 zQ (j5 g0 ()))
def GG (hf:f Y M=some (x,M)) (ht:FN M x=some t):DA T f Y M=some (.dat (.bl (isT t T)),M):=by
 erw[DA];rw[hf];dsimp only;rw[ht]
def zi (h:f Y M=some (.dat (.bl k),M')):tst f Y M=some (k,M'):=by erw[tst];rw[h]
def isV (hf:f Y M=some (x,M)) (ht:FN M x=some t) (h:isT t T=k):DA T f Y M=some (.dat (.bl k),M):=by
 rw[GG hf ht,h]
def F6 (hc:c Y M=some (true,M)) (h:OkS (a Y M) (nxP (λσ1 M1=>OkS (g σ1 M1) P) P)):OkS (zS (sIf c a b) g Y M) P:=by
 rw[zN,BJ];calc zL hc ?_;rw[AD rfl];calc h
def zc (hf:f Y M=some (.dat d,M)) (h:P (.ret d) Y M):OkS (zg f Y M) P:=by
 rw[OL];calc zL hf h
def F4 {α:Type} (as:List α) (enc out:α->D) (hi:fi Y M=some (as.map enc,gd,M)) (hgd:Br gd (as.map enc) M) (hz:as.length<=100000)
  (he:∀ a∈as,∃ σ1,g (enc a) (Bi own Y)=some σ1/\te σ1 M=some (.dat (out a),M)):Ae own fi g zo te Y M=some (.fl (as.map out),M):=by
 calc zH (Ga.mpr ⟨_,_,_,hi,by rw[AI];calc zd hz,?_⟩);refine Ok.mono (IP (I:=λr acc M'=>M'=M /\ ∃ ra rb:List α,as=rb++ra/\r=ra.map enc/\acc=rb.map out) (Q:=λacc M'=>M'=M/\acc=as.map out) ?_ ?_ _ [] _ ⟨rfl,as,[],rfl,rfl,rfl⟩) ?_
 .rintro x r acc M' ⟨rfl,ra,rb,hab,hr,rfl⟩;cases ra with
  |nil=>ext hr
  |cons a ra=>
   rw[Af]at hr;let⟨rfl,rfl⟩:=Cb hr;let⟨σ1,e1,e2⟩:=he a (by rw[hab];simp);calc ⟨hgd,σ1,e1,PF.mpr ?_⟩;rw[AD rfl];calc zL e2 ?_;rw[zY];exact ⟨rfl,ra,rb++[a],by rw[hab];simp,rfl,by simp⟩
 .rintro acc M' ⟨rfl,ra,rb,hab,hr,rfl⟩;cases ra with
  |nil=>rw[CU]at hab;subst hab;calc ⟨hgd,rfl,rfl⟩
  |cons a ra=>ext hr
 .rintro ys M' ⟨rfl,h⟩;rw[List.nil_append]at h;subst h;calc ⟨rfl,rfl⟩
def EA (hf:f Y M=some (x,M)) (h:BA M x=some xs):fB zt (zG f zO) Y M=some (.dat (.tup xs),M):=by
 erw[fB,zG,zO];rw[hf];calc zH ((Wc h).mpr ⟨rfl,rfl⟩)
def Ik (hf:f Y M=some (.dat (.tup xs),M)):Am f Y M=some (xs,none,M):=EW hf zQ
def CT (hf:f Y M=some (.dat d,M)) (h:OkS (g (Y.set i (some d)) M) P):OkS (zS (AN i f) g Y M) P:=by
 rw[zN,zu];exact zL hf h
open ST
def ris (xs:Ye):List Int:=Bj (CH xs)
def MZ (xs:Ye) (x:Int):x∈ris xs ↔ x∈xs:=by
 erw[ris];rw[(Fo _).mem_iff,UB]
def N1 (xs:Ye):(ris xs).Pairwise (· < ·):=by
 let h1:=JN (CH xs);let h2:(ris xs).Nodup:=(Fo _).nodup_iff.mpr (mT xs);unfold ris at h2 ⊢;exact (h1.and h2).imp λ{a b} h=>by have:=h.1;have:=h.2;omega
theorem RN:∀ {xs ys:Ye},xs.Pairwise (· < ·)->ys.Pairwise (· < ·)->(∀ x,x∈xs ↔ x∈ys)->xs=ys
 |[],[],_,_,_=>rfl
 |[],y::ys,_,_,h=>by have:=(h y).mpr AZ;ext this
 |x::xs,[],_,_,h=>by have:=(h x).mp AZ;ext this
 |x::xs,y::ys,h1,h2,h=>by
  let hx:=CV.mp h1;let hy:=CV.mp h2;let e:x=y:=by
   let a:=(h x).mp AZ;let b:=(h y).mpr AZ;rcases AJ.mp a with z|z
   .exact z
   .rcases AJ.mp b with q|q
    .exact q.symm
    .have:=hx.1 y q;have:=hy.1 x z;omega
  subst e;rw[RN hx.2 hy.2 λz=>?_];constructor
  .intro hz;rcases AJ.mp ((h z).mp (Aq _ hz))with q|q
   .subst q;have:=hx.1 _ hz;omega
   .exact q
  .intro hz;rcases AJ.mp ((h z).mpr (Aq _ hz))with q|q
   .subst q;have:=hy.1 _ hz;omega
   .exact q
def S4 (h:0<xs.length):0<(ris xs).length:=by
 cases xs with
 |nil=>ext h
 |cons x r=>calc List.length_pos_of_mem ((MZ (x::r) x).mpr AZ)
def iN (h:Ae own fi g tc te Y M=some (.fl (ks.map D.int),M)) (hz:ks.length<=4000):Gd own fi g tc te Y M=some (CH ks,M):=by
 erw[Gd];rw[h];dsimp only;rw[Fq];dsimp only;rw[AD (by erw[scanBound];omega)]
def f6 (h:fz Y M=some (CH ks,M)) (hz:(CH ks).length<64):IG fz Y M=some (.fl ((ris ks).map D.int),M):=by
 erw[IG];rw[h];dsimp only;rw[AD hz];rfl
def NQ:FS:=(zg (fB zt (zG (IG (Gd [3] (Am (zC 1)) (gN 3) zo (fOp kIx (fOp kIx (zC 0) (zC 3)) (zC 2)))) zO)))
def Em:FF:=Ct (AS 4 NQ)
def Kh:FS:=(zS (AN 3 (BK (zD (toD (zC 1)) zK)))
  (zS (BN (Am (zC 2)) (gN 4) (DK (fM Dn (zC 3) (zD (toD (zR Em (zD (toD (zC 0)) (zD (toD (fOp kIx (zC 3) (Eo (fC (.int 1))))) (zD (toD (zC 4)) zK))))) zK))))
  (zg (fB zt (zG (zC 3) zO)))))
def HS:FF:=Ct (AS 5 Kh)
def Nq:FS:=(zg (fOp kIx (zR HS (zD (toD (zC 0)) (zD (toD (zC 1)) (zD (toD (zC 2)) zK)))) (Eo (fC (.int 1)))))
def Ib:FF:=Ct (AS 3 Nq)
def setR (zA:Ya) (S:Ye) (g:Int):List Int:=ris (S.map λh=>BE zA h g)
def broR (zA:Ya) (S word:Ye):List Int:=word.foldl (setR zA) S
structure IsS (zA:Ya) (S:Ye):Prop where
 pw:S.Pairwise (· < ·)
 n0:0<S.length
 mem:∀ x∈S,0<=x/\x<(zA.length:Int)
theorem RW:∀ {S:Ye} {a:Int} {n:Nat},S.Pairwise (· < ·)->(∀ x∈S,a<=x/\x<a+(n:Int))->S.length<=n
 |[],_,_,_,_=>Bv _
 |x::S,a,n,h,hm=>by
  let hx:=CV.mp h;let⟨m0,m1⟩:=hm x AZ;let hn:0<n:=()
  have:=RW (S:=S) (a:=x+1) (n:=(a+n-(x+1)).toNat) hx.2 λy hy=>by
   have:=hx.1 y hy;have:=(hm y (Aq _ hy)).2;omega
  simp only[B4];omega
def IsS.len (h:IsS zA S):S.length<=zA.length:=RW h.pw (a:=0) λx hx=>by have:=h.mem x hx;omega
theorem IsM.setR {zA:Ya} {l:Nat} (m:IsM zA l) {S:Ye} (s:IsS zA S) {g:Int} (g0:0<=g) (g1:g<l):IsS zA (setR zA S g):=by
 refine ⟨N1 _,S4 (by rw[AI];calc s.n0),λx hx=>?_⟩;let⟨y,hy,rfl⟩:=Ak.mp ((MZ _ _).mp hx);let⟨y0,y1⟩:=s.mem y hy;calc m.step y0 y1 g0 g1
theorem IsM.broR {zA:Ya} {l:Nat} (m:IsM zA l):∀ (word:Ye) {S:Ye},IsS zA S->(∀ g∈word,0<=g/\g<(l:Int))->IsS zA (broR zA S word)
 |[],S,s,_=>s
 |g::r,S,s,hw=>by
  let⟨g0,g1⟩:=hw g AZ;calc IsM.broR m r (m.setR s g0 g1) λx hx=>hw x (Aq _ hx)
def tI (xs:Ye):D:=.tup (xs.map D.int)
def LY {zA:Ya} {l:Nat} (m:IsM zA l) (hR:zA.length<64) {S:Ye} (s:IsS zA S) {g:Int} (g0:0<=g) (g1:g<l) {M:Mem}:Em [mD zA,tI S,.int g] M=some (tI (setR zA S g),M):=by
 calc zH ?_;erw[Em];calc DX (by erw[D.unds,D.unds,D.unds,D.unds];rw[E1];simp[tI,ES,D.und,CS]) ?_;rw[Az];erw[NQ];let hl:=s.len;let hz:(CH (S.map λh=>BE zA h g)).length<64:=by have:=OU (S.map λh=>BE zA h g);rw[AI]at this;omega
 calc zc (d:=tI (setR zA S g)) ?_ ⟨by erw[tI];calc ES _,rfl,rfl⟩;refine EA (f6 (ks:=S.map λh=>BE zA h g) (iN ?_ (by rw[AI];omega)) hz) F5;refine (F4 S D.int (λh=> .int (BE zA h g)) (Ik rfl) trivial () λh hh=>⟨_,rfl,?_⟩).trans ?_
 .obtain ⟨h0,h1⟩:=s.mem h hh;exact m.ix h0 h1 g0 g1 rfl rfl rfl
 .rw[BH];rfl
def Fh (zA:Ya) (S:Ye):List Int->List (List Int)
 |[]=>[S]
 |g::w=>S::Fh zA (setR zA S g) w
def QK {α:Type} (xs:List α) (x:α):atI (xs++[x]) (-1)=some x:=by
 erw[atI,ixN];rw[AE (),AD (by simp;omega)];have:((-1:Int)+((xs++[x]).length:Int)).toNat=xs.length:=by simp;omega
 simp only[Option.bind_some];rw[this];simp
def iZ {zA:Ya} {l:Nat} (m:IsM zA l) (hR:zA.length<64) {S word:Ye} (s:IsS zA S) (hw:∀ g∈word,0<=g/\g<(l:Int)) (hz:word.length<=90000) {M:Mem}:HS [mD zA,tI S,tI word] M=some (.tup ((Fh zA S word).map tI),M):=by
 calc zH ?_;erw[HS];calc DX (by erw[D.unds,D.unds,D.unds,D.unds];rw[E1];simp[tI,ES,D.und,CS]) ?_;rw[Az];erw[Kh];show OkS (zS _ _ [some (mD zA),some (tI S),some (tI word),none,none] []) _;rw[zN,zu];calc Gi.mpr (Fi.mpr (Cv.mpr (DQ.mpr ⟨_,rfl,zY.mpr (EY.mpr ⟨zd (by simp),?_⟩)⟩)));rw[Zp,zT,zN,CK];calc ⟨_,_,_,EW rfl zQ,?_⟩;show OkS (DN _ _ _ _ _ [some (mD zA),some (tI S),some (tI word),some (.ref 0),none] [.lst [tI S]]) _;refine DP (I:=λr Y M'=>∃ (y:Option D) (c:Ye) (acc:Ya) (T:Ye),Y=[some (mD zA),some (tI S),some (tI word),some (.ref 0),y]/\r=c.map D.int/\(∀ g∈c,0<=g/\g<(l:Int))/\IsS zA T/\M'=[.lst ((acc++[T]).map tI)]/\acc++Fh zA T c=Fh zA S word/\acc.length+c.length=word.length) ?_ ?_ _ _ _ ⟨none,word,[],S,rfl,rfl,hw,s,rfl,rfl,by simp⟩
 .intro x r Y M' hI;refine qz λG=>?_;let⟨y,c,acc,T,eI1,hc,hg,sT,eI2,e,hl⟩:=hI;refine G ?_;clear G;subst eI1 eI2;let⟨z,c',rfl,rfl,rfl⟩:=JK hc;refine ⟨zq,_,rfl,?_⟩;rw[HD];let⟨g0,g1⟩:=hg z AZ;let eA:([MO.lst ((acc++[T]).map tI)]:Mem)[0]?=some (.lst ((acc++[T]).map tI)):=rfl;refine Hh.mpr (DQ.mpr ⟨_,rfl,⟨_,GY eA⟩,Fi.mpr (Cv.mpr ?_)⟩);refine zL (zV (zM rfl (zM (zE (f:=zC 3) (g:=Eo (fC (.int 1))) (y:=.dat (.int (-1))) rfl rfl (A8 (BW eA) ?_)) (zW rfl))) (LY m hR sT g0 g1)) ?_
  .rw[Cg];exact QK _ _
  .rw[zY,EY,Je eA (by rw[AI,AW];simp at hl ⊢;exact A0 (m:=95000) () (zd ()))];refine ⟨_,c',acc++[T],setR zA T z,rfl,rfl,λg hg'=>hg g (Aq _ hg'),m.setR sT g0 g1,?_,?_,by simp at hl ⊢;omega⟩
   .simp
   .rw[<-e];simp[Fh]
 .intro Y M' hI;refine qz λG=>?_;let⟨y,c,acc,T,eI1,hc,hg,sT,eI2,e,hl⟩:=hI;refine G ?_;clear G;subst eI1 eI2;have:c=[]:=by cases c with|nil=>rfl|cons _ _=>ext hc
  subst this;calc ⟨zq,?_⟩;rw[zT];calc zc (EA rfl (BW (show ([MO.lst ((acc++[T]).map tI)]:Mem)[0]?=some (.lst ((acc++[T]).map tI))from rfl))) ?_;let e':acc++[T]=Fh zA S word:=by rw[<-e];rfl
  rw[e'];calc ⟨?_,rfl,rfl⟩;erw[D.und];refine GH λx hx=>?_;let⟨r,_,rfl⟩:=Ak.mp hx;calc ES r
theorem RK (zA:Ya):∀ (word S:Ye),∃ us,Fh zA S word=us++[broR zA S word]
 |[],S=>⟨[],rfl⟩
 |g::w,S=>by
  let⟨us,e⟩:=RK zA w (setR zA S g);calc ⟨S::us,by show S::Fh zA _ w=_;rw[e];rfl⟩
def iM (m:IsM zA l) (hR:zA.length<64) (s:IsS zA S) (hw:∀ g∈word,0<=g/\g<(l:Int)) (hz:word.length<=90000):Ib [mD zA,tI S,tI word] M=some (tI (broR zA S word),M):=by
 calc zH ?_;erw[Ib];calc DX (by erw[D.unds,D.unds,D.unds,D.unds];rw[E1];simp[tI,ES,D.und,CS]) ?_;rw[Az];erw[Nq];let⟨us,e⟩:=RK zA word S;calc zc (d:=tI (broR zA S word)) (zE (zV (zM rfl (zM rfl (zW rfl))) (iZ m hR s hw hz)) (g:=Eo (fC (.int 1))) (y:=.dat (.int (-1))) rfl (A8 zQ ?_)) ⟨by erw[tI];calc ES _,rfl,rfl⟩;rw[e,Cg];calc QK _ _
def JC (e:f Y M=some (.dat (mD zA),M)):fB zj (zG f zO) Y M=some (.dat (.int zA.length),M):=by
 have:=BP e zQ;rw[AI]at this;calc this
def MG (m:IsM zA l) (e:f Y M=some (.dat (mD zA),M)):fB zj (zG (fOp kIx f (fC (.int 0))) zO) Y M=some (.dat (.int l),M):=by
 let r0:=m.r0;have:=BP (zE (g:=fC (.int 0)) e rfl (A8 zQ (Nj () ()))) zQ;rw[AI,(m.get () ()).1]at this;calc this
def Q3 (e:f Y M=some (.dat (tI xs),M)):fB zj (zG f zO) Y M=some (.dat (.int xs.length),M):=by
 have:=BP e zQ;rw[AI]at this;calc this
def Nd:FS:=(zg (B3 (DA "int" (zC 0)) (El (DA "bool" (zC 0)))))
def Ij:FF:=AS 1 Nd
def LG:FS:=(zg (B3 (zR Ij (zD (toD (zC 0)) zK)) (HE kLe kLt (fC (.int 0)) (zC 0) (zC 1))))
def Iu:FF:=AS 2 LG
def Kk:FS:=(zg (B3 (DA "tuple" (zC 0)) (fB DC (zG (Ae [2] (Am (zC 0)) (gN 2) zo (zR Iu (zD (toD (zC 2)) (zD (toD (zC 1)) zK)))) zO))))
def G7:FF:=AS 3 Kk
mutual
def Vd (M:Mem):D->Prop
 |.ref n=>∃ t,FN M (.dat (.ref n))=some t/\(t = "list" \/ t = "dict")
 |.tup ds=>ds.length<=100000/\Vds M ds
 |.fn _ _=>False
 |_=>True
def Vds (M:Mem):List D->Prop
 |[]=>True
 |d::ds=>Vd M d/\Vds M ds
end
def Vds.mem:∀ {ds:List D},Vds M ds -> ∀ d∈ds,Vd M d
 |[],_,d,h=>by ext h
 |x::ds,hv,d,h=>by
  erw[Vds]at hv;rcases AJ.mp h with q|q
  .subst q;exact hv.1
  .exact Vds.mem hv.2 d q
def Vds.of:∀ {ds:List D},(∀ d∈ds,Vd M d)->Vds M ds
 |[],_=>trivial
 |x::ds,h=>⟨h x AZ,Vds.of λd hd=>h d (Aq _ hd)⟩
def MQ:D->Bool
 |.int _=>true
 |_=>false
def DB (n:Int):D->Bool
 |.int i=>decide (0<=i)&&decide (i<n)
 |_=>false
def tbD (n:Int):D->Bool
 |.tup ds=>ds.all (DB n)
 |_=>false
def XN:D->Bool
 |.tup _=>true
 |_=>false
def Lv (out:D->D) (hf:f Y M=some (.dat (.tup ds),M)) (hz:ds.length<=100000)
  (he:∀ a∈ds,∃ σ1,g a (Bi own Y)=some σ1/\te σ1 M=some (.dat (out a),M)):Ae own (Am f) g zo te Y M=some (.fl (ds.map out),M) :=
 F4 (gd:=none) ds id out (by rw[List.map_id];calc Ik hf) trivial hz he
def Vd.ty (h:Vd M d):∃ t,FN M (.dat d)=some t/\isT t "tuple" = XN d/\(isT t "int" && !isT t "bool")=MQ d:=by
 cases d with
 |non=>calc ⟨_,rfl,(show isT "NoneType" "tuple" = false by decide),(show (isT "NoneType" "int" && !isT "NoneType" "bool")=false by decide)⟩
 |bl k=>calc ⟨_,rfl,(show isT "bool" "tuple" = false by decide),(show (isT "bool" "int" && !isT "bool" "bool")=false by decide)⟩
 |int i=>calc ⟨_,rfl,(show isT "int" "tuple" = false by decide),(show (isT "int" "int" && !isT "int" "bool")=true by decide)⟩
 |str x=>calc ⟨_,rfl,(show isT "str" "tuple" = false by decide),(show (isT "str" "int" && !isT "str" "bool")=false by decide)⟩
 |tup ds=>calc ⟨_,rfl,(show isT "tuple" "tuple" = true by decide),(show (isT "tuple" "int" && !isT "tuple" "bool")=false by decide)⟩
 |ref n=>
  erw[Vd]at h;let⟨t,e,h⟩:=h;rcases h with rfl|rfl
  .exact ⟨_,e,(show isT "list" "tuple" = false by decide),(show (isT "list" "int" && !isT "list" "bool")=false by decide)⟩
  .exact ⟨_,e,(show isT "dict" "tuple" = false by decide),(show (isT "dict" "int" && !isT "dict" "bool")=false by decide)⟩
 |fn _ _=>calc h.elim
def Cu (hf:f Y M=some (.dat (.bl a),M)) (hg:a=true->g Y M=some (.dat (.bl b),M)):B3 f g Y M=some (.dat (.bl (a&&b)),M):=by
 erw[B3];rw[hf];cases a with
 |true=>calc hg rfl
 |false=>rfl
def NN (hf:f Y M=some (.dat (.bl a),M)):El f Y M=some (.dat (.bl (!a)),M):=by erw[El];rw[hf]
def EX (h:f (ds.map some++List.replicate (n-ds.length) none) M=some (.dat d,M)):AS n (zg f) ds M=some (d,M):=by
 calc zH ?_;rw[Az];calc zc h ⟨rfl,rfl⟩
def cB (h:Vd M d):Ij [d] M=some (.bl (MQ d),M):=by
 let⟨t,e,_,q⟩:=h.ty;erw[Ij,Nd];calc EX ?_;rw[<-q];calc Cu (GG rfl e) λ_=>NN (GG rfl e)
def X1 (h:Vd M d):Iu [d,.int n] M=some (.bl (DB n d),M):=by
 erw[Iu,LG];calc EX ?_;let hw:=zV (Y:=[some d,some (.int n)]) (a:=zD (toD (zC 0)) zK) (zW rfl) (cB h);let e:DB n d=(MQ d&&DB n d):=by cases d <;> rfl
 rw[e];refine Cu hw λhi=>?_;cases d with
 |int i=>
  calc zH (ZC.mpr (Gv.mpr (DQ.mpr ⟨_,rfl,KA.mpr (Gp.mpr ?_)⟩)));by_cases h0:0<=i
  .rw[AD (~~~h0)];calc DQ.mpr ⟨_,rfl,Ih.mpr ⟨?_,rfl⟩⟩;simp[DB,h0]
  .rw[AE (~~~h0)];calc ⟨by simp[DB,h0],rfl⟩
 |_=>ext hi
def HK {bs:List Bool} (h:f Y M=some (.fl (bs.map D.bl),M)):fB DC (zG f zO) Y M=some (.dat (.bl (bs.all id)),M):=by
 erw[fB,zG,zO];rw[h];calc zH ((Kg LJ (KG bs)).mpr ⟨rfl,rfl⟩)
def Jo {α:Type} (xs:List α) (p:α->Bool):(xs.map p).all id=xs.all p:=by rw[List.all_map];rfl
def Pk (h:Vd M d):G7 [d,.int n] M=some (.bl (tbD n d),M):=by
 erw[G7,Kk];calc EX ?_;let⟨t,e,q,_⟩:=h.ty;cases d with
 |tup ds=>
  let hh:Vd M (.tup ds):=h;erw[Vd]at hh;have:tbD n (.tup ds)=(true&&(ds.map (DB n)).all id):=by rw[Bool.true_and,Jo];rfl
  rw[this];refine Cu (by rw[GG rfl e,q];rfl) λ_=>HK ?_;rw[BH];exact Lv (λx=> .bl (DB n x)) rfl hh.1 λx hx=>⟨_,rfl,zV (zM rfl (zW rfl)) (X1 (hh.2.mem x hx))⟩
 |_=>
  have:∀ b,(false&&b)=false:=λb=>rfl;refine (Cu (a:=false) (b:=true) (by rw[GG rfl e,q];rfl) λz=>by ext z).trans ?_;rfl
def mU {xs:List D} {lo hi:Ys} {M:Mem}:kSl (.dat (.tup xs)) lo hi M=some (.dat (.tup (L3.CI xs lo hi)),M):=rfl
def slE {f:FE} {fl fh:FO} {Y:Sd} {M:Mem} {xs:List D} {lo hi:Ys} (hf:f Y M=some (.dat (.tup xs),M)) (hl:fl Y M=some (lo,M)) (hh:fh Y M=some (hi,M)):fSl f fl fh Y M=some (.dat (.tup (L3.CI xs lo hi)),M):=by
 erw[fSl];rw[hf];dsimp only;rw[hl];dsimp only;rw[hh];calc mU
def oS (h:f Y M=some (.dat (.int i),M)):Dw f Y M=some (some i,M):=by erw[Dw];rw[h]
abbrev gL (k:Nat) (s:Int):MO:=.lst [.ref k,.int s]
end Law
namespace Lac
open L2 L3 ST Law
theorem IH {α:Type} (enc out:α->D) (keep:α->Bool):∀ (as:List α),(∀ a∈as,∃ σ1,g (enc a) Y=some σ1/\tc σ1 M=some (keep a,M)/\(keep a=true->te σ1 M=some (.dat (out a),M)))->BX g tc te Y all none (as.map enc) M=some ((as.filter keep).map out,M)
 |[],_=>by
  rw[List.map_nil];erw[BX];rw[AD (show Br none all M from trivial)];rfl
 |a::r,h=>by
  let⟨σ1,e1,e2,e3⟩:=h a AZ;let ih:=IH (all:=all) (Y:=Y) enc out keep r λb hb=>h b (Aq _ hb);rw[Af];erw[BX];rw[AD (show Br none all M from trivial),e1];dsimp only;rw[e2];cases hk:keep a with
  |false=>
   dsimp only;rw[ih,List.filter_cons_of_neg (by simp[hk])]
  |true=>
   dsimp only;rw[show toD te σ1 M=some (out a,M) by erw[toD];rw[e3 hk]];dsimp only;rw[ih,List.filter_cons_of_pos hk];rfl
def Et (g:Ye):List Key:=g.map Sum.inl
theorem OE:∀ {a b:Ye},Et a=Et b->a=b
 |[],[],_=>rfl
 |[],_::_,h=>by ext h
 |_::_,[],h=>by ext h
 |x::a,y::b,h=>by
  let h1:=(Cb h).1;let h2:=OE (Cb h).2;ext h1;rw[h2]
theorem Oo:∀ g:List Int,C1 (g.map D.int)=some (Et g)
 |[]=>rfl
 |x::r=>by
  rw[Af];erw[C1];rw[Oo r];rfl
def Ls (g:Ye):tkD (tI g)=some (Et g):=Oo g
abbrev BR (T:List (List Int × D)):List (D × D):=T.map λq=>(tI q.1,q.2)
abbrev dT (T:List (List Int × D)):MO:=.dicT (BR T)
def zf:List (List Int × D)->List Int->Option D
 |[],_=>none
 |q::r,g=>if q.1=g then some q.2 else zf r g
def BO (T:List (List Int × D)) (g:Ye) (v:D):List (List Int × D):=match zf T g with
 |some _=>T.map λq=>if q.1=g then (q.1,v) else q
 |none=>T++[(g,v)]
def Na (a g:Ye):decide (tkD (tI a)=some (Et g))=decide (a=g):=by
 rw[Ls];by_cases h:a=g
 .subst h;simp
 .rw[Aa h,Aa];intro e;calc h (OE (Bh e))
theorem P5 (g:Ye):∀ T:List (List Int × D),DG tkD (BR T) (Et g)=zf T g
 |[]=>rfl
 |q::r=>by
  let ih:=P5 g r;unfold DG at ih ⊢;unfold BR at ih ⊢;rw[Af,EZ];rw[Na];erw[zf];by_cases h:q.1=g
  .rw[Ap h,AD h];rfl
  .rw[Aa h,AE h];calc ih
theorem Sl (g:Ye):∀ T:List (List Int × D),((BR T).any λp=>decide (tkD p.1=some (Et g)))=(zf T g).isSome
 |[]=>rfl
 |q::r=>by
  let ih:=Sl g r;unfold BR at ih ⊢;rw[Af,List.any_cons,Na];erw[zf];by_cases h:q.1=g
  .rw[Ap h,AD h];rfl
  .rw[Aa h,AE h,Bool.false_or];calc ih
def UD (T:List (List Int × D)) (g:Ye) (v:D):Fd tkD (BR T) (Et g) (tI g) v=BR (BO T g v):=by
 erw[Fd,BO];rw[Sl];cases h:zf T g with
 |none=>
  rw[AE (by simp)];erw[BR];rw[Cg];rfl
 |some d=>
  rw[AD (by simp)];erw[BR];rw[BH,BH];apply List.map_congr_left;intro q _;show (if tkD (tI q.1)=some (Et g) then (tI q.1,v) else (tI q.1,q.2))=(tI (if q.1=g then (q.1,v) else q).1,(if q.1=g then (q.1,v) else q).2);let hd:=Na q.1 g;by_cases hq:q.1=g
  .rw[Ap hq]at hd;rw[AD (CZ hd),AD hq]
  .rw[Aa hq]at hd;rw[AE (of_decide_eq_false hd),AE hq]
def jY (T:List (List Int × D)) (g h:Ye) (v:D):zf (BO T g v) h=if g=h then some v else zf T h:=by
 let app:∀ (T:List (List Int × D)),zf T g=none->zf (T++[(g,v)]) h=if g=h then some v else zf T h:=by
  intro T;induction T with
  |nil=>intro _;rfl
  |cons q r ih=>
   intro e;erw[zf]at e;by_cases hq:q.1=g
   .rw[AD hq]at e;ext e
   .rw[AE hq]at e;show (if q.1=h then some q.2 else zf (r++[(g,v)]) h)=if g=h then some v else if q.1=h then some q.2 else zf r h
    rw[ih e];by_cases h1:q.1=h
    .rw[AD h1,AD h1,AE (λz=>hq (h1.trans z.symm))]
    .rw[AE h1,AE h1]
 let mp:∀ (T:List (List Int × D)),(zf T g).isSome=true->zf (T.map λq=>if q.1=g then (q.1,v) else q) h=if g=h then some v else zf T h:=by
  intro T;by_cases hgh:g=h
  .subst hgh;induction T with
   |nil=>intro e;ext e
   |cons q r ih=>
    intro e;rw[Af];erw[zf];by_cases hq:q.1=g
    .rw[AD hq];simp[hq]
    .rw[AE hq,AE hq];erw[zf]at e;rw[AE hq]at e;rw[ih e,AD rfl,AD rfl]
  .intro hx;clear hx;rw[AE hgh];induction T with
   |nil=>rfl
   |cons q r ih=>
    rw[Af];erw[zf];by_cases hq:q.1=g
    .have:¬ q.1=h:=λz=>hgh (hq.symm.trans z);rw[AD hq];rw[AE this,AE this];exact ih
    .rw[AE hq];by_cases h1:q.1=h
     .rw[AD h1,AD h1]
     .rw[AE h1,AE h1];exact ih
 erw[BO];cases e:zf T g with
 |none=>calc app T e
 |some d=>calc mp T (by rw[e];rfl)
def dgT (h:M[n]?=some (dT T)):GR M (.dat (.ref n)) (tI g)=some (zf T g):=by
 erw[GR];dsimp only;rw[h];dsimp only;rw[Ls];dsimp only;rw[P5]
def C7 (h:M[n]?=some (dT T)):Ck neg (.dat (tI g)) (.dat (.ref n)) M=some (.dat (.bl (if neg then !(zf T g).isSome else (zf T g).isSome)),M):=by
 erw[Ck];dsimp only;rw[dgT h]
def GO (h:M[n]?=some (dT T)) (hd:zf T g=some d):BB (.dat (.ref n)) (.dat (tI g)) M=some (.dat d,M):=by
 erw[BB];dsimp only;rw[dgT h,hd]
def Cn (h:M[n]?=some (dT T)) (hz:T.length<90000):DY M n (tI g) v=some (M.set n (dT (BO T g v))):=by
 erw[DY];rw[h];dsimp only;rw[Ls];dsimp only;rw[AD (by rw[AI];calc A0 hz (zd ())),UD]
def WX (ha:a Y M=some (true,M)):CC a b Y M=some (true,M):=by erw[CC];rw[ha]
def N2 (ha:a Y M=some (false,M)) (hb:b Y M=some (k,M)):CC a b Y M=some (k,M):=by erw[CC];rw[ha];calc hb
def eqE:kEq (.dat (.int a)) (.dat (.int b)) M=some (.dat (.bl (decide (a=b))),M):=zH (CM.mpr ⟨rfl,rfl⟩)
def DH:FS:=(zS (sIf (CC (B0 (tst (zR G7 (zD (toD (zC 1)) (zD (toD (fB zj (zG (zC 0) zO))) zK))))) (tst (fOp kEq (fB zj (zG (zC 1) zO)) (fC (.int 0))))) (zg (fC (.bl false))) AV)
  (zg (fB DC (zG (Ae [2,3] (HX (zD (toD (zC 1)) (zD (toD (fSl (zC 1) (Dw (fC (.int 1))) D3)) zK))) (DO 2 3) zo (fOp kLt (zC 2) (zC 3))) zO))))
def Ci:FF:=AS 4 DH
def dR {xs:List D} {lo hi:Ys} {a b:Nat} (ha:HT.sIx xs.length 0 lo=a) (hb:HT.sIx xs.length xs.length hi=b):L3.CI xs lo hi=(xs.drop a).take (b-a):=by
 erw[L3.CI];rw[ha,hb]
def Y6 (n:Nat) (d:Nat):HT.sIx n d none=d:=rfl
def RZ (h:∀ x∈c,0<=x/\x<R):tbD R (tI c)=true:=by
 show List.all _ _=true;rw[Aj];intro d hd;let⟨i,hi,rfl⟩:=Ak.mp hd;have:=h i hi;simp[DB,this.1,this.2]
theorem Rx:∀ {ds:List D},ds.all (DB n)=true -> ∃ xs:List Int,ds=xs.map D.int /\ ∀ x∈xs,0<=x/\x<n
 |[],_=>⟨[],rfl,λ_ h=>by ext h⟩
 |d::ds,h=>by
  rw[List.all_cons,Au]at h;let⟨xs,rfl,hx⟩:=Rx h.2;let h1:=h.1;cases d with
  |int i=>
   simp only[DB,Au,DD]at h1;exact ⟨i::xs,rfl,λx hm=>by
    rcases AJ.mp hm with z|z
    .subst z;exact h1
    .exact hx x z⟩
  |_=>ext h1
def dO:tbD n d=true ↔ ∃ xs:List Int,d=tI xs /\ ∀ x∈xs,0<=x/\x<n:=by
 constructor
 .intro h;cases d with
  |tup ds=>
   let⟨xs,rfl,hx⟩:=Rx (show ds.all (DB n)=true from h);calc ⟨xs,rfl,hx⟩
  |_=>ext h
 .rintro ⟨xs,rfl,h⟩;calc RZ h
def Dy (wf:∀ (j:Nat) u,M[j]?=some u->MO.und M.length u=true) (hd:D.und 0 d=true) (h:Ok (m ds M) λd' M'=>d'=d /\ ∃ us,M'=M++us):EE m ds M=some (d,M):=by
 calc zH (Mh (Ok.mono h ?_));rintro d' M' ⟨rfl,us,rfl⟩;refine ⟨⟨Jf (Bv _) hd,by simp,λj u hj e=>?_⟩,rfl,by simp⟩;rw[AY hj]at e;calc wf j u e
theorem Qq:∀ {S:Ye},((S.zip (S.drop 1)).map λq=>decide (q.1<q.2)).all id=true ↔ S.Pairwise (· < ·)
 |[]=>by simp
 |[a]=>by simp
 |a::b::r=>by
  let ih:=Qq (S:=b::r);let e:((a::b::r).zip ((a::b::r).drop 1)).map (λq=>decide (q.1<q.2))=decide (a<b)::((b::r).zip ((b::r).drop 1)).map (λq=>decide (q.1<q.2)):=rfl;rw[e,List.all_cons,Au,ih];constructor
  .rintro ⟨h1,h2⟩;let h1:a<b:=CZ h1;refine CV.mpr ⟨λc hc=>?_,h2⟩;rcases AJ.mp hc with z|z
   .rw[z];exact h1
   .exact Int.lt_trans h1 ((CV.mp h2).1 c z)
  .intro h;let⟨h1,h2⟩:=CV.mp h;calc ⟨Ap (h1 b AZ),h2⟩
def IQ (hd:Vd M d):∃ b,Ci [mD zA,d] M=some (.bl b,M)/\(b=true ↔ ∃ S,d=tI S/\IsS zA S):=by
 let e:=Pk (n:=zA.length) hd;cases h:tbD zA.length d with
 |false=>
  refine ⟨false,?_,(λz=>by ext z),?_⟩
  .refine zH ?_;erw[Ci];rw[Az];erw[DH];rw[h]at e;exact F6 (WX (JD (zV (zM (d:=d) rfl (zW (JC rfl))) e))) (zc rfl ⟨rfl,rfl⟩)
  .rintro ⟨S,rfl,s⟩;rw[RZ s.mem]at h;ext h
 |true=>
  rw[h]at e;let⟨S,rfl,hS⟩:=dO.mp h;let hl:S.length<=100000:=by
   let hh:Vd M (.tup (S.map D.int)):=hd;erw[Vd]at hh;simpa using hh.1
  by_cases s0:S.length=0
  .refine ⟨false,?_,(λz=>by ext z),?_⟩
   .refine zH ?_;erw[Ci];rw[Az];erw[DH];calc F6 (N2 (JD (zV (zM rfl (zW (JC rfl))) e)) (zi (zE (Q3 rfl) rfl (eqE.trans ?_)))) (zc rfl ⟨rfl,rfl⟩);rw[Ap ()]
   .rintro ⟨S',e',s⟩;have:S=S':=KY (D.tup.inj e');subst this;have:=s.n0;omega
  .refine ⟨((S.zip (S.drop 1)).map λq=>decide (q.1<q.2)).all id,?_,?_⟩
   .refine zH ?_;erw[Ci];rw[Az];erw[DH];refine C2 (N2 (JD (zV (zM rfl (zW (JC rfl))) e)) (zi (zE (Q3 rfl) rfl (eqE.trans ?_)))) ?_
    .rw[Aa ()]
    let c1:L3.CI (S.map D.int) (some 1) none=(S.drop 1).map D.int:=by
     rw[dR (by show HT.sIx _ _ (some ((1:Nat):Int))=1;rw[HT.QL,AI];omega) (by rw[Y6,AI]),List.map_drop];exact Gq (by simp)
    let hi:HX (zD (toD (zC 1)) (zD (toD (fSl (zC 1) (Dw (fC (.int 1))) D3)) zK)) [some (mD zA),some (tI S),none,none] M=some ((S.zip (S.drop 1)).map (λq=>D.tup [.int q.1,.int q.2]),none,M):=by
     let s1:=slE (f:=zC 1) (Y:=[some (mD zA),some (tI S),none,none]) (M:=M) (xs:=S.map D.int) rfl (oS (f:=fC (.int 1)) rfl) (rfl:D3 _ M=some (none,M));rw[c1]at s1;have:=zM (f:=zC 1) (Y:=[some (mD zA),some (tI S),none,none]) rfl (zW s1);erw[HX];rw[this];show some ((((S.map D.int).zip ((S.drop 1).map D.int)).map λq=>D.tup [q.1,q.2]),none,M)=_;congr 2;rw[List.zip_map,BH];rfl
    calc zc (HK ?_) ⟨rfl,rfl⟩;rw[BH];exact F4 (S.zip (S.drop 1)) (λq=>D.tup [.int q.1,.int q.2]) (λq=> .bl (decide (q.1<q.2))) hi trivial (by rw[List.length_zip];omega) λq _=>⟨_,rfl,zE rfl rfl rfl⟩
   .rw[Qq];constructor
    .exact λh=>⟨S,rfl,⟨h,(),hS⟩⟩
    .rintro ⟨S',e',s⟩;have:S=S':=KY (D.tup.inj e');subst this;calc s.pw
end Lac
namespace Lae
open L2 L3 ST Law
abbrev Lvl:=List (List Int × List Int)
def BC (zA:Ya) (S w:Ye) (p:List (List Int) × Lvl) (g:Int):List (List Int) × Lvl :=
 if setR zA S g∈p.1 then p else (p.1++[setR zA S g],p.2++[(setR zA S g,w++[g])])
def A7 (l:Nat):List Int:=(List.range l).map λ(g:Nat)=>(g:Int)
def C5 (zA:Ya) (l:Nat) (p:List (List Int) × Lvl) (s:List Int × List Int):List (List Int) × Lvl:=(A7 l).foldl (BC zA s.1 s.2) p
def C6 (zA:Ya) (l:Nat) (seen:Ya) (level:Lvl):List (List Int) × Lvl:=level.foldl (C5 zA l) (seen,[])
def run (zA:Ya) (l:Nat) (due:List Int->Bool):Nat->List (List Int)->Lvl->List (List (List Int))->Option (Option (List Int) × List (List (List Int)))
 |0,_,_,_=>none
 |n+1,seen,level,acc=>if level.isEmpty then some (none,acc) else match level.find? λp=>due p.1 with
  |some p=>some (some p.2,acc)
  |none=>run zA l due n (C6 zA l seen level).1 (C6 zA l seen level).2 (acc++[level.map (·.1)])
structure Met (zA:Ya) (seen:Ya) (level:Lvl):Prop where
 nd:seen.Nodup
 st:∀ S∈seen,IsS zA S
 lv:∀ p∈level,IsS zA p.1
structure Gr (zA:Ya) (seen:Ya) (p:List (List Int) × Lvl):Prop where
 nd:p.1.Nodup
 st:∀ S∈p.1,IsS zA S
 eq:p.1=seen++p.2.map (·.1)
def Gr.lv {zA:Ya} {seen:Ya} {p:List (List Int) × Lvl} (h:Gr zA seen p):∀ s∈p.2,IsS zA s.1:=λs hs=>h.st _ (by rw[h.eq];calc Ax _ (Ak.mpr ⟨s,hs,rfl⟩))
def Qy {zA:Ya} {l:Nat} (m:IsM zA l) {seen:Ya} {p:List (List Int) × Lvl} (h:Gr zA seen p) {S w:Ye} (s:IsS zA S) {g:Int} (g0:0<=g) (g1:g<l):Gr zA seen (BC zA S w p g):=by
 erw[BC];split
 .exact h
 .rename_i hn;refine ⟨?_,λT hT=>?_,by rw[h.eq];simp⟩
  .rw[EG];exact ⟨h.nd,by simp,λa ha b hb z=>hn (by rw[<-(show b=setR zA S g by simpa using hb),<-z];calc ha)⟩
  .rcases AO.mp hT with z|z
   .exact h.st T z
   .have:T=setR zA S g:=by simpa using z
    rw[this];calc m.setR s g0 g1
def Jv (h:g∈A7 l):0<=g/\g<l:=by
 let⟨i,hi,rfl⟩:=Ak.mp h;have:=Ey.mp hi;omega
theorem SG {zA:Ya} {l:Nat} (m:IsM zA l) {seen:Ya} {S w:Ye} (s:IsS zA S):∀ (gs:Ye) {p:List (List Int) × Lvl},(∀ g∈gs,0<=g/\g<(l:Int))->Gr zA seen p->Gr zA seen (gs.foldl (BC zA S w) p)
 |[],_,_,h=>h
 |g::r,p,hg,h=>SG m s r (λx hx=>hg x (Aq _ hx)) (Qy m h s (hg g AZ).1 (hg g AZ).2)
def aU {zA:Ya} {l:Nat} (m:IsM zA l) {seen:Ya} {p:List (List Int) × Lvl} (h:Gr zA seen p) {s:List Int × List Int} (hs:IsS zA s.1):Gr zA seen (C5 zA l p s):=SG m hs _ (λg hg=>Jv hg) h
theorem Kw {zA:Ya} {l:Nat} (m:IsM zA l) {seen:Ya}:∀ {level:Lvl} {p:List (List Int) × Lvl},(∀ s∈level,IsS zA s.1)->Gr zA seen p->Gr zA seen (level.foldl (C5 zA l) p)
 |[],_,_,h=>h
 |s::r,p,hs,h=>Kw m (level:=r) (λx hx=>hs x (Aq _ hx)) (aU m h (hs s AZ))
def Met.next {zA:Ya} {l:Nat} (m:IsM zA l) {seen:Ya} {level:Lvl} (h:Met zA seen level):Gr zA seen (C6 zA l seen level):=Kw m h.lv ⟨h.nd,h.st,by simp⟩
def Gr.met {zA:Ya} {seen:Ya} {p:List (List Int) × Lvl} (h:Gr zA seen p):Met zA p.1 p.2:=⟨h.nd,h.st,h.lv⟩
def FY:Nat->List (List Int)
 |0=>[[]]
 |n+1=>FY n++(FY n).map (· ++ [(n:Int)])
theorem OF:∀ n,(FY n).length=2 ^ n
 |0=>rfl
 |n+1=>by erw[FY];rw[AW,AI,OF n,Nat.pow_succ];omega
theorem Mc:∀ (n:Nat) (S:Ye),S.Pairwise (· < ·)->(∀ x∈S,0<=x/\x<(n:Int))->S∈FY n
 |0,S,_,h=>by
  cases S with
  |nil=>erw[FY];simp
  |cons x r=>have:=h x AZ;omega
 |n+1,S,hp,h=>by
  erw[FY];rw[AO];by_cases hn:(n:Int)∈S
  .right;let⟨a,b,rfl⟩:=List.append_of_mem hn;rw[List.pairwise_append,CV]at hp;let hb:b=[]:=by
    cases b with
    |nil=>rfl
    |cons y b=>
     let h1:=hp.2.1.1 y AZ;let h2:=h y (by simp);omega
   subst hb;refine Ak.mpr ⟨a,Mc n a hp.1 λx hx=>?_,rfl⟩;let h1:=hp.2.2 x hx (n:Int) AZ;let h2:=h x (Cm _ hx);omega
  .left;refine Mc n S hp λx hx=>?_;let h2:=h x hx;have:x≠n:=λz=>hn (z▸hx);omega
theorem Oj {α:Type} [DecidableEq α]:∀ {xs ys:List α},xs.Nodup->(∀ x∈xs,x∈ys)->xs.length<=ys.length
 |[],_,_,_=>Bv _
 |x::r,ys,hn,h=>by
  let hn':=List.nodup_cons.mp hn;let h1:=h x AZ;let ih:=Oj (xs:=r) (ys:=ys.erase x) hn'.2 λy hy=>by
   have:y≠x:=λz=>hn'.1 (z▸hy);exact (List.mem_erase_of_ne this).mpr (h y (Aq _ hy))
  rw[List.length_erase_of_mem h1]at ih;have:=List.length_pos_of_mem h1;rw[B4];omega
def Hw {zA:Ya} {seen:Ya} (nd:seen.Nodup) (st:∀ S∈seen,IsS zA S) (h9:zA.length<=9):seen.length<=512:=by
 let h1:seen.length<=(FY zA.length).length:=Oj nd λS hS=>Mc _ S (st S hS).pw (st S hS).mem;rw[OF]at h1;have:2 ^ zA.length<=2 ^ 9:=Nat.pow_le_pow_right () h9;omega
theorem Sa {zA:Ya} {l:Nat} (m:IsM zA l) (h9:zA.length<=9) {due:List Int->Bool}:∀ (n:Nat) {seen:Ya} {level:Lvl} {acc:List (List (List Int))},Met zA seen level->514<=n+seen.length -> ∃ r,run zA l due n seen level acc=some r
 |0,seen,level,acc,h,hn=>by have:=Hw h.nd h.st h9;omega
 |n+1,seen,level,acc,h,hn=>by
  erw[run];split
  .exact ⟨_,rfl⟩
  .split
   .exact ⟨_,rfl⟩
   .have g:=h.next m;by_cases he:(C6 zA l seen level).2=[]
    .cases n with
     |zero=>have:=Hw h.nd h.st h9;omega
     |succ n=>
      erw[run];rw[he];exact ⟨_,rfl⟩
    .refine Sa m h9 n g.met ?_;rw[g.eq,AW,AI];have:=List.length_pos_iff.mpr he;omega
theorem Kf (hd:∀ S,due S=false):∀ (n:Nat) {seen:Ya} {level:Lvl} {acc:List (List (List Int))} {r},run zA l due n seen level acc=some r->r.1=none
 |0,_,_,_,_,h=>by ext h
 |n+1,seen,level,acc,r,h=>by
  erw[run]at h;cbv at h
  .cases h;rfl
  .split at h
   .rename_i p hp;have:=List.find?_some hp;rw[hd]at this;ext this
   .exact Kf hd n h
theorem JU:∀ (n:Nat) {seen:Ya} {level:Lvl} {acc:List (List (List Int))} {r:Option (List Int) × List (List (List Int))},run zA l due n seen level acc=some r->r.2.length<=acc.length+n
 |0,_,_,_,_,h=>by ext h
 |n+1,seen,level,acc,r,h=>by
  erw[run]at h;cbv at h
  .cases h;show acc.length<=_;omega
  .split at h
   .cases h;show acc.length<=_;omega
   .have:=JU n h;rw[AW,Eb]at this;omega
def Ly:FS:=(zg (KN "cells" (fOp Fs (fB FH (zG (zC 0) zO)) (fOp Eh (BK (zD (toD (fC (.int 0))) zK)) (fB CA (zG (fOp kEq (fB zj (zG (zC 0) zO)) (fC (.int 0))) zO)))) "at" (fC (.int 0)) "number" (fC (.int 0))))
def Ir:FF:=AS 1 Ly
def Mv:FS:=(zS (sIf (tst (fOp kEq (fOp BB (zC 0) (fC (.str "number"))) (fC (.int 0)))) (zS (AN 2 (fOp kIx (fOp BB (zC 0) (fC (.str "cells"))) (fOp Cd (fOp BB (zC 0) (fC (.str "at"))) (fB zj (zG (fOp BB (zC 0) (fC (.str "cells"))) zO)))))
  (zS (C9 (fOp Bz (fOp BB (zC 0) (fC (.str "at"))) (fC (.int 1))) (zC 0) (fC (.str "at")))
  (zS (sIf (CC (tst (fOp kLt (zC 2) (fOp Gs (fC (.int 10)) (fC (.int 18))))) (tst (fOp kGt (fOp BB (zC 0) (fC (.str "at"))) (fB zj (zG (fOp BB (zC 0) (fC (.str "cells"))) zO))))) (zS (AN 3 (fOp BB (zC 0) (fC (.str "at"))))
  (zS (AN 4 (fOp Cd (fOp Bz (fOp Bz (fOp DS (fOp Cd (zC 2) (fC (.int 2147483629))) (fC (.int 48271))) (fOp DS (fOp DS (zC 3) (zC 3)) (fC (.int 69621)))) (fC (.int 11))) (fC (.int 2147483647))))
  (zg (fOp Cd (fOp GK (fOp Cd (fOp DS (zC 4) (zC 4)) (fC (.int 1999999973))) (fC (.int 7))) (zC 1))))) AV)
  (C9 (zC 2) (zC 0) (fC (.str "number")))))) AV)
  (zS (AN 5 (fOp Cd (fOp BB (zC 0) (fC (.str "number"))) (zC 1)))
  (zS (C9 (fOp GK (fOp BB (zC 0) (fC (.str "number"))) (zC 1)) (zC 0) (fC (.str "number")))
  (zg (zC 5)))))
def zb:FF:=AS 6 Mv
abbrev gS (k:Nat) (a x:Int):MO:=.dict [(.str "cells", .ref k),(.str "at", .int a),(.str "number", .int x)]
structure Gen (M:Mem) (n k:Nat) (q:Nat):Prop where
 ex:∃ (c:Ye) (a x:Int),M[n]?=some (gS k a x)/\M[k]?=some (.lst (c.map D.int))/\0<c.length/\c.length<=63/\0<=a/\a<=q
 ne:n≠k
 wf:∀ (j:Nat) u,M[j]?=some u->MO.und M.length u=true
def Gen.mono (h:Gen M n k q) (hq:q<=q'):Gen M n k q' :=
 let ⟨c,a,x,e1,e2,e3,e4,e5,e6⟩:=h.ex;⟨⟨c,a,x,e1,e2,e3,e4,e5,()⟩,h.ne,h.wf⟩
structure Nw (M M':Mem) (n k q:Nat):Prop where
 gen:Gen M' n k q
 len:M.length<=M'.length
 fr:∀ j,j<M.length->j≠n->j≠k->M'[j]?=M[j]?
def Nw.mono (h:Nw M M' n k q) (hq:q<=q'):Nw M M' n k q':=⟨h.gen.mono hq,h.len,h.fr⟩
def Nw.refl (h:Gen M n k q):Nw M M n k q:=⟨h,AF _,λ_ _ _ _=>rfl⟩
def Nw.trans {M M1 M2:Mem} {n k q q':Nat} (a:Nw M M1 n k q) (b:Nw M1 M2 n k q'):Nw M M2 n k q' :=
 ⟨b.gen,Ar a.len b.len,λj h h1 h2=>(b.fr j (A0 h a.len) h1 h2).trans (a.fr j h h1 h2)⟩
def Gen.lt (h:Gen M n k q):n<M.length/\k<M.length:=by
 let⟨c,a,x,e1,e2,_⟩:=h.ex;calc ⟨(AK.mp e1).1,(AK.mp e2).1⟩
def R8 (hk:k<N):MO.und N (gS k a x)=true:=by
 erw[MO.und];simp[D.und,hk]
def Gen.put {M:Mem} {n k q q':Nat} (h:Gen M n k q) {a x:Int} (h0:0<=a) (h1:a<=q'):Nw M (M.set n (gS k a x)) n k q':=by
 let⟨hn,hk⟩:=h.lt;let⟨c,_,_,e1,e2,e3,e4,_⟩:=h.ex;refine ⟨⟨⟨c,a,x,CO hn,by rw[A6 h.ne];calc e2,e3,e4,h0,h1⟩,h.ne,λj u e=>?_⟩,by simp,λj _ h1 h2=>A6 (Ne.symm h1)⟩;rw[Cf];rw[FC]at e;cbv at e
 .cases e;exact R8 hk
 .exact h.wf j u e
def Gen.app (h:Gen A n k q) (hu:∀ u∈us,MO.und (A.length+us.length) u=true):Nw A (A++us) n k q:=by
 let⟨c,a,x,e1,e2,r⟩:=h.ex;let⟨hn,hk⟩:=h.lt;refine ⟨⟨⟨c,a,x,by rw[AY hn];calc e1,by rw[AY hk];calc e2,r⟩,h.ne,λj u e=>?_⟩,by simp,λj hj _ _=>AY hj⟩;rw[AW];by_cases hj:j<A.length
 .rw[AY hj]at e;exact QV () (h.wf j u e)
 .rw[CQ ()]at e;calc hu u (BD e)
def Gen.lst (h:Gen A n k q) (xs:List D) (hx:D.unds A.length xs=true):Nw A (A++[.lst xs]) n k q:=h.app λu hu=>by
 have:u=.lst xs:=by simpa using hu
 subst this;calc Ft (by simp) hx
def Nw.setB (h:Nw M A n k q) (g:Gen M n k q0) (hj:M.length<=j) (hu:MO.und A.length u=true):Nw M (A.set j u) n k q:=by
 let⟨hn,hk⟩:=g.lt;let⟨c,a,x,e1,e2,r⟩:=h.gen.ex;refine ⟨⟨⟨c,a,x,by rw[A6 ()];calc e1,by rw[A6 ()];calc e2,r⟩,g.ne,λi v e=>?_⟩,by rw[Cf];exact h.len,λi hi h1 h2=>by rw[A6 ()];calc h.fr i hi h1 h2⟩;rw[Cf];rw[FC]at e;cbv at e
 .split at e
  .cases e;exact hu
  .cases e
 .exact h.gen.wf i v e
def Nw.wf0 (h:Nw M M' n k q) (g:Gen M n k q0):∀ (j:Nat) u,j<M.length->M'[j]?=some u->MO.und M.length u=true:=λj u hj e=>by
 let⟨hn,hk⟩:=g.lt;let⟨c,a,x,e1,e2,r⟩:=h.gen.ex;by_cases q1:j=n
 .subst q1;rw[e1]at e;ext e;exact R8 hk
 .by_cases q2:j=k
  .subst q2;rw[e2]at e;ext e;exact CS _ _
  .rw[h.fr j hj q1 q2]at e;calc g.wf j u e
def Nw.trim (h:Nw M M' n k q) (g:Gen M n k q0):Nw M (M'.take M.length) n k q:=by
 let⟨hn,hk⟩:=g.lt;let tk:∀ j,j<M.length->(M'.take M.length)[j]?=M'[j]?:=λj hj=>List.getElem?_take_of_lt hj;let tl:(M'.take M.length).length=M.length:=by have:=h.len;rw[Bp];omega
 let⟨c,a,x,e1,e2,r⟩:=h.gen.ex;refine ⟨⟨⟨c,a,x,(tk n hn).trans e1,(tk k hk).trans e2,r⟩,g.ne,λj u e=>?_⟩,(),λj hj h1 h2=>(tk j hj).trans (h.fr j hj h1 h2)⟩;let hj:j<M.length:=by have:=(AK.mp e).1;omega
 rw[tk j hj]at e;rw[tl];calc h.wf0 g j u hj e
def Nw.get (h:Nw M M' n k q) (e:M[j]?=some u) (h1:j≠n) (h2:j≠k):M'[j]?=some u :=
 (h.fr j (AK.mp e).1 h1 h2).trans e
def D9 (hf:f Y M=some (.dat (.ref n),M)) (hM:M[n]?=some (gS k a x)):fOp BB f (fC (.str "cells")) Y M=some (.dat (.ref k),M)/\fOp BB f (fC (.str "at")) Y M=some (.dat (.int a),M)/\fOp BB f (fC (.str "number")) Y M=some (.dat (.int x),M):=by
 refine ⟨?_,?_,?_⟩ <;>
 .refine zE hf rfl ?_;erw[BB,GR];dsimp only;rw[hM];rfl
def Zs (hM:M[n]?=some (gS k a x)):DY M n (.str "at") (.int a')=some (M.set n (gS k a' x)):=by
 erw[DY];rw[hM];dsimp only[Bu];rw[AD (show [(D.str (Str.ofString "cells"),D.ref k),(D.str (Str.ofString "at"),D.int a),(D.str (Str.ofString "number"),D.int x)].length<sizeLine from zd (n:=4) ())];rfl
def Pb (hM:M[n]?=some (gS k a x)):DY M n (.str "number") (.int x')=some (M.set n (gS k a x')):=by
 erw[DY];rw[hM];dsimp only[Bu];rw[AD (show [(D.str (Str.ofString "cells"),D.ref k),(D.str (Str.ofString "at"),D.int a),(D.str (Str.ofString "number"),D.int x)].length<sizeLine from zd (n:=4) ())];rfl
def Gf (h1:fv Y M=some (.dat v,M)) (h2:fo Y M=some (.dat (.ref n),M)) (h3:fi Y M=some (.dat k,M)) (h4:DY M n k v=some M4) (q:P .nx Y M4):OkS (C9 fv fo fi Y M) P:=by
 calc ⟨.nx,Y,M4,?_,q⟩;erw[C9,toD];rw[h1];dsimp only;rw[h2];dsimp only;rw[h3];dsimp only;rw[h4]
def D4 (h:0<b):Cd (.dat (.int a)) (.dat (.int b)) M=some (.dat (.int (a % b)),M):=zH (eE.mpr ⟨h,rfl,rfl⟩)
def R6 (h:0<b/\b<1073741824):GK (.dat (.int a)) (.dat (.int b)) M=some (.dat (.int (a / b)),M):=zH (fR.mpr ⟨h,rfl,rfl⟩)
def eJ (h:HY a b=true):DS (.dat (.int a)) (.dat (.int b)) M=some (.dat (.int (a*b)),M):=zH (UM.mpr ⟨h,rfl,rfl⟩)
def Kt {M:Mem} {c:Ye} (hf:f Y M=some (.dat (.ref j),M)) (h:M[j]?=some (.lst (c.map D.int))):fB zj (zG f zO) Y M=some (.dat (.int c.length),M):=by
 have:=BP hf (BW h);rw[AI]at this;calc this
def Iq (h : -(2 ^ 64)<b/\b<2 ^ 64):DS (.dat (.int a)) (.dat (.int b)) M=some (.dat (.int (a*b)),M):=eJ (by erw[HY];simp only[Bool.or_eq_true,Au,DD];calc .inr h)
def RI (h:Gen M n k q) (e1:M[n]?=some (gS k a x)) (ha:0<=a) (hb:a<=q) (h0:0<m) (h1:m<1073741824) (hP:∀ Y i x',0<=i->i<m->P (.ret (.int i)) Y (M.set n (gS k a x'))) :
  OkS (zS (AN 5 (fOp Cd (fOp BB (zC 0) (fC (.str "number"))) (zC 1))) (zS (C9 (fOp GK (fOp BB (zC 0) (fC (.str "number"))) (zC 1)) (zC 0) (fC (.str "number"))) (zg (zC 5))) [some (.ref n),some (.int m),y2,y3,y4,none] M) P:=by
 calc CT (zE (D9 rfl e1).2.2 rfl (D4 h0)) ?_;rw[zN];calc Gf (zE (D9 rfl e1).2.2 rfl (R6 ⟨h0,h1⟩)) rfl rfl (Pb e1) ?_;rw[zT];calc zc rfl (hP _ _ _ (Int.emod_nonneg _ ()) (E6 _ h0))
def Ku (h:Gen M n k q) (hq:q<1000000000) (h0:0<m) (h1:m<1073741824) :
  Ok (zb [.ref n,.int m] M) λd M'=>(∃ i,d=.int i/\0<=i/\i<m)/\Nw M M' n k (q+1)/\M'.length=M.length:=by
 erw[zb];rw[Az];erw[Mv];let⟨c,a,x,e1,e2,e3,e4,e5,e6⟩:=h.ex;let⟨hn,hk⟩:=h.lt;rw[zN,BJ];calc zL (zi (zE (D9 rfl e1).2.2 rfl (zH (CM.mpr ⟨rfl,rfl⟩)))) ?_;by_cases hx:x=0
 .rw[AD (~~~hx)];let hl:(0:Int)<(c.length:Int):=()
  let hi0:0<=a % (c.length:Int):=Int.emod_nonneg _ ();let hi1:a % (c.length:Int)<c.length:=E6 _ hl;obtain ⟨y,hy⟩:∃ y:Int,atI (c.map D.int) (a % (c.length:Int))=some (.int y):=by
   let⟨i,hi⟩:=Int.eq_ofNat_of_zero_le hi0;rw[hi]at hi1 ⊢;calc ⟨c[i]'(),?_⟩;exact Ca (by rw[Ac,AL ()];rfl)
  calc CT (zE (D9 rfl e1).1 (zE (D9 rfl e1).2.1 (Kt (D9 rfl e1).1 e2) (D4 hl)) (A8 (BW e2) hy)) ?_;rw[zN];calc Gf (v:=.int (a+1)) (zE (D9 rfl e1).2.1 rfl rfl) rfl rfl (Zs e1) ?_;rw[zT];let P:=h.put (a:=a+1) (x:=x) (q':=q+1) () ();let f1:(M.set n (gS k (a+1) x))[n]?=some (gS k (a+1) x):=CO hn;let f2:(M.set n (gS k (a+1) x))[k]?=some (.lst (c.map D.int)):=by rw[A6 h.ne];exact e2
  let fl:(M.set n (gS k (a+1) x)).length=M.length:=by simp
  generalize M.set n (gS k (a+1) x)=M1 at P f1 f2 fl;rw[zN,BJ];let hor:∃ b,CC (tst (fOp kLt (zC 2) (fOp Gs (fC (.int 10)) (fC (.int 18))))) (tst (fOp kGt (fOp BB (zC 0) (fC (.str "at"))) (fB zj (zG (fOp BB (zC 0) (fC (.str "cells"))) zO)))) [some (.ref n),some (.int m),some (.int y),none,none,none] M1=some (b,M1):=by
   let t1:tst (fOp kLt (zC 2) (fOp Gs (fC (.int 10)) (fC (.int 18)))) [some (.ref n),some (.int m),some (.int y),none,none,none] M1=some (decide (y<10 ^ (18:Int).toNat),M1) :=
    zi (zE rfl (zE rfl rfl (zH (mX.mpr ⟨(),rfl,rfl⟩))) (zH (Ih.mpr ⟨rfl,rfl⟩)))
   let t2:∃ b,tst (fOp kGt (fOp BB (zC 0) (fC (.str "at"))) (fB zj (zG (fOp BB (zC 0) (fC (.str "cells"))) zO))) [some (.ref n),some (.int m),some (.int y),none,none,none] M1=some (b,M1) :=
    ⟨_,zi (zE (D9 rfl f1).2.1 (Kt (D9 rfl f1).1 f2) (zH (Mp.mpr ⟨rfl,rfl⟩)))⟩
   let⟨b2,t2⟩:=t2;erw[CC];rw[t1];cases decide (y<10 ^ (18:Int).toNat) with
   |true=>calc ⟨true,rfl⟩
   |false=>exact ⟨b2,t2⟩
  let⟨b,hor⟩:=hor;calc zL hor ?_;cases b with
  |true=>
   rw[AD rfl];calc CT (D9 rfl f1).2.1 ?_;let hs0:0<=(y % 2147483629*48271+(a+1)*(a+1)*69621+11) % 2147483647:=Int.emod_nonneg _ ();let hs1:(y % 2147483629*48271+(a+1)*(a+1)*69621+11) % 2147483647<2147483647:=E6 _ ();calc CT (zE (zE (zE (zE (zE rfl rfl (D4 ())) rfl (Iq ())) (zE (zE rfl rfl (Iq ⟨(),()⟩)) rfl (Iq ())) rfl) rfl rfl) rfl (D4 ())) ?_;generalize (y % 2147483629*48271+(a+1)*(a+1)*69621+11) % 2147483647=s at hs0 hs1;calc zc (zE (zE (zE (zE (y:=.dat (.int s)) rfl rfl (Iq ⟨(),()⟩)) rfl (D4 ())) rfl (R6 ⟨(),()⟩)) rfl (D4 h0)) ?_;rw[EJ];calc ⟨⟨_,rfl,Int.emod_nonneg _ (),E6 _ h0⟩,P,fl⟩
  |false=>
   rw[AE Ab,BU,zT];calc Gf rfl rfl rfl (Pb f1) ?_;rw[zT];let P2:=P.gen.put (a:=a+1) (x:=y) (q':=q+1) () ();let g1:(M1.set n (gS k (a+1) y))[n]?=some (gS k (a+1) y):=CO ();let gl:(M1.set n (gS k (a+1) y)).length=M.length:=by rw[Cf,fl]
   let PP:=P.trans P2;generalize M1.set n (gS k (a+1) y)=M2 at PP g1 gl;refine RI PP.gen g1 () () h0 h1 λY i x' i0 i1=>⟨⟨i,rfl,i0,i1⟩,PP.trans (PP.gen.put () ()),by rw[Cf,gl]⟩
 .rw[AE (~~~hx),BU,zT];calc RI h e1 e5 e6 h0 h1 λY i x' i0 i1=>⟨⟨i,rfl,i0,i1⟩,h.put e5 (),by simp⟩
def Ea (h:Gen M n k q) (hq:q<1000000000) (ha:fa Y M=some (.dat (.ref n),M)) (hb:fb Y M=some (.dat (.int m),M)) (h0:0<m) (h1:m<1073741824)
  (p:∀ i M',0<=i->i<m->Nw M M' n k (q+1)->M'.length=M.length->P (.dat (.int i)) M'):Ok (zR zb (zD (toD fa) (zD (toD fb) zK)) Y M) P:=by
 rw[Fu,Fi,Cv];calc ⟨_,_,ha,?_⟩;rw[zY,Fi,Cv];calc ⟨_,_,hb,?_⟩;rw[zY,EY];calc Ok.mono (Ku h hq h0 h1) ?_;rintro d M' ⟨⟨i,rfl,i0,i1⟩,nx,hl⟩;exact p i M' i0 i1 nx hl
open Lac (dT BR zf BO C7 Cn)
def Lw:FS:=(zS (AN 3 Jw)
  (zS (BN (E2 (zC 1)) (DO 4 5) (BN (BG (zD (toD (fB zj (zG (fOp kIx (zC 0) (fC (.int 0))) zO))) zK)) (gN 6) (zS (AN 7 (zR Em (zD (toD (zC 0)) (zD (toD (zC 4)) (zD (toD (zC 6)) zK)))))
  (sIf (tst (fOp (Ck true) (zC 7) (zC 2))) (zS (C9 (fC (.bl true)) (zC 2) (zC 7))
  (C9 (fOp Bz (zC 5) (Bk (zD (toD (zC 6)) zK))) (zC 3) (zC 7))) AV))))
  (zg (zC 3))))
def HJ:FF:=AS 8 Lw
def sE (ss:Ya):List (List Int × D):=ss.map λs=>(s,.bl true)
def wE (lv:Lvl):List (List Int × D):=lv.map λp=>(p.1,tI p.2)
theorem JX (x:D):∀ (T:List (List Int × D)) (g:Ye),(zf T g).isSome=decide (g∈T.map (·.1))
 |[],g=>by simp[zf]
 |q::r,g=>by
  erw[zf];by_cases h:q.1=g
  .rw[AD h];simp[h]
  .rw[AE h,JX x r g];have:g≠q.1:=λz=>h z.symm;simp[this]
def Rr (ss:Ya):(sE ss).map (·.1)=ss:=by erw[sE];rw[BH];calc List.map_id' ss
def mN (lv:Lvl):(wE lv).map (·.1)=lv.map (·.1):=by erw[wE];rw[BH];rfl
def RC (h:g∉T.map (·.1)):BO T g v=T++[(g,v)]:=by
 erw[BO];have:=JX .non T g;rw[Aa h]at this;cases e:zf T g with
 |none=>rfl
 |some d=>rw[e]at this;ext this
def fN (h:g∉ss):BO (sE ss) g (.bl true)=sE (ss++[g]):=by
 rw[RC (by rw[Rr];calc h)];erw[sE];simp
def bX (h:g∉lv.map (·.1)):BO (wE lv) g (tI w)=wE (lv++[(g,w)]):=by
 rw[RC (by rw[mN];calc h)];erw[wE];simp
structure Nl (M0 M:Mem) (a b c:Nat) (lev:MO) (seen:Ya) (beh:Lvl):Prop where
 len:M.length=M0.length+1
 ea:M[a]?=some lev
 eb:M[b]?=some (dT (sE seen))
 ec:M[c]?=some (dT (wE beh))
 fr:∀ j,j<M0.length->j≠a->j≠b->M[j]?=M0[j]?
def Wr (hz:w.length<=5000):Bz (.dat (tI w)) (.dat (.tup [.int g])) M=some (.dat (tI (w++[g])),M):=by
 let e:Kq (.dat (tI w)) (.dat (.tup [.int g])) M=none:=rfl;show kOr Kq G2 _ _ M=_;erw[kOr];rw[e];show G2 (.dat (.tup (w.map D.int))) (.dat (.tup [.int g])) M=_;erw[G2];dsimp only[CP];rw[AD (zd (by simp;omega))];erw[tI];rw[Cg];rfl
def dP {zA:Ya} {l:Nat} (m:IsM zA l) (h9:zA.length<=9) {M0 M:Mem} {a b c:Nat} (hac:a≠c) (hbc:b≠c) (hab:a≠b) (hc:c=M0.length) (hb:b<M0.length) {lev:MO} {seen0:Ya} {p:List (List Int) × Lvl} (gr:Gr zA seen0 p) (nl:Nl M0 M a b c lev p.1 p.2) {S w:Ye} (s:IsS zA S) (hw:w.length<=5000) {g:Int} (g0:0<=g) (g1:g<l) {y7:Option D} :
  OkS (zS (AN 7 (zR Em (zD (toD (zC 0)) (zD (toD (zC 4)) (zD (toD (zC 6)) zK)))))
  (sIf (tst (fOp (Ck true) (zC 7) (zC 2))) (zS (C9 (fC (.bl true)) (zC 2) (zC 7))
  (C9 (fOp Bz (zC 5) (Bk (zD (toD (zC 6)) zK))) (zC 3) (zC 7))) AV) [some (mD zA),some (.ref a),some (.ref b),some (.ref c),some (tI S),some (tI w),some (.int g),y7] M)
   λo Y M'=>o=.nx/\(∃ y7,Y=[some (mD zA),some (.ref a),some (.ref b),some (.ref c),some (tI S),some (tI w),some (.int g),y7])/\Nl M0 M' a b c lev (BC zA S w p g).1 (BC zA S w p g).2:=by
 calc CT (zV (zM rfl (zM rfl (zW rfl))) (LY m () s g0 g1)) ?_;rw[BJ];calc zL (zi (zE rfl rfl (C7 nl.eb))) ?_;rw[JX .non,Rr];erw[BC];by_cases hm:setR zA S g∈p.1
 .rw[AD hm,AE (by simp[hm]),BU];exact ⟨rfl,⟨_,rfl⟩,nl⟩
 .rw[AE hm,AD (by simp[hm]),zN];let hl:=Hw gr.nd gr.st h9;let hk:p.2.length<=p.1.length:=by rw[gr.eq,AW,AI];omega
  let hm2:setR zA S g∉p.2.map (·.1):=λz=>hm (by rw[gr.eq];calc Ax _ z);calc Gf rfl rfl rfl (Cn nl.eb (by erw[sE];rw[AI];omega)) ?_;rw[zT,fN hm];let hbl:b<M.length:=by rw[nl.len];omega
  let hcl:c<M.length:=by rw[nl.len];omega
  let ec':(M.set b (dT (sE (p.1++[setR zA S g]))))[c]?=some (dT (wE p.2)):=by rw[A6 hbc];exact nl.ec
  let tp:∀ {Y:Sd} {M:Mem},Y[6]?=some (some (.int g))->Bk (zD (toD (zC 6)) zK) Y M=some (.dat (.tup [.int g]),M):=λ{Y M} e=>by
   let e1:zC 6 Y M=some (.dat (.int g),M):=by erw[zC];rw[e]
   erw[Bk];rw[zW e1];dsimp only;rw[AD (zd (by simp))]
  calc Gf (zE rfl (tp rfl) (Wr hw)) rfl rfl (Cn ec' (by erw[wE];rw[AI];omega)) ?_;rw[bX hm2];refine ⟨rfl,⟨_,rfl⟩,by simp[nl.len],?_,?_,?_,λj hj h1 h2=>?_⟩
  .rw[A6 (Ne.symm hac),A6 (Ne.symm hab)];exact nl.ea
  .rw[A6 (Ne.symm hbc),CO hbl]
  .rw[CO (~~~hcl)]
  .rw[A6 (),A6 (Ne.symm h2)];calc nl.fr j hj h1 h2
def WH (h:∀ s∈p.2,s.2.length<=n) (hw:w.length+1<=n):∀ s∈(BC zA S w p g).2,s.2.length<=n:=by
 erw[BC];split
 .exact h
 .intro s hs;rcases AO.mp hs with z|z
  .exact h s z
  .have:s=(setR zA S g,w++[g]):=by simpa using z
   rw[this];simpa using hw
theorem Sb (hw:w.length+1<=n):∀ (gs:Ye) {p:List (List Int) × Lvl},(∀ s∈p.2,s.2.length<=n) -> ∀ s∈(gs.foldl (BC zA S w) p).2,s.2.length<=n
 |[],_,h=>h
 |g::r,p,h=>Sb hw r (WH h hw)
theorem Qk:∀ {level:Lvl} {p:List (List Int) × Lvl},(∀ s∈level,s.2.length+1<=n)->(∀ s∈p.2,s.2.length<=n) -> ∀ s∈(level.foldl (C5 zA l) p).2,s.2.length<=n
 |[],_,_,h=>h
 |s::r,p,hs,h=>Qk (level:=r) (λx hx=>hs x (Aq _ hx)) (Sb (hs s AZ) _ h)
abbrev lE (lv:Lvl):List (D × D):=BR (wE lv)
def lZ {zA:Ya} {l:Nat} (m:IsM zA l) (h9:zA.length<=9) (hl9:l<=1000) {M0:Mem} {a b:Nat} (hab:a≠b) {level:Lvl} {seen:Ya} (mt:Met zA seen level) (ea:M0[a]?=some (.dicT (lE level))\/M0[a]?=some (.froT (lE level))) (eb:M0[b]?=some (dT (sE seen))) (hw:∀ s∈level,s.2.length<=5000) :
  Ok (HJ [mD zA,.ref a,.ref b] M0) λd M'=>d=.ref M0.length/\Nl M0 M' a b M0.length (.froT (lE level)) (C6 zA l seen level).1 (C6 zA l seen level).2:=by
 let ha:a<M0.length:=by rcases ea with e|e <;> exact (AK.mp e).1
 let hb:b<M0.length:=(AK.mp eb).1;erw[HJ];rw[Az];erw[Lw];rw[zN,zu];refine zL (M:=M0++[.dicT []]) rfl ?_;rw[zY,zT];obtain ⟨M1,ei,nl1⟩:∃ M1,E2 (zC 1) [some (mD zA),some (.ref a),some (.ref b),some (.ref M0.length),none,none,none,none] (M0++[.dicT []])=some ((lE level).map λp=>D.tup [p.1,p.2],none,M1)/\Nl M0 M1 a b M0.length (.froT (lE level)) seen []:=by
  let ga:(M0++[.dicT []])[a]?=M0[a]?:=AY ha;let gb:(M0++[.dicT []])[b]?=some (dT (sE seen)):=by rw[AY hb];exact eb
  let gc:(M0++[.dicT []])[M0.length]?=some (dT (wE [])):=by simp;rfl
  erw[E2,zC];dsimp only[List.getElem?_cons_succ,List.getElem?_cons_zero];rw[ga];rcases ea with e|e
  .rw[e];refine ⟨_,rfl,by simp,CO (by simp;omega),?_,?_,λj hj h1 h2=>?_⟩
   .rw[A6 hab];exact gb
   .rw[A6 ()];exact gc
   .rw[A6 (Ne.symm h1),AY hj]
  .rw[e];exact ⟨_,rfl,by simp,ga.trans e,gb,gc,λj hj h1 h2=>AY hj⟩
 rw[zN,CK];calc ⟨_,_,_,ei,?_⟩;refine DP (I:=λr Y M'=>(∃ y4 y5 y6 y7,Y=[some (mD zA),some (.ref a),some (.ref b),some (.ref M0.length),y4,y5,y6,y7]) /\ ∃ (done rest:Lvl),r=(lE rest).map (λp=>D.tup [p.1,p.2])/\done++rest=level/\Nl M0 M' a b M0.length (.froT (lE level)) (done.foldl (C5 zA l) (seen,[])).1 (done.foldl (C5 zA l) (seen,[])).2) ?_ ?_ _ _ _ ⟨⟨_,_,_,_,rfl⟩,[],level,rfl,rfl,nl1⟩
 .rintro x r Y M' ⟨⟨y4,y5,y6,y7,rfl⟩,done,rest,er,hd,nl⟩;cases rest with
  |nil=>ext er
  |cons sw rest=>
   let⟨rfl,rfl⟩:=Cb er;let hs:sw∈level:=by rw[<-hd];simp
   let sS:=mt.lv sw hs;let gr0:Gr zA seen (done.foldl (C5 zA l) (seen,[])):=Kw m (λs z=>mt.lv s (by rw[<-hd];simp[z])) ⟨mt.nd,mt.st,by simp⟩;generalize hp:done.foldl (C5 zA l) (seen,[])=p0 at nl gr0;refine ⟨zq,_,rfl,?_⟩;rw[CK];let el:fB zj (zG (fOp kIx (zC 0) (fC (.int 0))) zO) [some (mD zA),some (.ref a),some (.ref b),some (.ref M0.length),some (tI sw.1),some (tI sw.2),y6,y7] M'=some (.dat (.int l),M'):=by
    let hr:=m.get (h:=0) () (by have:=m.r0;omega);have:=BP (f:=fOp kIx (zC 0) (fC (.int 0))) (Y:=[some (mD zA),some (.ref a),some (.ref b),some (.ref M0.length),some (tI sw.1),some (tI sw.2),y6,y7]) (M:=M') (zE (x:=.dat (mD zA)) rfl rfl (A8 zQ (Nj () (by have:=m.r0;omega)))) zQ;rw[this,AI,hr.1]
   calc ⟨_,_,_,DI el () (),?_⟩;rw[Bt];refine F9 (n:=l) (I:=λi Y M2=>(∃ y6 y7,Y=[some (mD zA),some (.ref a),some (.ref b),some (.ref M0.length),some (tI sw.1),some (tI sw.2),y6,y7])/\Gr zA seen ((A7 i).foldl (BC zA sw.1 sw.2) p0)/\Nl M0 M2 a b M0.length (.froT (lE level)) ((A7 i).foldl (BC zA sw.1 sw.2) p0).1 ((A7 i).foldl (BC zA sw.1 sw.2) p0).2) ?_ ?_ _ _ ⟨⟨_,_,rfl⟩,gr0,nl⟩
   .rintro i Y M2 hi ⟨⟨y6,y7,rfl⟩,gr,nl2⟩;refine ⟨_,rfl,?_⟩;refine OkS.mono (dP m h9 () () hab rfl hb gr nl2 sS (hw sw hs) (g:=(i:Nat)) () ()) ?_;rintro o Y M3 ⟨rfl,⟨y7,rfl⟩,nl3⟩;let e:(A7 (i+1)).foldl (BC zA sw.1 sw.2) p0=BC zA sw.1 sw.2 ((A7 i).foldl (BC zA sw.1 sw.2) p0) (i:Nat):=by
     erw[A7];rw[List.range_succ,Cg,List.foldl_append];rfl
    rw[e];exact ⟨⟨_,_,rfl⟩,Qy m gr sS () (),nl3⟩
   .rintro Y M2 ⟨⟨y6,y7,rfl⟩,gr,nl2⟩;calc ⟨⟨_,_,_,_,rfl⟩,done++[sw],rest,rfl,by rw[<-hd];simp,?_⟩;rw[List.foldl_append,hp];exact nl2
 .rintro Y M' ⟨⟨y4,y5,y6,y7,rfl⟩,done,rest,er,hd,nl⟩;have:rest=[]:=by cases rest with|nil=>rfl|cons _ _=>ext er
  subst this;rw[CU]at hd;subst hd;calc ⟨zq,?_⟩;rw[zT];calc zc rfl ⟨rfl,nl⟩
def NH:FS:=(zS (BN (BG (zD (toD (fB zj (zG (fOp kIx (zC 0) (fC (.int 0))) zO))) zK)) (gN 2) (zS (AN 3 (BK zK))
  (zS (BN (BG (zD (toD (fB zj (zG (zC 0) zO))) zK)) (gN 4) (DK (fM HQ (zC 3) (zD (toD (fOp Cd (fOp kIx (fOp kIx (zC 0) (zC 4)) (zC 2)) (fOp Bz (zC 4) (fC (.int 1))))) (zD (toD (zC 4)) zK)))))
  (BN (BG (zD (toD (fB zj (zG (zC 0) zO))) zK)) (gN 4) (FJ (fOp kIx (zC 3) (zC 4)) (fOp kIx (zC 0) (zC 4)) (zC 2))))))
  (sIf (tst (zC 1)) (zS (AN 5 (fOp DJ (fB zj (zG (fOp kIx (zC 0) (fC (.int 0))) zO)) (fC (.int 1))))
  (FJ (fOp kIx (fOp kIx (zC 0) (fOp DJ (fB zj (zG (zC 0) zO)) (fC (.int 1)))) (zC 5)) (fOp kIx (zC 0) (fC (.int 0))) (zC 5))) AV))
def IT:FF:=AS 6 NH
def NV:FS:=(zS (AN 4 (fB zj (zG (zC 0) zO)))
  (zS (AN 5 (fOp kIx (fOp kIx (zC 0) (fC (.int 0))) (fC (.int 0))))
  (zS (sIf (Bw (tst (fOp kEq (zC 3) (fC (.int 4)))) (tst (fOp kLt (zC 1) (zC 5)))) (zg (fOp Cd (fOp kIx (fOp kIx (zC 0) (zC 1)) (zC 2)) (zC 5))) AV)
  (zS (sIf (tst (fOp kEq (zC 3) (fC (.int 4)))) (zg (fOp Bz (zC 5) (fOp Cd (fOp kIx (fOp kIx (zC 0) (zC 1)) (zC 2)) (fOp DJ (zC 4) (zC 5))))) AV)
  (zS (sIf (Bw (tst (fOp kEq (zC 3) (fC (.int 5)))) (tst (fOp kEq (zC 2) (fC (.int 0))))) (zg (fOp Cd (fOp Bz (zC 1) (fC (.int 1))) (zC 4))) AV)
  (zS (sIf (tst (fOp kEq (zC 3) (fC (.int 5)))) (zg (fOp kIx (BK (zD (toD (zC 1)) (zD (toD (fC (.int 0))) zK))) (fB CA (zG (B3 (fOp kEq (zC 2) (fC (.int 1))) (fOp kEq (zC 1) (fOp DJ (zC 4) (fC (.int 1))))) zO)))) AV)
  (zS (sIf (tst (fOp kEq (zC 3) (fC (.int 6)))) (zg (fOp kIx (fOp kIx (zC 0) (fC (.int 0))) (zC 2))) AV)
  (zg (fOp kIx (fOp kIx (zC 0) (zC 1)) (fC (.int 0)))))))))))
def F8:FF:=AS 6 NV
def Ju:FS:=(zS (AN 3 (fOp Bz (fC (.int 1)) (zR zb (zD (toD (zC 0)) (zD (toD (zC 1)) zK)))))
  (zS (AN 4 (fOp Bz (fC (.int 1)) (zR zb (zD (toD (zC 0)) (zD (toD (zC 2)) zK)))))
  (zS (AN 5 (zR zb (zD (toD (zC 0)) (zD (toD (fC (.int 8))) zK))))
  (zS (AN 6 (BK zK))
  (zS (BN (BG (zD (toD (zC 3)) zK)) (gN 7) (DK (fM Dn (zC 6) (zD (toD (Ae [8] (BG (zD (toD (zC 4)) zK)) (gN 8) zo (zR zb (zD (toD (zC 0)) (zD (toD (zC 3)) zK))))) zK))))
  (zS (sIf (tst (fOp kEq (zC 5) (fC (.int 3)))) (DK (zR IT (zD (toD (zC 6)) (zD (toD (fOp kEq (zR zb (zD (toD (zC 0)) (zD (toD (fC (.int 2))) zK))) (fC (.int 1)))) zK)))) AV)
  (zS (sIf (tst (fOp kGt (zC 5) (fC (.int 3)))) (AN 6 (Ae [7] (BG (zD (toD (zC 3)) zK)) (gN 7) zo (Ae [8] (BG (zD (toD (zC 4)) zK)) (gN 8) zo (zR F8 (zD (toD (zC 6)) (zD (toD (zC 7)) (zD (toD (zC 8)) (zD (toD (zC 5)) zK)))))))) AV)
  (zg (fB zt (zG (Ae [9] (Am (zC 6)) (gN 9) zo (fB zt (zG (zC 9) zO))) zO))))))))))
def IY:FF:=EE (AS 10 Ju)
def Du (h:P (.ref M.length) (M++[.lst xs])):D0 P (.fl xs) M:=h
def FR (A:Mem) (u:MO):(A++[u])[A.length]?=some u:=by simp
def YB (h:M[n]?=some (.lst xs)) (h0:0<=i) (h1:i.toNat<=xs.length) (hz:xs.length<90000):HQ (.dat (.ref n)) [.int i,d] M=some (.non,M.set n (.lst (xs.take i.toNat++[d]++xs.drop i.toNat))):=by
 erw[HQ];dsimp only;rw[h];dsimp only;rw[AD ⟨h0,h1,A0 hz (zd ())⟩]
def ZA {M M1:Mem} (h:f Y M=some (.fl xs,M1)):toD f Y M=some (.ref M1.length,M1++[.lst xs]):=by erw[toD];rw[h]
def fB1 (hf:f Y M=some (x,M)):fB k (zG f zO) Y M=k [x] M:=by erw[fB,zG,zO];rw[hf]
def fF {ns:Ye} (h:ns.length<=63):Ok (Ir [.ref 0] [.fro (ns.map D.int)]) λd M'=>d=.ref 1/\Gen M' 1 2 0/\M'[0]?=some (.fro (ns.map D.int)):=by
 erw[Ir];rw[Az];erw[Ly];let e0:([.fro (ns.map D.int),.dict []]:Mem)[0]?=some (.fro (ns.map D.int)):=rfl;let l1:fB FH (zG (zC 0) zO) [some (.ref 0)] [.fro (ns.map D.int),.dict []]=some (.fl (ns.map D.int),[.fro (ns.map D.int),.dict []]):=by
  rw[fB1 rfl];erw[FH];dsimp only;rw[Nt e0]
 let l2:fB zj (zG (zC 0) zO) [some (.ref 0)] [.fro (ns.map D.int),.dict []]=some (.dat (.int (ns.map D.int).length),[.fro (ns.map D.int),.dict []]):=BP rfl (Nt e0);obtain ⟨zs,ez,hz⟩:∃ zs:List Int,fOp Eh (BK (zD (toD (fC (.int 0))) zK)) (fB CA (zG (fOp kEq (fB zj (zG (zC 0) zO)) (fC (.int 0))) zO)) [some (.ref 0)] [.fro (ns.map D.int),.dict []]=some (.fl (zs.map D.int),[.fro (ns.map D.int),.dict []])/\0<(ns++zs).length/\(ns++zs).length<=63:=by
  let l3:fB CA (zG (fOp kEq (fB zj (zG (zC 0) zO)) (fC (.int 0))) zO) [some (.ref 0)] [.fro (ns.map D.int),.dict []]=some (.dat (.int (if decide (((ns.map D.int).length:Int)=0) then 1 else 0)),[.fro (ns.map D.int),.dict []]):=by
   let l4:fOp kEq (fB zj (zG (zC 0) zO)) (fC (.int 0)) [some (.ref 0)] [.fro (ns.map D.int),.dict []]=some (.dat (.bl (decide (((ns.map D.int).length:Int)=0))),[.fro (ns.map D.int),.dict []]):=zE l2 rfl (zH (CM.mpr ⟨rfl,rfl⟩));rw[fB1 l4];rfl
  let l5:BK (zD (toD (fC (.int 0))) zK) [some (.ref 0)] [.fro (ns.map D.int),.dict []]=some (.fl [.int 0],[.fro (ns.map D.int),.dict []]):=by
   erw[BK];rw[zW rfl];dsimp only;rw[AD (zd (by simp))]
  cases ns with
  |nil=>calc ⟨[0],zE l5 l3 (by erw[Eh];dsimp only[CP,FP];rw[AD ⟨(),(),zd ()⟩];rfl),by simp,by simp⟩
  |cons x r=>
   calc ⟨[],zE l5 l3 ?_,by simp,by simpa using h⟩;have:decide (((List.map D.int (x::r)).length:Int)=0)=false:=by simp;omega
   rw[this];erw[Eh];dsimp only[CP,FP];rw[AD ⟨(),(),zd ()⟩];rfl
 show OkS (zg _ [some (.ref 0)] [.fro (ns.map D.int)]) _;rw[OL];let ec:toD (fOp Fs (fB FH (zG (zC 0) zO)) (fOp Eh (BK (zD (toD (fC (.int 0))) zK)) (fB CA (zG (fOp kEq (fB zj (zG (zC 0) zO)) (fC (.int 0))) zO)))) [some (.ref 0)] ([.fro (ns.map D.int)]++[.dict []])=some (.ref 2,[.fro (ns.map D.int),.dict [],.lst ((ns++zs).map D.int)]):=by
  have:fOp Fs (fB FH (zG (zC 0) zO)) (fOp Eh (BK (zD (toD (fC (.int 0))) zK)) (fB CA (zG (fOp kEq (fB zj (zG (zC 0) zO)) (fC (.int 0))) zO))) [some (.ref 0)] [.fro (ns.map D.int),.dict []]=some (.fl ((ns++zs).map D.int),[.fro (ns.map D.int),.dict []]):=by
   calc zE l1 ez ?_;erw[Fs];dsimp only[FP];rw[AD (zd (by have:=hz.2;simp at this ⊢;omega)),Cg]
  exact ZA this
 refine zL (M:=[.fro (ns.map D.int),gS 2 0 0,.lst ((ns++zs).map D.int)]) (a:=.dat (.ref 1)) ?_ ?_
 .unfold KN;rw[ec];rfl
 .rw[zY];calc ⟨rfl,⟨⟨ns++zs,0,0,rfl,rfl,hz.1,hz.2,(),()⟩,(),?_⟩,rfl⟩;intro j u e;match j,e with
  |0,e=>ext e;calc CS _ _
  |1,e=>ext e;rfl
  |2,e=>ext e;calc CS _ _
  |j+3,e=>simp at e
structure Rw (M:Mem) (j:Nat) (rs:Yj) (zA:Ya) (n l:Nat):Prop where
 at_:M[j]?=some (.lst (rs.map D.ref))
 len:rs.length=zA.length
 row:∀ (i r:Nat),rs[i]?=some r -> ∃ w,zA[i]?=some w/\M[r]?=some (.lst (w.map D.int))
 nd:rs.Nodup
 hj:j∉rs
 ok:∀ w∈zA,w.length=l /\ ∀ x∈w,0<=x/\x<(n:Int)
section
variable {M M':Mem} {j n l:Nat} {rs:Yj} {zA:Ya}
def Rw.keep (h:Rw M j rs zA n l) (k:∀ i,i<M.length->M'[i]?=M[i]?):Rw M' j rs zA n l:=by
 let kp:∀ {i:Nat} {u:MO},M[i]?=some u->M'[i]?=some u:=λ{i u} e=>(k i (AK.mp e).1).trans e;calc ⟨kp h.at_,h.len,λi r e=>let ⟨w,e1,e2⟩:=h.row i r e;⟨w,e1,kp e2⟩,h.nd,h.hj,h.ok⟩
def Rw.ix (h:Rw M j rs zA n l) {Y:Sd} {f1 f2 f3:FE} {i g:Int} (h1:f1 Y M=some (.dat (.ref j),M)) (h2:f2 Y M=some (.dat (.int i),M)) (h3:f3 Y M=some (.dat (.int g),M)) (i0:0<=i) (i1:i<zA.length) (g0:0<=g) (g1:g<l) :
  fOp kIx (fOp kIx f1 f2) f3 Y M=some (.dat (.int (BE zA i g)),M)/\0<=BE zA i g/\BE zA i g<n:=by
 let hi:i.toNat<rs.length:=by rw[h.len];omega
 let⟨w,e1,e2⟩:=h.row i.toNat rs[i.toNat] (AL hi);let⟨hl,hx⟩:=h.ok w (BD e1);let es:BE zA i g=w[g.toNat]'():=by
  erw[BE];rw[DU (l:=zA),e1,Option.getD_some,DU,AL ()];rfl
 calc ⟨zE (zE h1 h2 (A8 (BW h.at_) (Ii i0 (by rw[Ac,AL hi];rfl)))) h3 (A8 (BW e2) (Ii g0 (by rw[Ac,AL (),es];rfl))),?_⟩;rw[es];calc hx _ (BF _)
def Rw.len0 (h:Rw M j rs zA n l) (h1:f1 Y M=some (.dat (.ref j),M)):fB zj (zG f1 zO) Y M=some (.dat (.int zA.length),M):=by
 rw[BP h1 (BW h.at_),AI,h.len]
def Rw.row0 (h:Rw M j rs zA n l) (hr:0<zA.length) (h1:f1 Y M=some (.dat (.ref j),M)):fB zj (zG (fOp kIx f1 (fC (.int 0))) zO) Y M=some (.dat (.int l),M):=by
 let hi:0<rs.length:=by rw[h.len];omega
 let⟨w,e1,e2⟩:=h.row 0 rs[0] (AL hi);let⟨hl,hx⟩:=h.ok w (BD e1);let e3:=BP (zE (g:=fC (.int 0)) h1 rfl (A8 (BW h.at_) (Ii () (by rw[Ac];show Option.map _ rs[0]?=_;rw[AL hi];rfl)))) (BW e2);rw[e3,AI,hl]
def Rw.put (h:Rw M j rs zA n l) {i g r:Nat} {x:Int} (hr:rs[i]?=some r) (x0:0<=x) (x1:x<n):∃ w,zA[i]?=some w/\M[r]?=some (.lst (w.map D.int))/\Rw (M.set r (.lst ((w.set g x).map D.int))) j rs (zA.set i (w.set g x)) n l:=by
 let⟨w,e1,e2⟩:=h.row i r hr;let hrl:=(AK.mp e2).1;let hil:=(AK.mp e1).1;let hrj:j≠r:=λz=>h.hj (by rw[z];calc BD hr);refine ⟨w,e1,e2,by rw[A6 (Ne.symm hrj)];calc h.at_,by rw[Cf];exact h.len,λi' r' e=>?_,h.nd,h.hj,λw' hw'=>?_⟩
 .by_cases hi:i'=i
  .subst hi;rw[hr]at e;ext e;exact ⟨w.set g x,CO hil,CO hrl⟩
  .obtain ⟨w2,e3,e4⟩:=h.row i' r' e;have:r'≠r:=λz=>hi (by subst z;calc (List.getElem?_inj (AK.mp e).1 h.nd).mp (e.trans hr.symm));exact ⟨w2,by rw[A6 (Ne.symm hi)];calc e3,by rw[A6 (Ne.symm this)];calc e4⟩
 .obtain ⟨hl,hx⟩:=h.ok w (BD e1);rcases List.mem_or_eq_of_mem_set hw' with q|q
  .exact h.ok w' q
  .subst q;refine ⟨by rw[Cf];exact hl,λy hy=>?_⟩;rcases List.mem_or_eq_of_mem_set hy with q|q
   .exact hx y q
   .subst q;calc ⟨x0,x1⟩
end
open Lac (dT BR zf BO C7 Cn)
def JS (gL:List D->FF) (lL:Lm):FS:=(zS (AN 3 (Ge (zC 1) (fC (.bl true))))
  (zS (AN 4 (Ge (zC 1) (Bk zK)))
  (zS (AN 5 (BK zK))
  (zS (C4 (Hi (zC 4)) (zS (BN (E2 (zC 4)) (DO 6 7) (sIf (tst (En 2 lL gL (zD (toD (zC 6)) zK))) (zg (Bk (zD (toD (fC (.str "word"))) (zD (toD (zC 7)) (zD (toD (fB zt (zG (zC 5) zO))) zK))))) AV))
  (zS (DK (fM Dn (zC 5) (zD (toD (fB zt (zG (fB Er (zG (zC 4) zO)) zO))) zK)))
  (AN 4 (zR HJ (zD (toD (zC 0)) (zD (toD (zC 4)) (zD (toD (zC 3)) zK))))))) 1000)
  (zg (Bk (zD (toD (fC (.str "none"))) (zD (toD (fB zt (zG (zC 5) zO))) zK))))))))
def FU (gL:List D->FF) (lL:Lm):FF:=Ct (AS 8 (JS gL lL))
theorem OT:∀ ts:List (List Int),G8 (ts.map tI)=some ts
 |[]=>rfl
 |t::r=>by
  rw[Af];erw[G8];rw[OT r];show (match BS (t.map D.int),some r with|some x,some xs=>some (x::xs)|_,_=>none)=_;rw[Fq]
def lvD (L:Ya):D:=.tup ((Av L).map tI)
def shD (acc:List (List (List Int))):D:=.tup (acc.map lvD)
def eM (lv:Lvl):(lE lv).map (·.1)=(lv.map (·.1)).map tI:=by
 erw[lE,BR,wE];rw[BH,BH,BH];rfl
def UW {lv:Lvl} (h:∀ p∈lv,IsS zA p.1):HU (lv.map (·.1))=true:=by
 erw[HU];rw[Aj];intro t ht;let⟨p,hp,rfl⟩:=Ak.mp ht;have:=(h p hp).n0;cases e:p.1 with
 |nil=>rw[e]at this;ext this
 |cons x r=>rfl
def bE {lv:Lvl} (h:∀ p∈lv,IsS zA p.1) (hf:f Y M=some (x,M)) (hx:GL M x=some (lE lv)):fB zt (zG (fB Er (zG f zO)) zO) Y M=some (.dat (lvD (lv.map (·.1))),M):=by
 refine EA (x:=.fl ((Av (lv.map (·.1))).map λt=>D.tup (t.map D.int))) ?_ F5;let e1:fB Er (zG f zO) Y M=Er [x] M:=by erw[fB,zG,zO];rw[hf]
 rw[e1];erw[Er];dsimp only;rw[hx];dsimp only;rw[eM,OT];dsimp only;rw[AD (UW h)]
def LC (hs:Y[i]?=some (some (.fn l cs))) (hf:f Y M=some (.dat a,M)) (hg:g cs [a] M=some (d,M)):En i l g (zD (toD f) zK) Y M=some (.dat d,M):=by
 erw[En];rw[hs];dsimp only;rw[AD rfl,zW hf];dsimp only;rw[hg]
def Wh (zA:Ya) (R:Ye) (lL:Lm) (cs:List D) (s h:Nat) (r:Option (List Int) × List (List (List Int))) (o:Out) (Y:Sd) (M':Mem):Prop:=match r.1 with
 |some w=>o=.ret (.tup [.str "word", tI w,shD r.2])
 |none=>o=.nx/\(∃ v y6 y7,Y=[some (mD zA),some (tI R),some (.fn lL cs),some (.ref s),some (.ref v),some (.ref h),y6,y7])/\M'[h]?=some (.lst (r.2.map lvD))
abbrev srC:FT:=Hi (zC 4)
abbrev srB (gL:List D->FF) (lL:Lm):FS:=(zS (BN (E2 (zC 4)) (DO 6 7) (sIf (tst (En 2 lL gL (zD (toD (zC 6)) zK))) (zg (Bk (zD (toD (fC (.str "word"))) (zD (toD (zC 7)) (zD (toD (fB zt (zG (zC 5) zO))) zK))))) AV))
  (zS (DK (fM Dn (zC 5) (zD (toD (fB zt (zG (fB Er (zG (zC 4) zO)) zO))) zK)))
  (AN 4 (zR HJ (zD (toD (zC 0)) (zD (toD (zC 4)) (zD (toD (zC 3)) zK)))))))
section
variable {zA:Ya} {l:Nat} {R:Ye} {gL:List D->FF} {lL:Lm} {cs:List D} {due:List Int->Bool}
def Zh (m:IsM zA l) (h9:zA.length<=9) (hl9:l<=1000) (hG:∀ S M',IsS zA S->gL cs [tI S] M'=some (.bl (due S),M')) {seen:Ya} {level:Lvl} {acc:List (List (List Int))} (mt:Met zA seen level) (hw:∀ s∈level,s.2.length<=4000) (hacc:acc.length<=4000)
  {M:Mem} {s v h:Nat} (hsv:s≠v) (hhv:h≠v) (hsh:s≠h) (es:M[s]?=some (dT (sE seen))) (ev:M[v]?=some (.dicT (lE level))) (eh:M[h]?=some (.lst (acc.map lvD))) {y6 y7:Option D} :
  OkS (srB gL lL [some (mD zA),some (tI R),some (.fn lL cs),some (.ref s),some (.ref v),some (.ref h),y6,y7] M) λo Y M'=>match level.find? (λp=>due p.1) with
   |some p=>o=.ret (.tup [.str "word", tI p.2,shD acc])
   |none=>o=.nx/\(∃ v' y6 y7,Y=[some (mD zA),some (tI R),some (.fn lL cs),some (.ref s),some (.ref v'),some (.ref h),y6,y7]/\s≠v'/\h≠v'/\M'[v']?=some (.dicT (lE (C6 zA l seen level).2)))/\M'[s]?=some (dT (sE (C6 zA l seen level).1))/\M'[h]?=some (.lst ((acc++[level.map (·.1)]).map lvD)):=by
 let hvl:v<M.length:=(AK.mp ev).1;let hhl:h<M.length:=(AK.mp eh).1;rw[zN,CK];let ei:E2 (zC 4) [some (mD zA),some (tI R),some (.fn lL cs),some (.ref s),some (.ref v),some (.ref h),y6,y7] M=some ((lE level).map (λp=>D.tup [p.1,p.2]),none,M.set v (.froT (lE level))):=by
  erw[E2,zC];dsimp only[List.getElem?_cons_succ,List.getElem?_cons_zero];rw[ev]
 calc ⟨_,_,_,ei,?_⟩;let es1:(M.set v (.froT (lE level)))[s]?=some (dT (sE seen)):=by rw[A6 (Ne.symm hsv)];exact es
 let ev1:(M.set v (.froT (lE level)))[v]?=some (.froT (lE level)):=CO hvl;let eh1:(M.set v (.froT (lE level)))[h]?=some (.lst (acc.map lvD)):=by rw[A6 (Ne.symm hhv)];exact eh
 let ln1:(M.set v (.froT (lE level))).length=M.length:=by simp
 generalize M.set v (.froT (lE level))=M1 at es1 ev1 eh1 ln1;refine DP (I:=λr Y M'=>M'=M1/\(∃ y6 y7,Y=[some (mD zA),some (tI R),some (.fn lL cs),some (.ref s),some (.ref v),some (.ref h),y6,y7]) /\ ∃ (done rest:Lvl),r=(lE rest).map (λp=>D.tup [p.1,p.2])/\done++rest=level /\ ∀ p∈done,due p.1=false) ?_ ?_ _ _ _ ⟨rfl,⟨_,_,rfl⟩,[],level,rfl,rfl,λ_ h=>by ext h⟩
 .rintro x r Y M' ⟨rfl,⟨y6,y7,rfl⟩,done,rest,er,hd,nd⟩;cases rest with
  |nil=>ext er
  |cons sw rest=>
   let⟨rfl,rfl⟩:=Cb er;let hs:sw∈level:=by rw[<-hd];simp
   calc ⟨zq,_,rfl,?_⟩;rw[BJ];calc zL (zi (LC rfl rfl (hG _ _ (mt.lv sw hs)))) ?_;cases hdue:due sw.1 with
   |true=>
    rw[AD rfl];let e5:fB zt (zG (zC 5) zO) [some (mD zA),some (tI R),some (.fn lL cs),some (.ref s),some (.ref v),some (.ref h),some (tI sw.1),some (tI sw.2)] M'=some (.dat (shD acc),M'):=EA rfl (BW eh1);let e6:Bk (zD (toD (fC (.str "word"))) (zD (toD (zC 7)) (zD (toD (fB zt (zG (zC 5) zO))) zK))) [some (mD zA),some (tI R),some (.fn lL cs),some (.ref s),some (.ref v),some (.ref h),some (tI sw.1),some (tI sw.2)] M'=some (.dat (.tup [.str "word", tI sw.2,shD acc]),M'):=by
     erw[Bk];rw[zM rfl (zM rfl (zW e5))];dsimp only;rw[AD (zd (by simp))]
    refine zc e6 ?_;show nxP _ _ (.ret _) _ _;rw[EJ];let hf:level.find? (λp=>due p.1)=some sw:=by
     rw[<-hd,List.find?_append,List.find?_eq_none.mpr (λp hp=>by rw[nd p hp];simp)];simp[hdue]
    rw[hf]
   |false=>
    rw[AE Ab,BU];refine ⟨rfl,⟨_,_,rfl⟩,done++[sw],rest,rfl,by rw[<-hd];simp,λp hp=>?_⟩;rcases AO.mp hp with z|z
    .exact nd p z
    .have:p=sw:=by simpa using z
     rw[this];exact hdue
 .rintro Y M' ⟨rfl,⟨y6,y7,rfl⟩,done,rest,er,hd,nd⟩;have:rest=[]:=by cases rest with|nil=>rfl|cons _ _=>ext er
  subst this;rw[CU]at hd;subst hd;calc ⟨zq,?_⟩;let hf:done.find? (λp=>due p.1)=none:=List.find?_eq_none.mpr λp hp=>by rw[nd p hp];simp
  rw[hf,zT,zN,HD];calc Hh.mpr (DQ.mpr ⟨_,rfl,⟨_,GY eh1⟩,?_⟩);calc zL (zW (bE mt.lv rfl (by erw[GL];dsimp only;rw[ev1]))) ?_;rw[Je eh1 (by rw[AI];calc A0 (m:=4001) () (zd ())),zT];let es2:(M'.set h (.lst (acc.map lvD++[lvD (done.map (·.1))])))[s]?=some (dT (sE seen)):=by rw[A6 (Ne.symm hsh)];exact es1
  let ev2:(M'.set h (.lst (acc.map lvD++[lvD (done.map (·.1))])))[v]?=some (.froT (lE done)):=by rw[A6 hhv];exact ev1
  let eh2:(M'.set h (.lst (acc.map lvD++[lvD (done.map (·.1))])))[h]?=some (.lst ((acc++[done.map (·.1)]).map lvD)):=by rw[CO (),Cg];rfl
  generalize M'.set h (.lst (acc.map lvD++[lvD (done.map (·.1))]))=M2 at es2 ev2 eh2;let hh2:h<M2.length:=(AK.mp eh2).1;let hs2:s<M2.length:=(AK.mp es2).1;rw[zu];calc Fu.mpr (zL (zM rfl (zM rfl (zW rfl))) ?_);refine Ok.mono (lZ m h9 hl9 (Ne.symm hsv) mt (.inr ev2) es2 λp hp=>Ar (hw p hp) ()) ?_;rintro d M3 ⟨rfl,nl⟩;rw[zY];calc ⟨rfl,⟨M2.length,_,_,rfl,(),(),nl.ec⟩,nl.eb,by rw[nl.fr h hh2 hhv (Ne.symm hsh)];calc eh2⟩
theorem PK (m:IsM zA l) (h9:zA.length<=9) (hl9:l<=1000) (hG:∀ S M',IsS zA S->gL cs [tI S] M'=some (.bl (due S),M')):∀ (n:Nat) {seen:Ya} {level:Lvl} {acc:List (List (List Int))} {r:Option (List Int) × List (List (List Int))} {k:Nat},Met zA seen level->(∀ p∈level,p.2.length<=k)->acc.length<=k->k+n<=4000->run zA l due n seen level acc=some r ->
  ∀ (M:Mem) (s v h:Nat) (y6 y7:Option D),s≠v->h≠v->s≠h->M[s]?=some (dT (sE seen))->M[v]?=some (.dicT (lE level))->M[h]?=some (.lst (acc.map lvD)) ->
  OkS (C4 srC (srB gL lL) n [some (mD zA),some (tI R),some (.fn lL cs),some (.ref s),some (.ref v),some (.ref h),y6,y7] M) (Wh zA R lL cs s h r)
 |0,_,_,_,_,_,_,_,_,_,hr=>by ext hr
 |n+1,seen,level,acc,r,k,mt,hw,hacc,hk,hr=>by
  intro M s v h y6 y7 hsv hhv hsh es ev eh;let ec:srC [some (mD zA),some (tI R),some (.fn lL cs),some (.ref s),some (.ref v),some (.ref h),y6,y7] M=some (!(lE level).isEmpty,M):=by
   erw[srC,Hi,zC,GL];dsimp only[List.getElem?_cons_succ,List.getElem?_cons_zero];rw[ev]
  let hem:(lE level).isEmpty=level.isEmpty:=by cases level <;> rfl
  erw[run]at hr;erw[C4];rw[ec,hem];cases hl:level.isEmpty with
  |true=>
   rw[hl,AD rfl]at hr;ext hr;calc ⟨_,_,_,rfl,rfl,⟨_,_,_,rfl⟩,eh⟩
  |false=>
   rw[hl,AE Ab]at hr;let⟨o,σ1,M1,eb,hb⟩:=Zh m h9 hl9 hG mt (λp hp=>Ar (hw p hp) ()) (Ar hacc ()) hsv hhv hsh es ev eh
   show OkS (match srB gL lL [some (mD zA),some (tI R),some (.fn lL cs),some (.ref s),some (.ref v),some (.ref h),y6,y7] M with
    |some (.nx,σ2,M2)=>C4 srC (srB gL lL) n σ2 M2
    |some (.cnt,σ2,M2)=>C4 srC (srB gL lL) n σ2 M2
    |some (.brk,σ2,M2)=>some (.nx,σ2,M2)
    |some (.ret d,σ2,M2)=>some (.ret d,σ2,M2)
    |none=>none) _
   rw[eb];cases hf:level.find? (λp=>due p.1) with
   |some p=>
    rw[hf]at hr hb;ext hr;let hb':o=.ret (.tup [.str "word", tI p.2,shD acc]):=hb;subst hb';calc ⟨_,_,_,rfl,rfl⟩
   |none=>
    rw[hf]at hr hb;let⟨rfl,⟨v',y6',y7',rfl,n1,n2,ev'⟩,es',eh'⟩:=hb;let g:=mt.next m;calc PK m h9 hl9 hG n g.met (Qk (λp hp=>Nat.succ_le_succ (hw p hp)) λ_ h=>by ext h) (by rw[AW,Eb];omega) () hr _ _ _ _ _ _ n1 n2 hsh es' ev' eh'
def Aw (r:Option (List Int) × List (List (List Int))):D:=match r.1 with
 |some w=> .tup [.str "word", tI w,shD r.2]
 |none=> .tup [.str "none", shD r.2]
def Oy (hf:f Y (M++[.dicT []])=some (.dat (tI S),M++[.dicT []])) (hg:g Y (M++[.dicT []])=some (.dat v,M++[.dicT []])):Ge f g Y M=some (.dat (.ref M.length),M++[dT [(S,v)]]):=by
 let t1:toD f Y (M++[.dicT []])=some (tI S,M++[.dicT []]):=by erw[toD];rw[hf]
 let t2:toD g Y (M++[.dicT []])=some (v,M++[.dicT []]):=by erw[toD];rw[hg]
 erw[Ge];rw[t1];dsimp only;rw[t2];dsimp only;let e:(M++[MO.dicT []])[M.length]?=some (dT []):=by simp
 rw[Cn e (by simp)];refine Bo (λz=>some (EV.dat (D.ref M.length),z)) ?_;show (M++[MO.dicT []]).set M.length (dT [(S,v)])=M++[dT [(S,v)]];rw[List.set_append_right _ _ (AF _)];simp
def jQ (m:IsM zA l) (h9:zA.length<=9) (hl9:l<=1000) (hG:∀ S M',IsS zA S->gL cs [tI S] M'=some (.bl (due S),M')) (sR:IsS zA R) (hr:run zA l due 1000 [R] [(R,[])] []=some r) (M:Mem) :
  Ok (AS 8 (JS gL lL) [mD zA,tI R,.fn lL cs] M) λd _=>d=Aw r:=by
 rw[Az];erw[JS];rw[zN,zu];calc zL (Oy rfl rfl) ?_;rw[zY,zT];let e1:(M++[dT [(R,.bl true)]])[M.length]?=some (dT (sE [R])):=by simp;rfl
 let l1:(M++[dT [(R,.bl true)]]).length=M.length+1:=by simp
 generalize M++[dT [(R,.bl true)]]=M1 at e1 l1;let et:∀ (Y:Sd) (M:Mem),Bk zK Y M=some (.dat (tI []),M):=λY M=>by erw[Bk,zK];dsimp only;rw[AD (zd (by simp))];rfl
 rw[zN,zu];calc zL (Oy rfl (et _ _)) ?_;rw[zY,zT];let e2:(M1++[dT [(R,tI [])]])[M1.length]?=some (.dicT (lE [(R,[])])):=by simp;rfl
 let e1':(M1++[dT [(R,tI [])]])[M.length]?=some (dT (sE [R])):=by rw[AY ()];exact e1
 let l2:(M1++[dT [(R,tI [])]]).length=M.length+2:=by simp[l1]
 rw[l1]at e2;rw[l1];generalize M1++[dT [(R,tI [])]]=M2 at e2 e1' l2;rw[zN,zu];calc Gi.mpr (EY.mpr ⟨zd (by simp),Du ?_⟩);rw[zT,l2];let e3:(M2++[MO.lst ([]:List D)])[M.length+2]?=some (.lst (([]:List (List (List Int))).map lvD)):=by rw[<-l2];simp
 let e2':(M2++[MO.lst ([]:List D)])[M.length+1]?=some (.dicT (lE [(R,[])])):=by rw[AY ()];exact e2
 let e1'':(M2++[MO.lst ([]:List D)])[M.length]?=some (dT (sE [R])):=by rw[AY ()];exact e1'
 generalize M2++[MO.lst ([]:List D)]=M3 at e3 e2' e1'';rw[zN];let mt:Met zA [R] [(R,[])]:=⟨by simp,λS hS=>by rw[AR.mp hS];exact sR,λp hp=>by rw[AR.mp hp];calc sR⟩;refine OkS.mono (PK m h9 hl9 hG 1000 mt (λp hp=>by rw[AR.mp hp];calc AF 0) (AF 0) () hr _ _ _ _ _ _ () () () e1'' e2' e3) ?_;intro o Y M4 hW;erw[Wh]at hW;erw[Aw];cbv at hW
 .rename_i w hw;subst hW;rw[EJ]
 .rename_i hw;let⟨rfl,⟨v,y6,y7,rfl⟩,eh⟩:=hW;rw[zT];let e5:fB zt (zG (zC 5) zO) [some (mD zA),some (tI R),some (.fn lL cs),some (.ref M.length),some (.ref v),some (.ref (M.length+2)),y6,y7] M4=some (.dat (shD r.2),M4):=EA rfl (BW eh);let e6:Bk (zD (toD (fC (.str "none"))) (zD (toD (fB zt (zG (zC 5) zO))) zK)) [some (mD zA),some (tI R),some (.fn lL cs),some (.ref M.length),some (.ref v),some (.ref (M.length+2)),y6,y7] M4=some (.dat (.tup [.str "none", shD r.2]),M4):=by
   erw[Bk];rw[zM rfl (zW e5)];dsimp only;rw[AD (zd (by simp))]
  calc zc e6 rfl
def CJ (xs:Ye):D.und n (tI xs)=true:=ES xs
def Nn (acc:List (List (List Int))):D.und n (shD acc)=true:=by
 erw[shD,D.und];refine GH λx hx=>?_;let⟨L,_,rfl⟩:=Ak.mp hx;erw[lvD,D.und];refine GH λx hx=>?_;let⟨t,_,rfl⟩:=Ak.mp hx;calc CJ t
def K9 (r:Option (List Int) × List (List (List Int))):D.und n (Aw r)=true:=by
 erw[Aw];split
 .unfold D.und D.unds D.unds D.unds D.unds;rw[CJ,Nn];rfl
 .unfold D.und D.unds D.unds D.unds;rw[Nn];rfl
def NA (m:IsM zA l) (h9:zA.length<=9) (hl9:l<=1000) (hG:∀ S M',IsS zA S->gL cs [tI S] M'=some (.bl (due S),M')) (hcs:D.unds 0 cs=true) (sR:IsS zA R) (hr:run zA l due 1000 [R] [(R,[])] []=some r) :
  FU gL lL [mD zA,tI R,.fn lL cs] M=some (Aw r,M):=by
 calc zH ?_;erw[FU];refine DX ?_ (Ok.mono (jQ m h9 hl9 hG sR hr []) ?_)
 .unfold D.unds D.unds D.unds D.unds;rw[E1,CJ];erw[D.und];rw[hcs];rfl
 .rintro d M1 rfl;calc ⟨K9 r,rfl,rfl⟩
def Hd {idx:Yj} {mm:Lm->FF} {g1 g2:FA} {Y:Sd} {M M1 M2:Mem} {ds1 ds2:List D} {d:D} (h1:g1 Y M=some (ds1,M1)) (h2:g2 Y M1=some (ds2,M2)) (hc:IA Y idx=some cs) (h:∀ l,mm l (ds1 ++ .fn l cs::ds2) M2=some (d,M2)):Ei idx mm g1 g2 Y M=some (.dat d,M2):=by
 let hx:∃ r:D × Mem,∀ l,mm l (ds1 ++ .fn l cs::ds2) M2=some r:=⟨(d,M2),h⟩;let hs:=hx.choose_spec ⟨0,.none,[]⟩;rw[h]at hs;erw[Ei];rw[h1];dsimp only;rw[h2];dsimp only;rw[hc];dsimp only;rw[dif_pos hx];rw[<-Bh hs]
end
open Lac (dT BR zf BO C7 Cn)
def KZ:FS:=(zS (AN 3 (BK zK))
  (zS (BN (Am (zC 1)) (gN 4) (sIf (tst (fOp (kIn true) (fOp kIx (fOp kIx (zC 0) (zC 4)) (zC 2)) (zC 3))) (DK (fM Dn (zC 3) (zD (toD (fOp kIx (fOp kIx (zC 0) (zC 4)) (zC 2))) zK))) AV))
  (zg (fB zt (zG (fB HN (zG (zC 3) zO)) zO)))))
def Ig:FF:=Ct (AS 5 KZ)
def W0 {M:Mem} {c:Ye} (h:M[n]?=some (.lst (c.map D.int))):kIn true (.dat (.int x)) (.dat (.ref n)) M=some (.dat (.bl (!decide (x∈c))),M):=by
 erw[kIn];dsimp only;rw[BW h];dsimp only;rw[Fq];have:(c.any λy=>decide (y=x))=decide (x∈c):=by
  by_cases hm:x∈c
  .rw[Ap hm];exact Fj.mpr ⟨x,hm,by simp⟩
  .rw[Aa hm];exact List.any_eq_false.mpr λy hy=>by simp;intro e;exact hm (e▸hy)
 show some (EV.dat (.bl (!(c.any λy=>decide (y=x)))),M)=_;rw[this]
def VB (hf:f Y M=some (.dat (.ref n),M)) (h:M[n]?=some (.lst (c.map D.int))) (hz:c.length<64):fB HN (zG f zO) Y M=some (.fl ((Bj c).map D.int),M):=by
 rw[fB1 hf];erw[HN];dsimp only;rw[BW h];dsimp only;rw[Fq];dsimp only;rw[AD hz]
def Xa {zA:Ya} {l:Nat} (m:IsM zA l) (h9:zA.length<=9) {S:Ye} (s:IsS zA S) {g:Int} (g0:0<=g) (g1:g<l) {M:Mem}:Ig [mD zA,tI S,.int g] M=some (tI (setR zA S g),M):=by
 calc zH ?_;erw[Ig];calc DX (by erw[D.unds,D.unds,D.unds,D.unds];rw[E1,CJ];rfl) ?_;rw[Az];erw[KZ];rw[zN,zu];calc Gi.mpr (EY.mpr ⟨zd (by simp),Du ?_⟩);rw[zT,zN,CK];calc ⟨_,_,_,EW rfl zQ,?_⟩;let hl:=s.len;refine DP (I:=λr Y M'=>∃ (y:Option D) (done rest c:Ye),Y=[some (mD zA),some (tI S),some (.int g),some (.ref 0),y]/\r=rest.map D.int/\done++rest=S/\M'=[.lst (c.map D.int)]/\c.Nodup/\(∀ x,x∈c ↔ x∈done.map λh=>BE zA h g)/\c.length<=done.length) ?_ ?_ _ _ _ ⟨none,[],S,[],rfl,rfl,rfl,rfl,List.nodup_nil,λx=>by simp,AF _⟩
 .rintro x r Y M' ⟨y,done,rest,c,rfl,hr,hd,rfl,nd,hc,hcl⟩;let⟨z,rest',rfl,rfl,rfl⟩:=JK hr;refine ⟨zq,_,rfl,?_⟩;let⟨z0,z1⟩:=s.mem z (by rw[<-hd];simp);let ix:∀ {Y:Sd} {M:Mem},Y[0]?=some (some (mD zA))->Y[4]?=some (some (.int z))->Y[2]?=some (some (.int g))->fOp kIx (fOp kIx (zC 0) (zC 4)) (zC 2) Y M=some (.dat (.int (BE zA z g)),M):=λ{Y M} q0 q1 q2=>
   m.ix z0 z1 g0 g1 (by erw[zC];rw[q0]) (by erw[zC];rw[q1]) (by erw[zC];rw[q2])
  let e0:([MO.lst (c.map D.int)]:Mem)[0]?=some (.lst (c.map D.int)):=rfl;rw[BJ];calc zL (zi (zE (ix rfl rfl rfl) rfl (W0 e0))) ?_;by_cases hm:BE zA z g∈c
  .rw[AE (by simp[hm]),BU];refine ⟨_,done++[z],rest',c,rfl,rfl,by rw[<-hd];simp,rfl,nd,λx=>?_,by simp;omega⟩;rw[hc x];simp only[Cg,AO,Af,List.map_nil,AR];exact ⟨.inl,λh=>h.elim id λe=>by rw[e];calc (hc _).mp hm⟩
  .rw[AD (by simp[hm]),HD];refine Hh.mpr (DQ.mpr ⟨_,rfl,⟨_,GY e0⟩,?_⟩);refine zL (zW (ix rfl rfl rfl)) ?_;rw[Je e0 (by rw[AI];exact A0 (m:=100) (by have:=Bo List.length hd;simp at this;omega) (zd ()))];refine ⟨_,done++[z],rest',c++[BE zA z g],rfl,rfl,by rw[<-hd];simp,by simp,?_,λx=>?_,by simp;omega⟩
   .rw[EG];exact ⟨nd,by simp,λa ha b hb q=>hm (by rw[<-(show b=BE zA z g by simpa using hb),<-q];calc ha)⟩
   .simp only[Cg,AO,Af,List.map_nil,AR,hc x]
 .rintro Y M' ⟨y,done,rest,c,rfl,hr,hd,rfl,nd,hc,hcl⟩;have:rest=[]:=by cases rest with|nil=>rfl|cons _ _=>ext hr
  subst this;rw[CU]at hd;subst hd;refine ⟨zq,?_⟩;rw[zT];let e0:([MO.lst (c.map D.int)]:Mem)[0]?=some (.lst (c.map D.int)):=rfl;refine zc (EA (VB rfl e0 ()) F5) ?_;have:Bj c=setR zA done g:=by
   erw[setR];refine RN ?_ (N1 _) λx=>?_
   .have h1:=JN c;let h2:(Bj c).Nodup:=(Fo _).nodup_iff.mpr nd;exact (h1.and h2).imp λ{a b} h=>by have:=h.1;have:=h.2;omega
   .rw[(Fo _).mem_iff,hc x,MZ]
  rw[this];calc ⟨CJ _,rfl,rfl⟩
section
variable {zA:Ya} {l:Nat} {R:Ye}
def Mt {g:FA} {Y:Sd} {M M1:Mem} {ds:List D} (h:g Y M=some (ds,M1)) (hz:ds.length<=100000):BK g Y M=some (.fl ds,M1):=by
 erw[BK];rw[h];dsimp only;rw[AD (zd hz)]
def j8 (hx:0<xs.length):L3.CI xs none (some (-1))=xs.take (xs.length-1):=by
 erw[L3.CI];let h0:HT.sIx xs.length 0 none=0:=rfl;let h1:HT.sIx xs.length xs.length (some (-1))=xs.length-1:=by
  erw[HT.sIx];simp;omega
 rw[h0,h1,List.drop_zero,Nat.sub_zero]
end
open Lac (dT BR zf BO C7 Cn GO Ci DH IQ)
def Lb:FS:=(zg (B3 (DA "tuple" (zC 1)) (fB DC (zG (Ae [2] (Am (zC 1)) (gN 2) zo (zR Ci (zD (toD (zC 0)) (zD (toD (zC 2)) zK)))) zO))))
def F0:FF:=AS 3 Lb
def Kn:FS:=(zS (AN 1 Jw)
  (zS (BN (FX (zC 0)) (DO 2 3) (BN (Am (zC 3)) (gN 4) (sIf (tst (fOp (Ck true) (zC 4) (zC 1))) (C9 (zC 2) (zC 1) (zC 4)) AV)))
  (zg (zC 1))))
def IM:FF:=AS 5 Kn
def J6:FS:=(zS (AN 4 (Ae [5] (BG (zD (toD (fB zj (zG (fOp kIx (zC 0) (fC (.int 0))) zO))) zK)) (gN 5) zo (zR Em (zD (toD (zC 0)) (zD (toD (zC 1)) (zD (toD (zC 5)) zK))))))
  (zg (fB DC (zG (Ae [6] (Am (zC 4)) (gN 6) zo (B3 (fOp (Ck false) (zC 6) (zC 2)) (fOp kLe (fOp BB (zC 2) (zC 6)) (zC 3)))) zO))))
def GP:FF:=EE (AS 7 J6)
def Jq:FS:=(zS (sIf (CC (B0 (tst (DA "tuple" (zC 2)))) (B0 (tst (fB DC (zG (Ae [4] (Am (zC 2)) (gN 4) zo (zR F0 (zD (toD (zC 0)) (zD (toD (zC 4)) zK)))) zO))))) (zg (fC (.bl false))) AV)
  (zS (sIf (tst (fOp kEq (fB zj (zG (zC 2) zO)) (fC (.int 0)))) (zg (El (zC 3))) AV)
  (zS (sIf (tst (fOp (GC true) (zC 1) (fOp kIx (zC 2) (fC (.int 0))))) (zg (fC (.bl false))) AV)
  (zS (AN 5 (zR IM (zD (toD (zC 2)) zK)))
  (zS (AN 6 (vIf (tst (zC 3)) (zC 2) (fSl (zC 2) D3 (Dw (Eo (fC (.int 1)))))))
  (zg (fB DC (zG (Ff [8,4,7] [7] (FX (zC 6)) (DO 8 4) zo (Am (zC 4)) (gN 7) zo (zR GP (zD (toD (zC 0)) (zD (toD (zC 7)) (zD (toD (zC 5)) (zD (toD (fOp Bz (zC 8) (fC (.int 1)))) zK)))))) zO))))))))
def GV:FF:=EE (AS 9 Jq)
def dc (p:Prop):Bool:=@decide p (Classical.propDecidable p)
def DZ (h:p):dc p=true:=@Ap p (Classical.propDecidable p) h
def GS (h:¬ p):dc p=false:=@Aa p (Classical.propDecidable p) h
def ZX (h:dc p=true):p:=@CZ p (Classical.propDecidable p) h
def setB (zA:Ya) (d:D):Bool:=dc (∃ S,d=tI S/\IsS zA S)
def X3 (hd:Vd M d):Ci [mD zA,d] M=some (.bl (setB zA d),M):=by
 let⟨b,e,hb⟩:=IQ hd;rw[e];have:b=setB zA d:=by
  erw[setB];cases b with
  |true=>rw[DZ (hb.mp rfl)]
  |false=>rw[GS (λz=>by have:=hb.mpr z;ext this)]
 rw[this]
abbrev lvT (L:Ya):D:=.tup (L.map tI)
abbrev shT (LL:List (List (List Int))):D:=.tup (LL.map lvT)
theorem Ou:∀ {ds:List D},(ds.map (setB zA)).all id=true -> ∃ L:List (List Int),ds=L.map tI /\ ∀ S∈L,IsS zA S
 |[],_=>⟨[],rfl,λ_ h=>by ext h⟩
 |d::ds,h=>by
  rw[Af,List.all_cons,Au]at h;let⟨L,rfl,hL⟩:=Ou h.2;let h1:setB zA d=true:=h.1;erw[setB]at h1;let⟨S,rfl,s⟩:=ZX h1;exact ⟨S::L,rfl,λT hT=>by
   rcases AJ.mp hT with z|z
   .rw[z];exact s
   .exact hL T z⟩
def jL {L:Ya} (h:∀ S∈L,IsS zA S):((L.map tI).map (setB zA)).all id=true:=by
 rw[Aj];intro b hb;rw[BH]at hb;let⟨S,hS,rfl⟩:=Ak.mp hb;calc DZ ⟨S,rfl,h S hS⟩
def Xd (zA:Ya):D->Prop:=λd=>∃ L:List (List Int),d=lvT L /\ ∀ S∈L,IsS zA S
def GD (zA:Ya) (d:D):Bool:=dc (Xd zA d)
def dX (hd:Vd M d):F0 [mD zA,d] M=some (.bl (GD zA d),M):=by
 erw[F0,Lb];calc EX ?_;let⟨t,e,q,_⟩:=hd.ty;cases d with
 |tup ds=>
  let hh:Vd M (.tup ds):=hd;erw[Vd]at hh;have:GD zA (.tup ds)=(true&&(ds.map (setB zA)).all id):=by
   rw[Bool.true_and];erw[GD];cases hb:(ds.map (setB zA)).all id with
   |true=>
    let⟨L,rfl,hL⟩:=Ou hb;calc DZ ⟨L,rfl,hL⟩
   |false=>
    calc GS ?_;rintro ⟨L,e,hL⟩;ext e;rw[jL hL]at hb;ext hb
  rw[this];refine Cu (by rw[GG rfl e,q];rfl) λ_=>HK ?_;rw[BH];exact Lv (λx=> .bl (setB zA x)) rfl hh.1 λx hx=>⟨_,rfl,zV (zM rfl (zW rfl)) (X3 (hh.2.mem x hx))⟩
 |_=>
  refine (Cu (a:=false) (b:=true) (by rw[GG rfl e,q];rfl) λz=>by ext z).trans ?_;erw[GD];rw[GS (by rintro ⟨L,z,_⟩;ext z)];rfl
def plc (LL:List (List (List Int))) (S:Ye):Option Nat:=LL.findIdx? λL=>decide (S∈L)
def HM (done:List (List (List Int))) (part:Ya) (S:Ye):plc (done++[part]) S=match plc done S with|some k=>some k|none=>if S∈part then some done.length else none:=by
 erw[plc];rw[List.findIdx?_append];cases done.findIdx? (λL=>decide (S∈L)) with
 |some k=>rfl
 |none=>
  by_cases h:S∈part
  .simp[h]
  .simp[h]
structure Pl (zA:Ya) (P:List (List Int × D)) (LL:List (List (List Int))):Prop where
 lk:∀ S,zf P S=(plc LL S).map λk=>D.int (k:Nat)
 nd:(P.map (·.1)).Nodup
 st:∀ S∈P.map (·.1),IsS zA S
def Pl.open_ (h:Pl zA P LL):Pl zA P (LL++[[]]) :=
 ⟨λS=>by rw[h.lk,HM];cases plc LL S <;> rfl,h.nd,h.st⟩
def Pl.add {zA:Ya} {P:List (List Int × D)} {done:List (List (List Int))} {part:Ya} (h:Pl zA P (done++[part])) {S:Ye} (s:IsS zA S) :
  ((zf P S).isSome=true->Pl zA P (done++[part++[S]]))/\((zf P S).isSome=false->Pl zA (P++[(S,.int (done.length:Nat))]) (done++[part++[S]])):=by
 let hl:=h.lk S;rw[HM]at hl;refine ⟨λhs=>⟨λT=>?_,h.nd,h.st⟩,λhs=>⟨λT=>?_,?_,λT hT=>?_⟩⟩
 .rw[h.lk,HM,HM];cases hp:plc done T with
  |some k=>rfl
  |none=>
   by_cases ht:T∈part
   .simp[ht]
   .by_cases hT:T=S
    .subst hT;rw[hp]at hl;rw[hl]at hs;simp[ht]at hs
    .simp[ht,hT]
 .have hn:zf P S=none:=by cases e:zf P S with|none=>rfl|some d=>rw[e]at hs;ext hs
  let hput:BO P S (.int (done.length:Nat))=P++[(S,.int (done.length:Nat))]:=by erw[BO];rw[hn]
  rw[<-hput,Lac.jY,h.lk,HM,HM];rw[hn]at hl;by_cases hT:S=T
  .subst hT;rw[AD rfl];cases hp:plc done S with
   |some k=>rw[hp]at hl;ext hl
   |none=>simp
  .rw[AE hT];cases plc done T with
   |some k=>rfl
   |none=>
    let hT':¬ T=S:=λz=>hT z.symm;simp[hT']
 .rw[Cg,EG];refine ⟨h.nd,by simp,λa ha b hb z=>?_⟩;let e1:=JX .non P S;rw[hs]at e1;let e2:=of_decide_eq_false e1.symm;refine e2 ?_;let hb':b=S:=by simpa using hb
  rw[<-hb',<-z];exact ha
 .rw[Cg]at hT;rcases AO.mp hT with z|z
  .exact h.st T z
  .rw[AR.mp z];calc s
section
variable {zA:Ya} {l:Nat}
def PX:((List.range (x::xs).length).zip (x::xs)).map (λq=>D.tup [.int ((n+q.1:Nat):Int),q.2])=D.tup [.int (n:Nat),x]::((List.range xs.length).zip xs).map λq=>D.tup [.int (((n+1)+q.1:Nat):Int),q.2]:=by
 rw[B4,List.range_succ_eq_map,List.zip_cons_cons,Af,List.zip_map_left,BH];congr 1;apply List.map_congr_left;intro q _;show D.tup [.int ((n+(q.1+1):Nat):Int),q.2]=D.tup [.int (((n+1)+q.1:Nat):Int),q.2];rw[show n+(q.1+1)=(n+1)+q.1 by omega]
abbrev HL (n:Nat) (xs:List D):List D:=((List.range xs.length).zip xs).map λq=>D.tup [.int ((n+q.1:Nat):Int),q.2]
def YR (xs:List D):Dm xs=HL 0 xs:=by
 erw[Dm,HL];apply List.map_congr_left;intro q _;rw[Nat.zero_add]
def aS (h9:zA.length<=9) (hs:∀ L∈LL,∀ S∈L,IsS zA S) :
  Ok (IM [shT LL] M) λd M'=>∃ P,d=.ref M.length/\M'=M++[dT P]/\Pl zA P LL:=by
 erw[IM];rw[Az];erw[Kn];rw[zN,zu];refine zL rfl ?_;rw[zY,zT];rw[zN,CK];let ei:FX (zC 0) [some (shT LL),some (.ref M.length),none,none,none] (M++[.dicT []])=some (HL 0 (LL.map lvT),none,M++[.dicT []]):=by
  rw[<-YR];rfl
 calc ⟨_,_,_,ei,?_⟩;refine DP (I:=λr Y M'=>(∃ y2 y3 y4,Y=[some (shT LL),some (.ref M.length),y2,y3,y4]) /\ ∃ (done rest:List (List (List Int))) (P:List (List Int × D)),r=HL done.length (rest.map lvT)/\done++rest=LL/\M'=M++[dT P]/\Pl zA P done) ?_ ?_ _ _ _ ⟨⟨_,_,_,rfl⟩,[],LL,[],rfl,rfl,rfl,⟨λS=>rfl,by simp,λ_ h=>by ext h⟩⟩
 .rintro x r Y M' ⟨⟨y2,y3,y4,rfl⟩,done,rest,P,er,hd,rfl,pl⟩;cases rest with
  |nil=>ext er
  |cons L rest=>
   rw[Af]at er;erw[HL]at er;rw[PX]at er;let⟨rfl,rfl⟩:=Cb er;let hL:L∈LL:=by rw[<-hd];simp
   calc ⟨zq,_,rfl,?_⟩;rw[CK];calc ⟨_,_,_,EW rfl zQ,?_⟩;refine DP (I:=λr Y M'=>(∃ y4,Y=[some (shT LL),some (.ref M.length),some (.int (done.length:Nat)),some (lvT L),y4]) /\ ∃ (part rest:Ya) (P:List (List Int × D)),r=rest.map tI/\part++rest=L/\M'=M++[dT P]/\Pl zA P (done++[part])) ?_ ?_ _ _ _ ⟨⟨_,rfl⟩,[],L,P,rfl,rfl,rfl,pl.open_⟩
   .rintro x r Y M' ⟨⟨y4,rfl⟩,part,rs,P,er,hp,rfl,pl⟩;cases rs with
    |nil=>ext er
    |cons S rs=>
     let⟨rfl,rfl⟩:=Cb er;let s:=hs L hL S (by rw[<-hp];simp);calc ⟨zq,_,rfl,?_⟩;let eP:(M++[dT P])[M.length]?=some (dT P):=by simp
     rw[BJ];calc zL (zi (zE rfl rfl (C7 eP))) ?_;let⟨p1,p2⟩:=pl.add s;cases hb:(zf P S).isSome with
     |true=>
      rw[AE (by simp),BU];calc ⟨⟨_,rfl⟩,part++[S],rs,P,rfl,by rw[<-hp];simp,rfl,p1 hb⟩
     |false=>
      rw[AD (by simp)];let hl:=Hw pl.nd pl.st h9;rw[AI]at hl;calc Gf rfl rfl rfl (Cn eP ()) ?_;let hn:zf P S=none:=by cases e:zf P S with|none=>rfl|some d=>rw[e]at hb;ext hb
      let hput:BO P S (.int (done.length:Nat))=P++[(S,.int (done.length:Nat))]:=by erw[BO];rw[hn]
      calc ⟨⟨_,rfl⟩,part++[S],rs,_,rfl,by rw[<-hp];simp,?_,p2 hb⟩;rw[hput,List.set_append_right _ _ (AF _)];simp
   .rintro Y M' ⟨⟨y4,rfl⟩,part,rs,P,er,hp,rfl,pl⟩;have:rs=[]:=by cases rs with|nil=>rfl|cons _ _=>ext er
    subst this;rw[CU]at hp;subst hp;exact ⟨zq,⟨_,_,_,rfl⟩,done++[part],rest,P,by rw[AW];rfl,by rw[<-hd];simp,rfl,pl⟩
 .rintro Y M' ⟨⟨y2,y3,y4,rfl⟩,done,rest,P,er,hd,rfl,pl⟩;have:rest=[]:=by
   cases rest with
   |nil=>rfl
   |cons L rest=>rw[Af]at er;erw[HL]at er;rw[PX]at er;ext er
  subst this;rw[CU]at hd;subst hd;calc ⟨zq,?_⟩;rw[zT];calc zc rfl ⟨P,rfl,rfl,pl⟩
def EI (zA:Ya) (l:Nat) (LL:List (List (List Int))) (S:Ye) (last:Int):Bool:=(A7 l).all λg=>match plc LL (setR zA S g) with|some k=>decide ((k:Int)<=last)|none=>false
def Uo (m:IsM zA l) (h9:zA.length<=9) (hl9:l<=1000) (pl:Pl zA P LL) (s:IsS zA S) (eP:M[j]?=some (dT P)) :
  Ok (AS 7 J6 [mD zA,tI S,.ref j,.int last] M) λd M'=>d=.bl (EI zA l LL S last) /\ ∃ us,M'=M++us:=by
 rw[Az];erw[J6];let hjl:j<M.length:=(AK.mp eP).1;let ec:Ae [5] (BG (zD (toD (fB zj (zG (fOp kIx (zC 0) (fC (.int 0))) zO))) zK)) (gN 5) zo (zR Em (zD (toD (zC 0)) (zD (toD (zC 1)) (zD (toD (zC 5)) zK)))) [some (mD zA),some (tI S),some (.ref j),some (.int last),none,none,none] M=some (.fl ((A7 l).map λg=>tI (setR zA S g)),M):=by
  refine F4 (gd:=none) (A7 l) D.int (λg=>tI (setR zA S g)) ?_ trivial (by erw[A7];simp;omega) λg hg=>⟨_,rfl,zV (zM rfl (zM rfl (zW rfl))) (LY m () s (Jv hg).1 (Jv hg).2)⟩;rw[DI (MG m rfl) () (),Bt,<-Mr];erw[A7];rw[BH];rfl
 rw[zN,zu];calc zL ec (Du ?_);rw[zT];let eg:(M++[MO.lst ((A7 l).map λg=>tI (setR zA S g))])[M.length]?=some (.lst ((A7 l).map λg=>tI (setR zA S g))):=FR _ _;let eP':(M++[MO.lst ((A7 l).map λg=>tI (setR zA S g))])[j]?=some (dT P):=by rw[AY hjl];exact eP
 let hM:∃ us,M++[MO.lst ((A7 l).map λg=>tI (setR zA S g))]=M++us:=⟨_,rfl⟩;generalize M++[MO.lst ((A7 l).map λg=>tI (setR zA S g))]=M1 at eg eP' hM;show OkS (zg _ [some (mD zA),some (tI S),some (.ref j),some (.int last),some (.ref M.length),none,none] M1) _;let e2:Ae [6] (Am (zC 4)) (gN 6) zo (B3 (fOp (Ck false) (zC 6) (zC 2)) (fOp kLe (fOp BB (zC 2) (zC 6)) (zC 3))) [some (mD zA),some (tI S),some (.ref j),some (.int last),some (.ref M.length),none,none] M1=some (.fl ((A7 l).map λg=> .bl (match plc LL (setR zA S g) with|some k=>decide ((k:Int)<=last)|none=>false)),M1):=by
  refine F4 (A7 l) (λg=>tI (setR zA S g)) _ (EW (x:=.dat (.ref M.length)) rfl (BW eg)) (.inl eg) (by erw[A7];simp;omega) λg hg=>⟨_,rfl,?_⟩;let hl:=pl.lk (setR zA S g);let e3:=C7 (neg:=false) (g:=setR zA S g) eP';cases hp:plc LL (setR zA S g) with
  |none=>
   rw[hp]at hl;let hl':zf P (setR zA S g)=none:=hl;rw[hl']at e3;exact Cu (a:=false) (b:=true) (zE rfl rfl e3) λz=>by ext z
  |some k=>
   rw[hp]at hl;let hl':zf P (setR zA S g)=some (.int (k:Nat)):=hl;rw[hl']at e3;let e4:=Cu (a:=true) (b:=decide ((k:Int)<=last)) (f:=fOp (Ck false) (zC 6) (zC 2)) (g:=fOp kLe (fOp BB (zC 2) (zC 6)) (zC 3)) (Y:=(Bi [6] [some (mD zA),some (tI S),some (.ref j),some (.int last),some (.ref M.length),none,none]).set 6 (some (tI (setR zA S g)))) (M:=M1) (zE rfl rfl e3) λ_=>zE (zE rfl rfl (GO eP' hl')) rfl (zH (KA.mpr ⟨rfl,rfl⟩));rw[Bool.true_and]at e4;exact e4
 rw[show ((A7 l).map λg=>D.bl (match plc LL (setR zA S g) with|some k=>decide ((k:Int)<=last)|none=>false))=((A7 l).map λg=>(match plc LL (setR zA S g) with|some k=>decide ((k:Int)<=last)|none=>false)).map D.bl by rw[BH];rfl]at e2;calc zc (HK e2) ⟨?_,hM⟩;erw[EI];rw[Jo]
def gH (m:IsM zA l) (h9:zA.length<=9) (hl9:l<=1000) (pl:Pl zA P LL) (s:IsS zA S) (wf:∀ (j:Nat) u,M[j]?=some u->MO.und M.length u=true) (eP:M[j]?=some (dT P)) :
  GP [mD zA,tI S,.ref j,.int last] M=some (.bl (EI zA l LL S last),M):=by
 erw[GP];calc Lac.Dy wf rfl (Uo m h9 hl9 pl s eP)
end
open Lac (dT BR zf BO C7 Cn GO Ci DH IQ Dy IH)
def cF (h:n<=16000000):n<=sizeLine:=Ar h ()
def Rb {α β:Type} (as:List α) (enc:α->D) (bs:α->List β) (enc2:β->D) (out:α->β->D) (B:Nat)
  (hi:fi Y M=some (as.map enc,none,M)) (hB:∀ a∈as,(bs a).length<=B) (hz:as.length*B<=16000000)
  (he:∀ a∈as,∃ σ1,fg (enc a) (Bi own Y)=some σ1/\fi2 σ1 M=some ((bs a).map enc2,none,M) /\ ∀ b∈bs a,∃ σ2,fg2 (enc2 b) (Bi own2 σ1)=some σ2/\te σ2 M=some (.dat (out a b),M)) :
  Ff own own2 fi fg zo fi2 fg2 zo te Y M=some (.fl (as.flatMap λa=>(bs a).map (out a)),M):=by
 let key:∀ (r:List α) (acc:List D),(∀ a∈r,a∈as)->acc.length+r.length*B<=16000000->Es fg zo fi2 own2 fg2 zo te (Bi own Y) (as.map enc) none (r.map enc) acc M=some (acc++r.flatMap λa=>(bs a).map (out a),M):=by
  intro r;induction r with
  |nil=>
   intro acc _ _;rw[List.map_nil];erw[Es];rw[AD (show Br none (as.map enc) M from trivial)];simp
  |cons a r ih=>
   intro acc hs hl;let ha:=hs a AZ;let⟨σ1,e1,e2,e3⟩:=he a ha;let hb:=hB a ha;rw[B4,Nat.add_mul]at hl;rw[Af];erw[Es];rw[AD (show Br none (as.map enc) M from trivial),e1];dsimp only;rw[show zo σ1 M=some (true,M)from rfl];dsimp only;rw[e2];dsimp only;rw[AD (cF (by rw[AI];omega)),IH enc2 (out a) (λ_=>true) (bs a) (λb hb=>let ⟨σ2,q1,q2⟩:=e3 b hb;⟨σ2,q1,rfl,λ_=>q2⟩)];dsimp only;rw[ih _ (λb hb=>hs b (Aq _ hb)) (by rw[AW,AI];have:=List.length_filter_le (λ_=>true) (bs a);omega)];rw[List.flatMap_cons,B7,List.filter_eq_self.mpr (λ_ _=>rfl)]
 erw[Ff];rw[hi];dsimp only;rw[key as [] (λ_ h=>h) (~~~hz)];simp
def mI (a:Ye):(a.map D.int).all (zh 0)=true:=by
 rw[Aj];intro x hx;let⟨i,_,rfl⟩:=Ak.mp hx;rfl
def Gw (p:Ye):zh 1 (tI p)=true:=mI p
def Th (h:tI p=tI q):p=q:=(List.map_inj_right (λ_ _ h=>D.int.inj h)).mp (D.tup.inj h)
def cX {ps:Ya} (h:BA M y=some (ps.map tI)):GC neg (.dat (tI p)) y M=some (.dat (.bl (nb neg (decide (p∈ps)))),M):=by
 let ht:(ps.map tI).all (zh 1)=true:=by
  rw[Aj];intro x hx;let⟨q,_,rfl⟩:=Ak.mp hx;exact Gw q
 let he:((ps.map tI).any λe=>An 1 e (tI p))=decide (p∈ps):=by
  rw[Ex,Fj,decide_eq_true_iff];constructor
  .rintro ⟨x,hx,e⟩;let⟨q,hq,rfl⟩:=Ak.mp hx;have:=S5 1 _ _ (Gw q) (Gw p) e;rw[<-Th this];exact hq
  .intro hp;exact ⟨tI p,Ak.mpr ⟨p,hp,rfl⟩,Jb 1 _ (Gw p)⟩
 erw[GC];rw[h];dsimp only;rw[Gw,ht,he];rfl
def GF (zA:Ya) (l:Nat) (LL:List (List (List Int))):Nat->List (List (List Int))->Bool
 |_,[]=>true
 |n,L::r=>(L.all λS=>EI zA l LL S ((n:Int)+1))&&GF zA l LL (n+1) r
def shB (zA:Ya) (l:Nat) (R:Ye) (LL:List (List (List Int))) (closed:Bool):Bool:=match LL with
 |[]=> !closed
 |L0::_=>decide (R∈L0)&&GF zA l LL 0 (if closed then LL else LL.take (LL.length-1))
def KQ (zA:Ya) (LL:List (List (List Int))):Prop:=(∀ L∈LL,∀ S∈L,IsS zA S)/\LL.length<=2000 /\ ∀ L∈LL,L.length<=8000
section
variable {zA:Ya} {l:Nat} {R:Ye}
theorem Rm (LL:List (List (List Int))):∀ (n:Nat) (as:List (List (List Int))),((((List.range as.length).zip as).flatMap λq=>q.2.map λS=>EI zA l LL S (((n+q.1:Nat):Int)+1)).all id)=GF zA l LL n as
 |n,[]=>rfl
 |n,L::r=>by
  erw[GF];rw[<-Rm LL (n+1) r,B4,List.range_succ_eq_map,List.zip_cons_cons,List.flatMap_cons,List.all_append,List.zip_map_left,List.flatMap_map];congr 1
  .rw[Jo];rfl
  .congr 2;funext q;show List.map (λS=>EI zA l LL S (((n+(q.1+1):Nat):Int)+1)) q.2=_;rw[show n+(q.1+1)=(n+1)+q.1 by omega]
end
open Lac (dT BR zf BO C7 Cn GO Ci DH IQ Dy IH)
section
variable {zA:Ya} {l:Nat} {R:Ye}
def jS (nd:(P.map (·.1)).Nodup) (h:q∈P):zf P q.1=some q.2:=by
 induction P with
 |nil=>ext h
 |cons a r ih=>
  rw[Af,List.nodup_cons]at nd;erw[zf];rcases AJ.mp h with e|e
  .rw[e,AD rfl]
  .rw[AE λz=>nd.1 (by rw[z];calc List.mem_map_of_mem e)];calc ih nd.2 e
def Pl.und (h:Pl zA P LL) (n:Nat):MO.und n (dT P)=true:=by
 let key:((BR P).all λp=>D.und n p.1&&D.und n p.2)=true:=by
  rw[Aj];intro p hp;erw[BR]at hp;let⟨q,hq,rfl⟩:=Ak.mp hp;let e:=jS h.nd hq;rw[h.lk]at e;let⟨k,_,e⟩:=Option.map_eq_some_iff.mp e;rw[Au];calc ⟨ES _,?_⟩;rw[<-e];rfl
 calc key
def Uq (wf:∀ (j:Nat) u,M[j]?=some u->MO.und M.length u=true) (h:∀ n,MO.und n u=true):∀ (j:Nat) v,(M++[u])[j]?=some v->MO.und (M++[u]).length v=true:=by
 intro j v e;by_cases hj:j<M.length
 .rw[AY hj]at e;exact QV (by simp) (wf j v e)
 .rw[CQ ()]at e;cases hk:j-M.length with
  |zero=>rw[hk]at e;ext e;calc h _
  |succ k=>rw[hk]at e;simp at e
def Ti (m:IsM zA l) (h9:zA.length<=9) (hl9:l<=1000) (hL:KQ zA LL) (wf:∀ (j:Nat) u,M[j]?=some u->MO.und M.length u=true) :
  Ok (AS 9 Jq [mD zA,tI R,shT LL,.bl closed] M) λd M'=>d=.bl (shB zA l R LL closed) /\ ∃ us,M'=M++us:=by
 let⟨hs,hz1,hz2⟩:=hL;rw[Az];erw[Jq];show OkS (zS _ _ [some (mD zA),some (tI R),some (shT LL),some (.bl closed),none,none,none,none,none] M) _;let vd:Vd M (shT LL):=by
  erw[shT,Vd];refine ⟨by rw[AI];omega,Vds.of λd hd=>?_⟩;let⟨L,hL,rfl⟩:=Ak.mp hd;erw[lvT,Vd];refine ⟨by rw[AI];have:=hz2 L hL;omega,Vds.of λd hd=>?_⟩;let⟨S,hS,rfl⟩:=Ak.mp hd;erw[tI,Vd];refine ⟨by rw[AI];have:=(hs L hL S hS).len;omega,Vds.of λd hd=>?_⟩;let⟨i,_,rfl⟩:=Ak.mp hd;erw[Vd];trivial
 let vds:∀ d∈LL.map lvT,Vd M d:=by
  let hh:Vd M (.tup (LL.map lvT)):=vd;erw[Vd]at hh;exact hh.2.mem
 let hall:fB DC (zG (Ae [4] (Am (zC 2)) (gN 4) zo (zR F0 (zD (toD (zC 0)) (zD (toD (zC 4)) zK)))) zO) [some (mD zA),some (tI R),some (shT LL),some (.bl closed),none,none,none,none,none] M=some (.dat (.bl true),M):=by
  let e:=HK (f:=Ae [4] (Am (zC 2)) (gN 4) zo (zR F0 (zD (toD (zC 0)) (zD (toD (zC 4)) zK)))) (Y:=[some (mD zA),some (tI R),some (shT LL),some (.bl closed),none,none,none,none,none]) (M:=M) (bs:=(LL.map lvT).map (GD zA)) (by
   rw[BH];calc Lv (λx=> .bl (GD zA x)) rfl (by rw[AI];omega) λx hx=>⟨_,rfl,zV (zM rfl (zW rfl)) (dX (vds x hx))⟩)
  rw[e];have:((LL.map lvT).map (GD zA)).all id=true:=by
   rw[Aj];intro b hb;rw[BH]at hb;let⟨L,hL,rfl⟩:=Ak.mp hb;exact DZ ⟨L,rfl,hs L hL⟩
  rw[this]
 let nt:∀ {f:FE} {Y:Sd} {M:Mem} {k:Bool},f Y M=some (.dat (.bl k),M)->B0 (tst f) Y M=some (!k,M):=λ{f Y M k} e=>zH (PM.mpr (zL (zi e) ⟨rfl,rfl⟩));calc C2 (by erw[CC];rw[nt (isV (k:=true) rfl rfl ())];calc nt hall) ?_;let el:=BP (f:=zC 2) (Y:=[some (mD zA),some (tI R),some (shT LL),some (.bl closed),none,none,none,none,none]) (M:=M) (x:=.dat (shT LL)) rfl zQ;rw[AI]at el;let ez:tst (fOp kEq (fB zj (zG (zC 2) zO)) (fC (.int 0))) [some (mD zA),some (tI R),some (shT LL),some (.bl closed),none,none,none,none,none] M=some (decide ((LL.length:Int)=0),M):=zi (zE el rfl (zH (CM.mpr ⟨rfl,rfl⟩)));cases LL with
 |nil=>
  calc F6 ez ?_;calc zc (d:=.bl (!closed)) (by erw[El];rw[show zC 3 [some (mD zA),some (tI R),some (shT []),some (.bl closed),none,none,none,none,none] M=some (.dat (.bl closed),M)from rfl]) ⟨rfl,[],by simp⟩
 |cons L0 rest=>
  refine C2 (ez.trans (by rw[Aa (by simp;omega)])) ?_;let ein:tst (fOp (GC true) (zC 1) (fOp kIx (zC 2) (fC (.int 0)))) [some (mD zA),some (tI R),some (shT (L0::rest)),some (.bl closed),none,none,none,none,none] M=some (!(decide (R∈L0)),M) :=
   zi (k:=!(decide (R∈L0))) (zE (x:=.dat (tI R)) (y:=.dat (lvT L0)) rfl (zE (x:=.dat (shT (L0::rest))) (y:=.dat (.int 0)) rfl rfl (A8 (xs:=(L0::rest).map lvT) zQ (Ca rfl))) (cX zQ))
  cases hR:decide (R∈L0) with
  |false=>
   rw[hR]at ein;calc F6 ein ?_;calc zc (d:=.bl false) rfl ⟨by erw[shB];dsimp only;rw[hR];rfl,[],by simp⟩
  |true=>
  rw[hR]at ein;refine C2 ein ?_;rw[zN,zu,Fu];refine zL (zW rfl) ?_;refine (aS h9 hs).mono ?_;rintro d M1 ⟨P,rfl,rfl,pl⟩;rw[zY,zT];let wf1:∀ (j:Nat) u,(M++[dT P])[j]?=some u->MO.und (M++[dT P]).length u=true:=Uq wf pl.und;let eP:(M++[dT P])[M.length]?=some (dT P):=FR _ _;let hM:∃ us,M++[dT P]=M++us:=⟨_,rfl⟩;generalize M++[dT P]=M1 at wf1 eP hM;let key:∀ (as:List (List (List Int))),(∀ L∈as,L∈L0::rest)->as.length<=2000->fB DC (zG (Ff [8,4,7] [7] (FX (zC 6)) (DO 8 4) zo (Am (zC 4)) (gN 7) zo (zR GP (zD (toD (zC 0)) (zD (toD (zC 7)) (zD (toD (zC 5)) (zD (toD (fOp Bz (zC 8) (fC (.int 1)))) zK)))))) zO) [some (mD zA),some (tI R),some (shT (L0::rest)),some (.bl closed),none,some (.ref M.length),some (shT as),none,none] M1=some (.dat (.bl (GF zA l (L0::rest) 0 as)),M1):=by
   intro as ha hn;rw[<-Rm];calc HK ?_;let e:=Rb (own:=[8,4,7]) (own2:=[7]) (fi:=FX (zC 6)) (fi2:=Am (zC 4)) (fg:=DO 8 4) (fg2:=gN 7) (te:=zR GP (zD (toD (zC 0)) (zD (toD (zC 7)) (zD (toD (zC 5)) (zD (toD (fOp Bz (zC 8) (fC (.int 1)))) zK))))) (Y:=[some (mD zA),some (tI R),some (shT (L0::rest)),some (.bl closed),none,some (.ref M.length),some (shT as),none,none]) (M:=M1) ((List.range as.length).zip as) (λq=> .tup [.int (q.1:Nat),lvT q.2]) (λq=>q.2) tI (λq S=> .bl (EI zA l (L0::rest) S (((0+q.1:Nat):Int)+1))) 8000 ?_ ?_ ?_ ?_
   .rw[e,List.map_flatMap];congr 3;congr 1;funext q;rw[BH];rfl
   .unfold FX;rw[show zC 6 [some (mD zA),some (tI R),some (shT (L0::rest)),some (.bl closed),none,some (.ref M.length),some (shT as),none,none] M1=some (.dat (shT as),M1)from rfl];dsimp only;rw[show BA M1 (.dat (shT as))=some (as.map lvT)from zQ];show some (Dm (as.map lvT),none,M1)=_;erw[Dm];rw[AI,List.zip_map_right,BH];rfl
   .intro q hq;exact hz2 _ (ha _ (List.of_mem_zip hq).2)
   .rw[List.length_zip,List.length_range];omega
   .intro q hq;refine ⟨_,rfl,EW (x:=.dat (lvT q.2)) rfl zQ,λS hS=>⟨_,rfl,?_⟩⟩;exact zV (zM rfl (zM rfl (zM rfl (zW (zE rfl rfl (zH (KL.mpr ⟨rfl,rfl⟩))))))) (by rw[Nat.zero_add];calc gH m h9 hl9 pl (hs _ (ha _ (List.of_mem_zip hq).2) S hS) wf1 eP)
  cases closed with
  |true=>
   calc CT (d:=shT (L0::rest)) rfl ?_;refine zc (key (L0::rest) (λ_ h=>h) hz1) ⟨?_,hM⟩;erw[shB];dsimp only;rw[hR];rfl
  |false=>
   refine CT (d:=shT ((L0::rest).take rest.length)) ?_ ?_
   .unfold vIf;rw[show tst (zC 3) ([some (mD zA),some (tI R),some (shT (L0::rest)),some (.bl false),none,none,none,none,none].set 5 (some (.ref M.length))) M1=some (false,M1)from rfl];dsimp only;rw[slE (xs:=(L0::rest).map lvT) (lo:=none) (hi:=some (-1)) rfl rfl rfl,j8 (by simp)];erw[shT];rw[List.map_take];simp
   .refine zc (key _ (λ_ h=>List.mem_of_mem_take h) (by rw[Bp];omega)) ⟨?_,hM⟩;erw[shB];dsimp only;rw[hR];rfl
end
open Lac (dT BR zf BO C7 Cn GO Ci DH IQ Dy IH)
section
variable {M M':Mem} {j n l:Nat} {rs:Yj} {zA:Ya}
def Rw.other (h:Rw M j rs zA n l) (h1:p≠j) (h2:p∉rs):Rw (M.set p u) j rs zA n l:=by
 refine ⟨by rw[A6 h1];exact h.at_,h.len,λi r e=>?_,h.nd,h.hj,h.ok⟩;let⟨w,e1,e2⟩:=h.row i r e;calc ⟨w,e1,by rw[A6 (λz=>h2 (by rw[z];calc BD e))];calc e2⟩
def Rw.out (h:Rw M j rs zA n l) (hp:M.length<=p):p≠j/\p∉rs:=by
 refine ⟨λz=>?_,λz=>?_⟩
 .have:=(AK.mp h.at_).1;omega
 .obtain ⟨i,hi⟩:=List.getElem?_of_mem z;let⟨w,_,e2⟩:=h.row i p hi;have:=(AK.mp e2).1;omega
def Rw.push (h:Rw M j rs zA n l) (us:Mem):Rw (M++us) j rs zA n l:=h.keep λi hi=>AY hi
def Rw.refs (h:Rw M j rs zA n l):∀ r∈rs,r<M.length:=λr hr=>by
 let⟨i,hi⟩:=List.getElem?_of_mem hr;let⟨w,_,e2⟩:=h.row i r hi;calc (AK.mp e2).1
end
def WN (g:Gen M0 n k q0) (nw:Nw M0 M n k q) (rw_:Rw M j rs zA N l) (hN:zA.length=N) (h0:0<N) (h1:N<=1000) (hl0:0<l) (hl:l<=1000) (lo:M0.length<=j) (lr:∀ r∈rs,M0.length<=r) :
  Ok (IT [.ref j,.bl b] M) λd M'=>d=.non/\Nw M0 M' n k q/\M.length<=M'.length /\ ∃ rows',Rw M' j rs rows' N l/\rows'.length=N:=by
 erw[IT];rw[Az];erw[NH];show OkS (zS _ _ [some (.ref j),some (.bl b),none,none,none,none] M) _;rw[zN,CK];calc ⟨_,_,_,DI (rw_.row0 () rfl) () (),?_⟩;rw[Bt];refine F9 (n:=l) (I:=λi Y M'=>(∃ y2 y3 y4,Y=[some (.ref j),some (.bl b),y2,y3,y4,none])/\Nw M0 M' n k q/\M.length<=M'.length /\ ∃ rows',Rw M' j rs rows' N l/\rows'.length=N) ?_ ?_ _ _ ⟨⟨_,_,_,rfl⟩,nw,AF _,zA,rw_,hN⟩
 .rintro i Y M1 hi ⟨⟨y2,y3,y4,rfl⟩,nw1,hM1,rows1,rw1,hr1⟩;refine ⟨_,rfl,?_⟩;show OkS (zS _ _ [some (.ref j),some (.bl b),some (.int (i:Nat)),y3,y4,none] M1) _;rw[zN,zu];refine Gi.mpr (EY.mpr ⟨zd (by simp),Du ?_⟩);rw[zT];let nw2:=nw1.trans (nw1.gen.lst [] rfl);let rw2:=rw1.push [MO.lst ([]:List D)];let⟨p1,p2⟩:=rw1.out (AF M1.length);let hp0:M0.length<=M1.length:=nw1.len;let e2:(M1++[MO.lst ([]:List D)])[M1.length]?=some (.lst []):=FR _ _;let hM2:M.length<=(M1++[MO.lst ([]:List D)]).length:=by rw[AW];omega
  generalize M1++[MO.lst ([]:List D)]=M2 at nw2 rw2 e2 hM2;generalize M1.length=p at p1 p2 hp0 e2;show OkS (zS _ _ [some (.ref j),some (.bl b),some (.int (i:Nat)),some (.ref p),y4,none] M2) _;rw[zN,CK];calc ⟨_,_,_,DI (rw2.len0 rfl) () (),?_⟩;rw[Bt,hr1];refine F9 (n:=N) (I:=λt Y M'=>(∃ y4,Y=[some (.ref j),some (.bl b),some (.int (i:Nat)),some (.ref p),y4,none])/\Nw M0 M' n k q/\M.length<=M'.length/\Rw M' j rs rows1 N l /\ ∃ c:List Int,M'[p]?=some (.lst (c.map D.int))/\c.length=t /\ ∀ x∈c,0<=x/\x<(N:Int)) ?_ ?_ _ _ ⟨⟨_,rfl⟩,nw2,hM2,rw2,[],e2,rfl,λ_ h=>by ext h⟩
  .rintro t Y M3 ht ⟨⟨y4,rfl⟩,nw3,hM3,rw3,c,e3,hc,hx⟩;refine ⟨_,rfl,?_⟩;show OkS (DK _ [some (.ref j),some (.bl b),some (.int (i:Nat)),some (.ref p),some (.int (t:Nat)),none] M3) _;rw[HD];let⟨ev,v0,v1⟩:=rw3.ix (Y:=[some (.ref j),some (.bl b),some (.int (i:Nat)),some (.ref p),some (.int (t:Nat)),none]) (f1:=zC 0) (f2:=zC 4) (f3:=zC 2) (i:=t) (g:=i) rfl rfl rfl () () () ();generalize BE rows1 t i=v at ev v0 v1;let m0:0<=v % ((t:Int)+1):=Int.emod_nonneg _ ();let m1:v % ((t:Int)+1)<(t:Int)+1:=E6 _ ();refine Hh.mpr (DQ.mpr ⟨_,rfl,⟨_,GY e3⟩,?_⟩);refine zL (zM (d:=.int (v % ((t:Int)+1))) (zE ev (zE (x:=.dat (.int (t:Nat))) rfl rfl rfl) (D4 ())) (zW (d:=.int (t:Nat)) rfl)) ?_;refine zL (YB e3 m0 (by rw[AI];omega) (by rw[AI];omega)) ?_;let hpl:p<M3.length:=(AK.mp e3).1;refine ⟨⟨_,rfl⟩,nw3.setB g hp0 ?_,by rw[Cf];exact hM3,rw3.other p1 p2,c.take (v % ((t:Int)+1)).toNat++[(t:Int)]++c.drop (v % ((t:Int)+1)).toNat,?_,by simp;omega,λx hx'=>?_⟩
   .show D.unds _ _=true;rw[<-List.map_take,<-List.map_drop,Mn,Mn,CS,CS];rfl
   .rw[CO hpl];simp
   .simp only[AO,AR]at hx';rcases hx' with (w|w)|w
    .exact hx x (List.mem_of_mem_take w)
    .omega
    .exact hx x (List.mem_of_mem_drop w)
  .rintro Y M3 ⟨⟨y4,rfl⟩,nw3,hM3,rw3,c,e3,hc,hx⟩;rw[zT,CK];refine ⟨_,_,_,DI (rw3.len0 rfl) () (),?_⟩;rw[Bt,hr1];refine F9 (n:=N) (I:=λt Y M'=>(∃ y4,Y=[some (.ref j),some (.bl b),some (.int (i:Nat)),some (.ref p),y4,none])/\Nw M0 M' n k q/\M.length<=M'.length/\(∃ rows',Rw M' j rs rows' N l/\rows'.length=N)/\M'[p]?=some (.lst (c.map D.int))) ?_ ?_ _ _ ⟨⟨_,rfl⟩,nw3,hM3,⟨rows1,rw3,hr1⟩,e3⟩
   .rintro t Y M4 ht ⟨⟨y4,rfl⟩,nw4,hM4,⟨rows4,rw4,hr4⟩,e4⟩;refine ⟨_,rfl,?_⟩;show OkS (FJ _ _ _ [some (.ref j),some (.bl b),some (.int (i:Nat)),some (.ref p),some (.int (t:Nat)),none] M4) _;rw[O6];let hct:t<c.length:=()
    calc zL (a:=.dat (.int c[t])) (zE (x:=.dat (.ref p)) (y:=.dat (.int (t:Nat))) rfl rfl (A8 (BW e4) (Ln (by rw[Ac,AL hct];rfl)))) ?_;rw[zY];let hrs:t<rs.length:=by rw[rw4.len];omega
    calc zL (a:=.dat (.ref rs[t])) (zE (x:=.dat (.ref j)) (y:=.dat (.int (t:Nat))) rfl rfl (A8 (BW rw4.at_) (Ln (by rw[Ac,AL hrs];rfl)))) ?_;calc DQ.mpr ⟨.int (i:Nat),rfl,?_⟩;rw[zY];let⟨x0,x1⟩:=hx c[t] (BF hct);let⟨w,f1,f2,rw5⟩:=rw4.put (g:=i) (AL hrs) x0 x1;let hwl:=(rw4.ok w (BD f1)).1;calc ⟨_,SW f2 (by rw[AI];omega),?_⟩;rw[<-List.map_set];let hrt:rs[t]∈rs:=BF hrs;calc ⟨⟨_,rfl⟩,nw4.setB g (lr _ hrt) (CS _ _),by rw[Cf];calc hM4,⟨_,rw5,by rw[Cf];calc hr4⟩,?_⟩;rw[A6 (λz=>p2 (by rw[<-z];calc hrt))];exact e4
   .rintro Y M4 ⟨⟨y4,rfl⟩,nw4,hM4,h4,e4⟩;exact ⟨⟨_,_,_,rfl⟩,nw4,hM4,h4⟩
 .rintro Y M1 ⟨⟨y2,y3,y4,rfl⟩,nw1,hM1,rows1,rw1,hr1⟩;rw[zT,BJ];calc zL (a:=b) (zi rfl) ?_;cases b with
  |false=>
   rw[AE Ab,BU];calc ⟨rfl,nw1,hM1,rows1,rw1,hr1⟩
  |true=>
   rw[AD rfl];calc CT (d:=.int ((l:Int)-1)) (zE (rw1.row0 () rfl) rfl rfl) ?_;show OkS (FJ _ _ _ [some (.ref j),some (.bl true),y2,y3,y4,some (.int ((l:Int)-1))] M1) _;rw[O6];let⟨ev,v0,v1⟩:=rw1.ix (Y:=[some (.ref j),some (.bl true),y2,y3,y4,some (.int ((l:Int)-1))]) (f1:=zC 0) (f2:=fOp DJ (fB zj (zG (zC 0) zO)) (fC (.int 1))) (f3:=zC 5) (i:=(rows1.length:Int)-1) rfl (zE (rw1.len0 rfl) rfl rfl) rfl () () () ();generalize BE rows1 ((rows1.length:Int)-1) ((l:Int)-1)=v at ev v0 v1;calc zL ev ?_;rw[zY];let hrs:0<rs.length:=by rw[rw1.len];omega
   calc zL (zE rfl rfl (A8 (BW rw1.at_) (Ln (by rw[Ac,AL hrs];rfl)))) ?_;calc DQ.mpr ⟨.int ((l:Int)-1),rfl,?_⟩;rw[zY];let⟨w,f1,f2,rw5⟩:=rw1.put (AL hrs) v0 v1;let hwl:=(rw1.ok w (BD f1)).1;rw[show (l:Int)-1=((l-1:Nat):Int) by omega];calc ⟨_,SW f2 (by rw[AI];omega),?_⟩;rw[<-List.map_set];calc ⟨rfl,nw1.setB g (lr _ (BF hrs)) (CS _ _),by rw[Cf];calc hM1,_,rw5,by rw[Cf];calc hr1⟩
def Vo {M:Mem} {j N l:Nat} {rs:Yj} {zA:Ya} (rw_:Rw M j rs zA N l) (hN:zA.length=N) (hl0:0<l) {room letter style:Int} (r0:0<=room) (r1:room<N) (a0:0<=letter) (a1:letter<l) :
  ∃ v,F8 [.ref j,.int room,.int letter,.int style] M=some (.int v,M)/\0<=v/\v<N:=by
 suffices h:Ok (F8 [.ref j,.int room,.int letter,.int style] M) λd M'=>∃ v,d=.int v/\M'=M/\0<=v/\v<N by
  let⟨d,M',e,v,rfl,rfl,v0,v1⟩:=h;exact ⟨v,e,v0,v1⟩
 erw[F8];rw[Az];erw[NV];calc CT (rw_.len0 rfl) ?_;let⟨ec,c0,c1⟩:=rw_.ix (Y:=[some (.ref j),some (.int room),some (.int letter),some (.int style),some (.int zA.length),none]) (f1:=zC 0) (f2:=fC (.int 0)) (f3:=fC (.int 0)) (i:=0) (g:=0) rfl rfl rfl () () () ();calc CT ec ?_;generalize BE zA 0 0=cut at c0 c1;show OkS (zS _ _ [some (.ref j),some (.int room),some (.int letter),some (.int style),some (.int zA.length),some (.int cut)] M) _;generalize hσ:([some (.ref j),some (.int room),some (.int letter),some (.int style),some (.int zA.length),some (.int cut)]:Sd)=Y;let s0:zC 0 Y M=some (.dat (.ref j),M):=by rw[<-hσ];rfl
 let s1:zC 1 Y M=some (.dat (.int room),M):=by rw[<-hσ];rfl
 let s2:zC 2 Y M=some (.dat (.int letter),M):=by rw[<-hσ];rfl
 let s3:zC 3 Y M=some (.dat (.int style),M):=by rw[<-hσ];rfl
 let s4:zC 4 Y M=some (.dat (.int zA.length),M):=by rw[<-hσ];rfl
 let s5:zC 5 Y M=some (.dat (.int cut),M):=by rw[<-hσ];rfl
 let st:∀ i:Int,tst (fOp kEq (zC 3) (fC (.int i))) Y M=some (decide (style=i),M):=λi=>zi (zE s3 rfl (zH (CM.mpr ⟨rfl,rfl⟩)));let andE:∀ {a b:FT} {x y:Bool},a Y M=some (x,M)->b Y M=some (y,M)->Bw a b Y M=some (x&&y,M):=λ{a b x y} ha hb=>by
  erw[Bw];rw[ha];cases x <;> first|exact hb|rfl
 let lt5:tst (fOp kLt (zC 1) (zC 5)) Y M=some (decide (room<cut),M):=zi (zE s1 s5 (zH (Ih.mpr ⟨rfl,rfl⟩)));let el:tst (fOp kEq (zC 2) (fC (.int 0))) Y M=some (decide (letter=0),M):=zi (zE s2 rfl (zH (CM.mpr ⟨rfl,rfl⟩)));let⟨eg,g0,g1⟩:=rw_.ix s0 s1 s2 r0 () a0 a1;rw[zN,BJ];calc zL (andE (st 4) lt5) ?_;by_cases w4:style=4
 .by_cases wc:room<cut
  .rw[AD (by simp[w4,wc])];calc zc (zE eg s5 (D4 ())) ?_;rw[EJ];have:=Int.emod_nonneg (BE zA room letter) (show cut≠0 by omega);have:=E6 (BE zA room letter) (show 0<cut by omega);exact ⟨_,rfl,rfl,(),()⟩
  .rw[AE (by simp[wc]),BU,zT,zN,BJ];calc zL (st 4) ?_;rw[AD (by simp[w4])];calc zc (zE s5 (zE eg (zE s4 s5 rfl) (D4 ())) rfl) ?_;rw[EJ];have:=Int.emod_nonneg (BE zA room letter) (show (zA.length:Int)-cut≠0 by omega);have:=E6 (BE zA room letter) (show 0<(zA.length:Int)-cut by omega);exact ⟨_,rfl,rfl,(),()⟩
 .rw[AE (by simp[w4]),BU,zT,zN,BJ];refine zL (st 4) ?_;rw[AE (by simp[w4]),BU,zT,zN,BJ];refine zL (andE (st 5) el) ?_;by_cases w5:style=5
  .by_cases wl:letter=0
   .rw[AD (by simp[w5,wl])];calc zc (zE (zE s1 rfl rfl) s4 (D4 ())) ?_;rw[EJ];have:=Int.emod_nonneg (room+1) (show (zA.length:Int)≠0 by omega);have:=E6 (room+1) (show 0<(zA.length:Int) by omega);exact ⟨_,rfl,rfl,(),()⟩
   .rw[AE (by simp[wl]),BU,zT,zN,BJ];refine zL (st 5) ?_;rw[AD (by simp[w5])];obtain ⟨bb,eb⟩:∃ bb,B3 (fOp kEq (zC 2) (fC (.int 1))) (fOp kEq (zC 1) (fOp DJ (zC 4) (fC (.int 1)))) Y M=some (.dat (.bl bb),M):=by
     let e1:fOp kEq (zC 2) (fC (.int 1)) Y M=some (.dat (.bl (decide (letter=1))),M):=zE s2 rfl (zH (CM.mpr ⟨rfl,rfl⟩));let e2:fOp kEq (zC 1) (fOp DJ (zC 4) (fC (.int 1))) Y M=some (.dat (.bl (decide (room=(zA.length:Int)-1))),M):=zE s1 (zE s4 rfl rfl) (zH (CM.mpr ⟨rfl,rfl⟩));exact ⟨_,Cu e1 λ_=>e2⟩
    let e3:BK (zD (toD (zC 1)) (zD (toD (fC (.int 0))) zK)) Y M=some (.fl [.int room,.int 0],M):=by
     erw[BK];rw[zM s1 (zW rfl)];dsimp only;rw[AD (zd (by simp))]
    let e4:fB CA (zG (B3 (fOp kEq (zC 2) (fC (.int 1))) (fOp kEq (zC 1) (fOp DJ (zC 4) (fC (.int 1))))) zO) Y M=some (.dat (.int (if bb then 1 else 0)),M):=by rw[fB1 eb];rfl
    cases bb with
    |true=>calc zc (zE e3 e4 rfl) (by rw[EJ];calc ⟨_,rfl,rfl,(),()⟩)
    |false=>exact zc (zE e3 e4 rfl) (by rw[EJ];calc ⟨_,rfl,rfl,(),()⟩)
  .rw[AE (by simp[w5]),BU,zT,zN,BJ];refine zL (st 5) ?_;rw[AE (by simp[w5]),BU,zT,zN,BJ];refine zL (st 6) ?_;by_cases w6:style=6
   .rw[AD (by simp[w6])];let⟨eg,g0,g1⟩:=rw_.ix (f2:=fC (.int 0)) (i:=0) s0 rfl s2 () () a0 a1;exact zc eg (by rw[EJ];calc ⟨_,rfl,rfl,g0,g1⟩)
   .rw[AE (by simp[w6]),BU,zT];let⟨eg,g0,g1⟩:=rw_.ix (Y:=Y) (f3:=fC (.int 0)) (g:=0) s0 s1 rfl r0 () () ();calc zc eg ⟨_,rfl,rfl,g0,g1⟩
def cS {M:Mem} {n k q:Nat} (h:Gen M n k q) {own:Yj} {i:Nat} {f te:FE} {Y:Sd} {cnt:Nat} {lo hi:Int} (c1:cnt<=90000) (hf:f Y M=some (.dat (.int cnt),M))
  (ht:∀ (r:Nat) (M':Mem),r<cnt->Nw M M' n k (q+r)->M'.length=M.length->Ok (te ((Bi own Y).set i (some (.int r))) M') λx M''=>∃ v:Int,x=.dat (.int v)/\lo<=v/\v<hi/\Nw M' M'' n k (q+r+1)/\M''.length=M'.length) :
  Ok (Ae own (BG (zD (toD f) zK)) (gN i) zo te Y M) λx M'=>(∃ c:List Int,x=.fl (c.map D.int)/\c.length=cnt /\ ∀ y∈c,lo<=y/\y<hi)/\Nw M M' n k (q+cnt)/\M'.length=M.length:=by
 calc Ga.mpr ⟨_,_,_,DI hf () (),by rw[Gy];calc zd (),?_⟩;rw[Bt];refine Ok.mono (JW (n:=cnt) (I:=λj acc M2=>(∃ c:List Int,acc=c.map D.int/\c.length=j /\ ∀ y∈c,lo<=y/\y<hi)/\Nw M M2 n k (q+j)/\M2.length=M.length) ?_ ⟨⟨[],rfl,rfl,λ_ h=>by ext h⟩,Nw.refl h,rfl⟩) ?_
 .rintro j acc M2 hj ⟨⟨c,rfl,hcl,hc⟩,nx,hl⟩;refine ⟨_,rfl,?_⟩;refine Ok.mono (ht j M2 hj nx hl) ?_;rintro x M3 ⟨v,rfl,v0,v1,nx3,hl3⟩;rw[zY];refine ⟨⟨c++[v],by simp,by simp[hcl],λz hz=>?_⟩,nx.trans nx3,hl3.trans hl⟩;rcases AO.mp hz with q|q
  .exact hc z q
  .have:z=v:=by simpa using q
   subst this;exact ⟨v0,v1⟩
 .rintro ys M2 ⟨⟨c,rfl,hcl,hc⟩,nx,hl⟩;calc ⟨⟨c,rfl,hcl,hc⟩,nx,hl⟩
def Rw.add (h:Rw M j rs zA n l) (hw:w.length=l /\ ∀ x∈w,0<=x/\x<(n:Int)) :
  Rw ((M++[MO.lst (w.map D.int)]).set j (.lst ((rs++[M.length]).map D.ref))) j (rs++[M.length]) (zA++[w]) n l:=by
 let hj:=(AK.mp h.at_).1;let hr:=h.refs;refine ⟨by rw[CO (by rw[AW];omega)],by simp[h.len],λi r e=>?_,?_,λz=>?_,λv hv=>?_⟩
 .have hne:j≠r:=λz=>by
   subst z;rcases AO.mp (BD e)with z|z
   .exact h.hj z
   .have:j=M.length:=by simpa using z
    omega
  rw[A6 hne];by_cases hi:i<rs.length
  .rw[AY hi]at e;let⟨v,e1,e2⟩:=h.row i r e;exact ⟨v,by rw[AY (by rw[<-h.len];calc hi)];calc e1,by rw[AY (hr r (BD e))];calc e2⟩
  .have hi2:i=rs.length:=by
    have:=(AK.mp e).1;rw[AW]at this;simp at this;omega
   subst hi2;simp at e;subst e;exact ⟨w,by rw[h.len];simp,by simp⟩
 .rw[EG];refine ⟨h.nd,by simp,λa ha b hb z=>?_⟩;have:b=M.length:=by simpa using hb
  have:=hr a ha;omega
 .rcases AO.mp z with z|z
  .exact h.hj z
  .have:j=M.length:=by simpa using z
   omega
 .rcases AO.mp hv with z|z
  .exact h.ok v z
  .have:v=w:=by simpa using z
   subst this;calc hw
def Rw.out_eq (h:Rw M j rs zA n l) (hz:zA.length<=100000) (hσ:(Bi [9] Y).length=10) (h6:zC 6 Y M=some (.dat (.ref j),M)) :
  fB zt (zG (Ae [9] (Am (zC 6)) (gN 9) zo (fB zt (zG (zC 9) zO))) zO) Y M=some (.dat (mD zA),M):=by
 let hrl:∀ (i:Nat) (hi:i<rs.length),∃ w,zA[i]?=some w/\M[rs[i]]?=some (.lst (w.map D.int)):=λi hi=>h.row i rs[i] (AL hi);calc EA ?_ F5;have:=F4 (own:=[9]) (fi:=Am (zC 6)) (g:=gN 9) (te:=fB zt (zG (zC 9) zO)) (Y:=Y) (gd:=IS (.dat (.ref j)) (rs.map D.ref)) rs D.ref (λr=> .tup ((match M[r]? with|some (.lst xs)=>xs|_=>[]))) (EW h6 (BW h.at_)) (by erw[Br,IS];calc .inl h.at_) (by rw[h.len];calc hz) λr hr=>?_
 .rw[this];refine Bo (λz=>some (EV.fl z,M)) ?_;apply List.ext_getElem?;intro i;rw[Ac,Ac];by_cases hi:i<rs.length
  .obtain ⟨w,e1,e2⟩:=hrl i hi;rw[AL hi,e1];show some (D.tup _)=some (D.tup _);rw[e2]
  .rw[E4 (),E4 (by rw[<-h.len];omega)];rfl
 .obtain ⟨i,hi⟩:=List.getElem?_of_mem hr;let⟨w,e1,e2⟩:=h.row i r hi;refine ⟨(Bi [9] Y).set 9 (some (.ref r)),rfl,EA (x:=.dat (.ref r)) ?_ ?_⟩
  .unfold zC;rw[CO ()]
  .rw[BW e2,e2]
def bT {M:Mem} {n k q:Nat} {most upto:Int} (h:Gen M n k q) (hq:q<900000000) (m0:0<most) (m1:most<=30) (u0:0<upto) (u1:upto<=30) :
  Ok (IY [.ref n,.int most,.int upto] M) λd M'=>(∃ zA l,d=mD zA/\IsM zA l/\(zA.length:Int)<=most/\(l:Int)<=upto)/\Nw M M' n k (q+1000)/\M'.length=M.length:=by
 let⟨hn,hk⟩:=h.lt;erw[IY];suffices hh:Ok (AS 10 Ju [.ref n,.int most,.int upto] M) λd M'=>(∃ zA l,d=mD zA/\IsM zA l/\(zA.length:Int)<=most/\(l:Int)<=upto)/\Nw M M' n k (q+1000) by
  calc Mh (Ok.mono hh ?_);rintro d M1 ⟨⟨zA,l,rfl,r⟩,nw⟩;exact ⟨⟨E1 _,nw.len,nw.wf0 h⟩,⟨zA,l,rfl,r⟩,nw.trim h,by rw[Bp];have:=nw.len;omega⟩
 rw[Az];erw[Ju];rw[zN,zu];refine ID.mpr (Gv.mpr (Ea h () rfl rfl m0 () λi1 M1 a0 a1 nw1 hl1=>KL.mpr ?_));rw[zY,zT];let⟨N,eN⟩:=Int.eq_ofNat_of_zero_le (show 0<=1+i1 by omega);rw[eN];let hN0:0<N:=()
 let hN1:(N:Int)<=most:=()
 rw[zN,zu];refine ID.mpr (Gv.mpr (Ea nw1.gen () rfl rfl u0 () λi2 M2 b0 b1 nw2 hl2=>KL.mpr ?_));rw[zY,zT];let⟨l,el⟩:=Int.eq_ofNat_of_zero_le (show 0<=1+i2 by omega);rw[el];let hl0:0<l:=()
 let hl9:(l:Int)<=upto:=()
 rw[zN,zu];refine Ea nw2.gen () rfl rfl () () λs M3 s0 s1 nw3 hl3=>?_;rw[zY,zT];rw[zN,zu];calc Gi.mpr (EY.mpr ⟨zd (by simp),Du ?_⟩);rw[zT];let nwA:=(nw1.trans nw2).trans nw3;let nw4:=nwA.trans (nw3.gen.lst [] rfl);let lj:M.length<=M3.length:=nwA.len;let rw4:Rw (M3++[MO.lst ([]:List D)]) M3.length [] [] N l:=⟨FR _ _,rfl,λi r e=>by simp at e,List.nodup_nil,by simp,λ_ h=>by ext h⟩;generalize M3++[MO.lst ([]:List D)]=M4 at nw4 rw4;generalize M3.length=j at lj rw4;rw[zN,CK];calc ⟨_,_,_,DI rfl () (),?_⟩;rw[Bt];refine F9 (n:=N) (I:=λi Y M'=>(∃ y7,Y=[some (.ref n),some (.int most),some (.int upto),some (.int (N:Nat)),some (.int (l:Nat)),some (.int s),some (.ref j),y7,none,none])/\Nw M M' n k (q+3+30*i) /\ ∃ rs zA,Rw M' j rs zA N l/\zA.length=i /\ ∀ r∈rs,M.length<=r) ?_ ?_ _ _ ⟨⟨_,rfl⟩,nw4.mono (),[],[],rw4,rfl,λ_ h=>by ext h⟩
 .rintro i Y M5 hi ⟨⟨y7,rfl⟩,nw5,rs,zA,rw5,hr5,lr⟩;refine ⟨_,rfl,?_⟩;rw[HD];refine Hh.mpr (DQ.mpr ⟨_,rfl,⟨_,GY rw5.at_⟩,Fi.mpr (Cv.mpr ?_)⟩);refine Ok.mono (cS nw5.gen () rfl λr M' hr nwr hlr=>Ea nwr.gen () rfl rfl () () λv M2 v0 v1 nx hl=>⟨v,rfl,v0,v1,nx,hl⟩) ?_;rintro x M6 ⟨⟨c,rfl,hcl,hc⟩,nw6,hl6⟩;refine Du ?_;let jn:j≠n:=()
  let jk:j≠k:=()
  let rw6:Rw M6 j rs zA N l:=by
   let kp:∀ {i:Nat} {u:MO},M.length<=i->M5[i]?=some u->M6[i]?=some u:=λ{i u} hi e=>nw6.get e () ();exact ⟨kp lj rw5.at_,rw5.len,λi r e=>let ⟨w,e1,e2⟩:=rw5.row i r e;⟨w,e1,kp (lr r (BD e)) e2⟩,rw5.nd,rw5.hj,rw5.ok⟩
  let rw7:=rw6.add ⟨hcl,hc⟩;let e7:(M6++[MO.lst (c.map D.int)])[j]?=some (.lst (rs.map D.ref)):=by rw[AY (AK.mp rw6.at_).1];exact rw6.at_
  calc zL rfl ?_;rw[Je e7 (by rw[AI,rw6.len,hr5];calc A0 () (zd ()))];let nw8:=(nw5.trans nw6).trans (nw6.gen.lst (c.map D.int) (CS _ _));let lM:M.length<=M6.length:=(nw5.trans nw6).len;rw[show rs.map D.ref++[D.ref M6.length]=(rs++[M6.length]).map D.ref by rw[Cg];rfl];refine ⟨⟨_,rfl⟩,(nw8.setB h lj ?_).mono (),_,_,rw7,by simp[hr5],λr hr=>?_⟩
  .refine GH λx hx=>?_;let⟨r,hr,rfl⟩:=Ak.mp hx;erw[D.und];rw[DD,AW,Eb];rcases AO.mp hr with z|z
   .have:=rw6.refs r z;omega
   .have:r=M6.length:=by simpa using z
    omega
  .rcases AO.mp hr with z|z
   .exact lr r z
   .have:r=M6.length:=by simpa using z
    omega
 .rintro Y M5 ⟨⟨y7,rfl⟩,nw5,rs,zA,rw5,hr5,lr⟩;rw[zT,zN,BJ];let fin:∀ (M7:Mem) (j:Nat) (rs:Yj) (zA:Ya) (y7:Option D),Rw M7 j rs zA N l->zA.length=N->Nw M M7 n k (q+1000)->OkS (zg (fB zt (zG (Ae [9] (Am (zC 6)) (gN 9) zo (fB zt (zG (zC 9) zO))) zO)) [some (.ref n),some (.int most),some (.int upto),some (.int (N:Nat)),some (.int (l:Nat)),some (.int s),some (.ref j),y7,none,none] M7) (λo Y M'=>match o with|.ret d=>(∃ zA l,d=mD zA/\IsM zA l/\(zA.length:Int)<=most/\(l:Int)<=upto)/\Nw M M' n k (q+1000)|_=>False):=λM7 j rs zA y7 rw7 hr7 nw7=>
   zc (rw7.out_eq () rfl rfl) ⟨⟨zA,l,rfl,⟨(),hl0,λw hw=>⟨(rw7.ok w hw).1,λx hx=>by have:=(rw7.ok w hw).2 x hx;omega⟩⟩,(),hl9⟩,nw7⟩
  let last:∀ (M7:Mem) (j:Nat) (rs:Yj) (zA:Ya) (y7:Option D) (P:Out->Sd->Mem->Prop),(∀ d Y M',((∃ zA l,d=mD zA/\IsM zA l/\(zA.length:Int)<=most/\(l:Int)<=upto)/\Nw M M' n k (q+1000))->P (.ret d) Y M')->Rw M7 j rs zA N l->zA.length=N->Nw M M7 n k (q+1000)->OkS (zg (fB zt (zG (Ae [9] (Am (zC 6)) (gN 9) zo (fB zt (zG (zC 9) zO))) zO)) [some (.ref n),some (.int most),some (.int upto),some (.int (N:Nat)),some (.int (l:Nat)),some (.int s),some (.ref j),y7,none,none] M7) P:=λM7 j rs zA y7 P hP rw7 hr7 nw7=>by
   calc OkS.mono (fin M7 j rs zA y7 rw7 hr7 nw7) ?_;rintro o Y M' z;cases o with
   |ret d=>calc hP d Y M' z
   |nx=>calc z.elim
   |cnt=>calc z.elim
   |brk=>exact z.elim
  let mid:∀ (M6:Mem) (zA:Ya) (P:Out->Sd->Mem->Prop),(∀ d Y M',((∃ zA l,d=mD zA/\IsM zA l/\(zA.length:Int)<=most/\(l:Int)<=upto)/\Nw M M' n k (q+1000))->P (.ret d) Y M')->Rw M6 j rs zA N l->zA.length=N->Nw M M6 n k (q+1000)->OkS (zS (sIf (tst (fOp kGt (zC 5) (fC (.int 3)))) (AN 6 (Ae [7] (BG (zD (toD (zC 3)) zK)) (gN 7) zo (Ae [8] (BG (zD (toD (zC 4)) zK)) (gN 8) zo (zR F8 (zD (toD (zC 6)) (zD (toD (zC 7)) (zD (toD (zC 8)) (zD (toD (zC 5)) zK)))))))) AV)
    (zg (fB zt (zG (Ae [9] (Am (zC 6)) (gN 9) zo (fB zt (zG (zC 9) zO))) zO))) [some (.ref n),some (.int most),some (.int upto),some (.int (N:Nat)),some (.int (l:Nat)),some (.int s),some (.ref j),y7,none,none] M6) P:=λM6 zA P hP rw6 hr6 nw6=>by
   rw[zN,BJ];calc zL (zi (zE (y:=.dat (.int 3)) rfl rfl (zH (Mp.mpr ⟨rfl,rfl⟩)))) ?_;by_cases ws:(3:Int)<s
   .rw[AD (~~~ws),zu];refine Ga.mpr ⟨_,_,_,DI (j:=(N:Nat)) rfl () (),by rw[Gy];exact zd (),?_⟩;rw[Bt];refine Ok.mono (JW (n:=N) (I:=λt acc M2=>∃ rs2 rows2,acc=List.map D.ref rs2/\rs2.length=t/\rows2.length=t/\(∀ (i r:Nat),rs2[i]?=some r -> ∃ w:List Int,rows2[i]?=some w/\M2[r]?=some (.lst (w.map D.int)))/\rs2.Nodup/\(∀ r∈rs2,r<M2.length)/\(∀ w∈rows2,w.length=l /\ ∀ x∈w,0<=x/\x<(N:Int))/\Nw M M2 n k (q+1000)/\Rw M2 j rs zA N l) ?_ ⟨[],[],rfl,rfl,rfl,λi r e=>by simp at e,List.nodup_nil,λ_ h=>(by ext h),λ_ h=>(by ext h),nw6,rw6⟩) ?_
    .rintro t acc M2 ht ⟨rs2,rows2,rfl,h1,h2,h3,h4,h5,h6,nwt,rwt⟩;refine ⟨_,rfl,?_⟩;refine Ga.mpr ⟨_,_,_,DI (j:=(l:Nat)) rfl () (),by rw[Gy];exact zd (),?_⟩;rw[Bt];refine Ok.mono (JW (n:=l) (I:=λa acc M3=>M3=M2 /\ ∃ c:List Int,acc=c.map D.int/\c.length=a /\ ∀ x∈c,0<=x/\x<(N:Int)) ?_ ⟨rfl,[],rfl,rfl,λ_ h=>(by ext h)⟩) ?_
     .rintro a acc M3 ha ⟨rfl,c,rfl,hc1,hc2⟩;refine ⟨_,rfl,?_⟩;let⟨v,ev,v0,v1⟩:=Vo rwt hr6 hl0 (room:=(t:Nat)) (letter:=(a:Nat)) (style:=s) () () () ();refine zL (zV (zM rfl (zM rfl (zM rfl (zW rfl)))) ev) ?_;rw[zY];refine ⟨rfl,c++[v],by simp,by simp[hc1],λx hx=>?_⟩;rcases AO.mp hx with z|z
      .exact hc2 x z
      .have:x=v:=by simpa using z
       subst this;exact ⟨v0,v1⟩
     .rintro ys M3 ⟨rfl,c,rfl,hc1,hc2⟩;refine Du ?_;refine ⟨rs2++[M3.length],rows2++[c],by simp,by simp[h1],by simp[h2],λi r e=>?_,?_,λr hr=>?_,λw hw=>?_,nwt.trans (nwt.gen.lst _ (CS _ _)),rwt.push _⟩
      .by_cases hi:i<rs2.length
       .rw[AY hi]at e;let⟨v,e1,e2⟩:=h3 i r e;exact ⟨v,by rw[AY ()];calc e1,by rw[AY (h5 r (BD e))];calc e2⟩
       .have hi2:i=rs2.length:=by
         have:=(AK.mp e).1;rw[AW]at this;simp at this;omega
        subst hi2;simp at e;subst e;exact ⟨c,by rw[h1,<-h2];simp,by simp⟩
      .rw[EG];refine ⟨h4,by simp,λa ha b hb z=>?_⟩;have:b=M3.length:=by simpa using hb
       have:=h5 a ha;omega
      .rw[AW,Eb];rcases AO.mp hr with z|z
       .have:=h5 r z;omega
       .have:r=M3.length:=by simpa using z
        omega
      .rcases AO.mp hw with z|z
       .exact h6 w z
       .have:w=c:=by simpa using z
        subst this;exact ⟨hc1,hc2⟩
    .rintro ys M2 ⟨rs2,rows2,rfl,h1,h2,h3,h4,h5,h6,nwt,rwt⟩;refine Du ?_;rw[zT];refine last _ M2.length rs2 rows2 y7 P hP ⟨FR _ _,(),λi r e=>?_,h4,λz=>absurd (h5 _ z) (BY _),h6⟩ h2 (nwt.trans (nwt.gen.lst _ ?_))
     .obtain ⟨w,e1,e2⟩:=h3 i r e;exact ⟨w,e1,by rw[AY (h5 r (BD e))];calc e2⟩
     .refine GH λx hx=>?_;let⟨r,hr,rfl⟩:=Ak.mp hx;erw[D.und];rw[DD];exact h5 r hr
   .rw[AE (~~~ws),BU,zT];exact last M6 j rs zA y7 P hP rw6 hr6 nw6
  calc zL (zi (zE (x:=.dat (.int s)) (y:=.dat (.int 3)) rfl rfl (zH (CM.mpr ⟨rfl,rfl⟩)))) ?_;let hP:∀ (d:D) (Y:Sd) (M':Mem),((∃ zA l,d=mD zA/\IsM zA l/\(zA.length:Int)<=most/\(l:Int)<=upto)/\Nw M M' n k (q+1000))->(∃ zA l,d=mD zA/\IsM zA l/\(zA.length:Int)<=most/\(l:Int)<=upto)/\Nw M M' n k (q+1000):=λ_ _ _ h=>h;by_cases w3:s=3
  .rw[AD (~~~w3),HD];let eqv:Ok (fOp kEq (zR zb (zD (toD (zC 0)) (zD (toD (fC (.int 2))) zK))) (fC (.int 1)) [some (.ref n),some (.int most),some (.int upto),some (.int (N:Nat)),some (.int (l:Nat)),some (.int s),some (.ref j),y7,none,none] M5) λx M6=>(∃ b,x=.dat (.bl b))/\Nw M5 M6 n k (q+3+30*N+1)/\M6.length=M5.length :=
    ID.mpr (Ea nw5.gen () rfl rfl () () λv M6 v0 v1 nx hl=>Gv.mpr (CM.mpr ⟨⟨_,rfl⟩,nx,hl⟩))
   let⟨x,M6,ex,⟨b,rfl⟩,nx6,hl6⟩:=eqv;let jn:j≠n:=()
   let rw6:Rw M6 j rs zA N l:=by
    let kp:∀ {i:Nat} {u:MO},M.length<=i->M5[i]?=some u->M6[i]?=some u:=λ{i u} hi e=>nx6.get e () ();exact ⟨kp lj rw5.at_,rw5.len,λi r e=>let ⟨w,e1,e2⟩:=rw5.row i r e;⟨w,e1,kp (lr r (BD e)) e2⟩,rw5.nd,rw5.hj,rw5.ok⟩
   let nw6:=nw5.trans nx6;calc Fu.mpr (Fi.mpr (Cv.mpr (DQ.mpr ⟨_,rfl,?_⟩)));rw[zY,Fi,Cv];calc zL ex ?_;rw[zY,EY];calc Ok.mono (WN h nw6 rw6 hr5 hN0 () hl0 () lj lr) ?_;rintro d M7 ⟨rfl,nw7,_,rows7,rw7,hr7⟩;rw[zT];exact mid M7 rows7 _ hP rw7 hr7 (nw7.mono ())
  .rw[AE (~~~w3),BU,zT];calc mid M5 zA _ hP rw5 hr5 (nw5.mono ())
def JL:FS:=(zS (sIf (tst (fOp kEq (zR zb (zD (toD (zC 0)) (zD (toD (fC (.int 3))) zK))) (fC (.int 0)))) (zg (JQ (zC 1))) AV)
  (zS (AN 2 (Ae [3] (BG (zD (toD (zC 1)) zK)) (gN 3) (tst (fOp kEq (zR zb (zD (toD (zC 0)) (zD (toD (fC (.int 2))) zK))) (fC (.int 1)))) (zC 3)))
  (zS (sIf (tst (fOp kEq (fB zj (zG (zC 2) zO)) (fC (.int 0)))) (AN 2 (BK (zD (toD (zR zb (zD (toD (zC 0)) (zD (toD (zC 1)) zK)))) zK))) AV)
  (zg (fB zt (zG (zC 2) zO))))))
def HP:FF:=EE (AS 4 JL)
def cY (R:Nat):upD R=((List.range R).map λ(k:Nat)=>(k:Int)).map D.int:=by
 erw[upD];rw[BH];rfl
def R4 {M:Mem} {n k q:Nat} {R:Nat} (h:Gen M n k q) (hq:q<900000000) (r0:0<R) (r1:R<=1000) :
  Ok (HP [.ref n,.int R] M) λd M'=>(∃ S,d=tI S/\S.Pairwise (· < ·)/\0<S.length /\ ∀ x∈S,0<=x/\x<(R:Int))/\Nw M M' n k (q+1002)/\M'.length=M.length:=by
 let⟨hn,hk⟩:=h.lt;erw[HP];suffices hh:Ok (AS 4 JL [.ref n,.int R] M) λd M'=>(∃ S,d=tI S/\S.Pairwise (· < ·)/\0<S.length /\ ∀ x∈S,0<=x/\x<(R:Int))/\Nw M M' n k (q+1002) by
  calc Mh (Ok.mono hh ?_);rintro d M1 ⟨⟨S,rfl,r⟩,nw⟩;exact ⟨⟨ES S,nw.len,nw.wf0 h⟩,⟨S,rfl,r⟩,nw.trim h,by rw[Bp];have:=nw.len;omega⟩
 rw[Az];erw[JL];show OkS (zS _ _ [some (.ref n),some (.int R),none,none] M) _;rw[zN,BJ];refine Qi.mpr (ID.mpr (Ea h () rfl rfl () () λi M1 i0 i1 nw1 hl1=>Gv.mpr (CM.mpr (Gp.mpr ?_))));by_cases hi:i=0
 .rw[AD (~~~hi)];refine zc (d:=tI ((List.range R).map λ(k:Nat)=>(k:Int))) ?_ ?_
  .unfold JQ zC;dsimp only[List.getElem?_cons_succ,List.getElem?_cons_zero];rw[AD ⟨(),()⟩,Bt,cY];rfl
  .rw[EJ];refine ⟨⟨_,rfl,?_,by simp;omega,λx hx=>?_⟩,nw1.mono ()⟩
   .rw[List.pairwise_map];exact List.pairwise_lt_range.imp λ{a b} h=>()
   .obtain ⟨y,hy,rfl⟩:=Ak.mp hx;have:=Ey.mp hy;omega
 .rw[AE (~~~hi),BU,zT,zN,zu];refine Ga.mpr ⟨_,_,_,DI rfl () (),by rw[Gy];exact zd (),?_⟩;rw[Bt];refine Ok.mono (IP (I:=λr acc M2=>∃ t,t<=R/\r=DR t (R-t)/\(∃ c:List Int,acc=c.map D.int/\c.Pairwise (· < ·) /\ ∀ x∈c,0<=x/\x<(t:Int))/\Nw M M2 n k (q+1+t)/\M2.length=M.length) (Q:=λacc M2=>(∃ c:List Int,acc=c.map D.int/\c.Pairwise (· < ·) /\ ∀ x∈c,0<=x/\x<(R:Int))/\Nw M M2 n k (q+1+R)/\M2.length=M.length) ?_ ?_ _ [] _ ⟨0,Bv _,by simp,⟨[],rfl,List.Pairwise.nil,λ_ h=>by ext h⟩,nw1,hl1⟩) ?_
  .rintro x r acc M2 ⟨t,ht,e,⟨c,rfl,hp,hx⟩,nw2,hl2⟩;let hlt:t<R:=by
    rcases Cw t R with z|z
    .exact z
    .rw[show R-t=0 by omega]at e;ext e
   rw[show R-t=(R-(t+1))+1 by omega]at e;let⟨rfl,rfl⟩:=Cb e;calc ⟨zq,_,rfl,?_⟩;refine Qi.mpr (ID.mpr (Ea nw2.gen () rfl rfl () () λi M3 i0 i1 nw3 hl3=>Gv.mpr (CM.mpr (Gp.mpr ?_))));let nwt:=nw2.trans nw3;by_cases h1:i=1
   .rw[AD (~~~h1)];refine DQ.mpr ⟨.int (t:Nat),rfl,?_⟩;rw[zY];refine ⟨t+1,hlt,rfl,⟨c++[(t:Int)],by simp,?_,λx hx'=>?_⟩,nwt.mono (),hl3.trans hl2⟩
    .rw[List.pairwise_append];refine ⟨hp,by simp,λa ha b hb=>?_⟩;let h1:=hx a ha;let h2:b=(t:Int):=by simpa using hb
     omega
    .rcases AO.mp hx' with z|z
     .have:=hx x z;omega
     .have:x=(t:Int):=by simpa using z
      omega
   .rw[AE (~~~h1)];exact ⟨t+1,hlt,rfl,⟨c,rfl,hp,λx hx'=>by have:=hx x hx';omega⟩,nwt.mono (),hl3.trans hl2⟩
  .rintro acc M2 ⟨t,ht,e,⟨c,rfl,hp,hx⟩,nw2,hl2⟩;have:t=R:=by
    rcases Cw t R with z|z
    .rw[show R-t=(R-(t+1))+1 by omega]at e;ext e
    .omega
   subst this;exact ⟨zq,⟨c,rfl,hp,hx⟩,nw2,hl2⟩
  .rintro ys M2 ⟨⟨c,hc,hp,hx⟩,nw2,hl2⟩;rw[List.nil_append]at hc;subst hc;refine Du ?_;rw[zT];let nw3:=nw2.trans (nw2.gen.lst (c.map D.int) (CS _ _));let e3:(M2++[MO.lst (c.map D.int)])[M2.length]?=some (.lst (c.map D.int)):=FR _ _;let hj:M.length<=M2.length:=nw2.len;generalize M2++[MO.lst (c.map D.int)]=M3 at nw3 e3;generalize M2.length=j at e3 hj;rw[zN,BJ];refine zL (zi (zE (Kt rfl e3) rfl (zH (CM.mpr ⟨rfl,rfl⟩)))) ?_;by_cases hz:c=[]
   .subst hz;rw[AD (by simp),zu];refine Gi.mpr (Fi.mpr (Cv.mpr (Ea nw3.gen () rfl rfl () () λi M4 i0 i1 nw4 hl4=>?_)));rw[zY];refine EY.mpr ⟨zd (by simp),Du ?_⟩;rw[zT];let e4:(M4++[MO.lst [D.int i]])[M4.length]?=some (.lst ([i].map D.int)):=FR _ _;refine zc (EA rfl (BW e4)) ⟨⟨[i],rfl,by simp,by simp,λx hx=>?_⟩,((nw3.trans nw4).trans (nw4.gen.lst _ rfl)).mono ()⟩;have:x=i:=by simpa using hx
    omega
   .have hl:0<c.length:=List.length_pos_iff.mpr hz;rw[AE (by simp;calc hz),BU,zT];exact zc (EA rfl (BW e3)) ⟨⟨c,rfl,hp,hl,hx⟩,nw3.mono ()⟩
open Lac (dT BR zf BO C7 Cn GO dgT Ci DH Dy)
def dY {S:Ye} (h:∀ x∈S,0<=x/\x<n):((S.map D.int).map (DB n)).all id=true:=by
 rw[Aj];intro b hb;rw[BH]at hb;let⟨x,hx,rfl⟩:=Ak.mp hb;have:=h x hx;show (decide (0<=x)&&decide (x<n))=true;rw[Ap this.1,Ap this.2];rfl
def ntE (e:f Y M=some (.dat (.bl k),M)):B0 (tst f) Y M=some (!k,M):=zH (PM.mpr (zL (zi e) ⟨rfl,rfl⟩))
open Lac (dT BR zf BO C7 Cn GO dgT Ci DH Dy)
section
variable {zA:Ya} {l:Nat} {R:Ye}
theorem OI (LL:List (List (List Int))):∀ {as:List (List (List Int))} {n:Nat},(∀ (k:Nat) L,as[k]?=some L -> ∀ S∈L,EI zA l LL S (((n+k:Nat):Int)+1)=true)->GF zA l LL n as=true
 |[],n,_=>rfl
 |L0::r,n,h=>by
  erw[GF];rw[Au];refine ⟨Aj.mpr λS hS=>h 0 L0 rfl S hS,OI LL λk L e S hS=>?_⟩;rw[show (n+1)+k=n+(k+1) by omega];calc h (k+1) L e S hS
end
open Lac (Dy)
def VF (i:Int):Vd M (.int i):=by erw[Vd];trivial
def Xq (hz:ds.length<=100000) (h:∀ d∈ds,Vd M d):Vd M (.tup ds):=by
 erw[Vd];calc ⟨hz,Vds.of h⟩
def aD {f:FE} {g:FA} {Y:Sd} {M M1 M2:Mem} {d:D} {ds:List D} (h:f Y M=some (.dat d,M1)) (hg:g Y M1=some (ds,M2)):zD (toD f) g Y M=some (d::ds,M2):=by
 erw[zD,toD];rw[h];dsimp only;rw[hg]
def Qe {g:FA} {Y:Sd} {M M1:Mem} {ds:List D} (h:g Y M=some (ds,M1)) (hz:ds.length<=100000):Bk g Y M=some (.dat (.tup ds),M1):=by
 erw[Bk];rw[h];dsimp only;rw[AD (zd hz)]
structure Lv0 (zA:Ya) (LL:List (List (List Int))):Prop where
 st:∀ L∈LL,∀ S∈L,IsS zA S
 len:LL.length<=1000
 each:∀ L∈LL,L.length<=600
section
variable {zA:Ya} {l:Nat} {R:Ye} {LL:List (List (List Int))}
def Lv0.ok (h:Lv0 zA LL):KQ zA LL:=⟨h.st,by have:=h.len;omega,λL hL=>by have:=h.each L hL;omega⟩
def iW (h:S.length<=100000):Vd M (tI S):=Xq (by rw[AI];exact h) λd hd=>by
 let⟨i,_,rfl⟩:=Ak.mp hd;calc VF i
end
section
variable {zA:Ya} {l:Nat} {R:Ye} {LL:List (List (List Int))}
variable {M A:Mem} {q j B c:Nat} {rs:Yj}
variable {y4 y5:Option D} {w k:Int}
def GX {a b:FT} {Y:Sd} {k:Bool} (ha:a Y A=some (true,A)) (hb:b Y A=some (k,A)):Bw a b Y A=some (k,A):=by erw[Bw];rw[ha];calc hb
def Hb (ha:a Y A=some (false,A)):Bw a b Y A=some (false,A):=by erw[Bw];rw[ha]
def eB {c:FT} {a b:FS} {Y:Sd} {P:Out->Sd->Mem->Prop} (h:c Y A=some (true,A)) (p:OkS (a Y A) P):OkS (sIf c a b Y A) P:=by
 rw[BJ];calc zL h (by rw[AD rfl];calc p)
end
section
variable {zA:Ya} {l:Nat} {R:Ye} {LL:List (List (List Int))}
def Wo {Y:Sd} {M M1:Mem} {f:FE} {j:Int} (e:f Y M=some (.dat (.int j),M1)) (h1:0<=j) (h2:j<2 ^ 62):BG (zD (toD f) zK) Y M=some (DR 0 j.toNat,none,M1):=by
 let e':(zD (toD f) zK) Y M=some ([.int j],M1):=by erw[zD,toD,zK];rw[e]
 rw[Q8 e' h1 h2,Mr]
theorem SK (m:IsM zA l) (h9:zA.length<=9):∀ (n:Nat) {seen:Ya} {level:Lvl} {acc:List (List (List Int))} {r:Option (List Int) × List (List (List Int))},Met zA seen level->acc.flatten.length+level.length<=seen.length->(∀ L∈acc,∀ t∈L,IsS zA t)->run zA l due n seen level acc=some r->(∀ L∈r.2,∀ t∈L,IsS zA t)/\r.2.flatten.length<=512
 |0,_,_,_,_,_,_,_,h=>by ext h
 |n+1,seen,level,acc,r,mt,hz,ha,h=>by
  let hl:=Hw mt.nd mt.st h9;erw[run]at h;cbv at h
  .cases h;exact ⟨ha,by show acc.flatten.length<=512;omega⟩
  .split at h
   .cases h;exact ⟨ha,by show acc.flatten.length<=512;omega⟩
   .have g:=mt.next m;refine SK m h9 n g.met ?_ (λL hL=>?_) h
    .rw[g.eq,List.flatten_append,AW,AW,AI,List.flatten_singleton,AI];omega
    .rcases AO.mp hL with z|z
     .exact ha L z
     .rw[AR.mp z];intro t ht;let⟨p,hp,rfl⟩:=Ak.mp ht;calc mt.lv p hp
theorem OG:∀ {LL:List (List (List Int))} {L:Ya},L∈LL->L.length<=LL.flatten.length
 |K::r,L,h=>by
  rw[D6,AW];rcases AJ.mp h with z|z
  .rw[z];omega
  .have:=OG z;omega
theorem Mk:∀ (LL:List (List (List Int))),(LL.map Av).flatten.length=LL.flatten.length
 |[]=>rfl
 |L::r=>by rw[Af,D6,D6,AW,AW,Mk r,(Fe L).length_eq]
def mK (m:IsM zA l) (h9:zA.length<=9) (sR:IsS zA R) (hr:run zA l due 1000 [R] [(R,[])] []=some r):shD r.2=shT (r.2.map Av)/\Lv0 zA (r.2.map Av)/\(r.2.map Av).flatten.length<=512:=by
 let mt:Met zA [R] [(R,[])]:=⟨by simp,λS hS=>by rw[AR.mp hS];exact sR,λp hp=>by rw[AR.mp hp];calc sR⟩;let⟨hs,ht⟩:=SK m h9 1000 mt (by simp) (λ_ h=>by ext h) hr;let hlen:r.2.length<=1000:=Ar (JU 1000 hr) (by simp);refine ⟨?_,⟨λL hL S hS=>?_,by rw[AI];exact hlen,λL hL=>?_⟩,by rw[Mk];calc ht⟩
 .show D.tup (r.2.map lvD)=D.tup ((r.2.map Av).map lvT);rw[BH];rfl
 .obtain ⟨K,hK,rfl⟩:=Ak.mp hL;exact hs K hK S ((Fe K).mem_iff.mp hS)
 .have:=OG hL;rw[Mk]at this;omega
def slT {f:FE} {fh:FO} {Y:Sd} {M M1:Mem} {xs:List D} {t:Int} (hf:f Y M=some (.dat (.tup xs),M)) (hh:fh Y M=some (some t,M1)):fSl f D3 fh Y M=some (.dat (.tup (L3.CI xs none (some t))),M1):=by
 erw[fSl];rw[hf];dsimp only;rw[show D3 Y M=some (none,M)from rfl];dsimp only;rw[hh];rfl
def oT {f:FE} {Y:Sd} {M M1:Mem} {i:Int} (h:f Y M=some (.dat (.int i),M1)):Dw f Y M=some (some i,M1):=by erw[Dw];rw[h]
end
open Lac (dT BR zf BO C7 Cn)
def Ho (zA:Ya) (l:Nat):Nat->List (List Int)->Lvl->Lvl
 |0,_,_=>[]
 |n+1,seen,level=>if level.isEmpty then [] else level++Ho zA l n (C6 zA l seen level).1 (C6 zA l seen level).2
def TN (h:∀ s∈p.2,s.2.length=n) (hw:w.length+1=n):∀ s∈(BC zA S w p g).2,s.2.length=n:=by
 erw[BC];split
 .exact h
 .intro s hs;rcases AO.mp hs with z|z
  .exact h s z
  .rw[AR.mp z];simpa using hw
theorem RV (hw:w.length+1=n):∀ (gs:Ye) {p:List (List Int) × Lvl},(∀ s∈p.2,s.2.length=n) -> ∀ s∈(gs.foldl (BC zA S w) p).2,s.2.length=n
 |[],_,h=>h
 |g::r,p,h=>RV hw r (TN h hw)
theorem QR:∀ {level:Lvl} {p:List (List Int) × Lvl},(∀ s∈level,s.2.length+1=n)->(∀ s∈p.2,s.2.length=n) -> ∀ s∈(level.foldl (C5 zA l) p).2,s.2.length=n
 |[],_,_,h=>h
 |s::r,p,hs,h=>QR (level:=r) (λx hx=>hs x (Aq _ hx)) (RV (hs s AZ) _ h)
theorem QG:∀ (n:Nat) {seen:Ya} {level:Lvl} {acc:List (List (List Int))} {r:Option (List Int) × List (List (List Int))},run zA l due n seen level acc=some r -> ∃ more,r.2=acc++more
 |0,_,_,_,_,h=>by ext h
 |n+1,seen,level,acc,r,h=>by
  erw[run]at h;cbv at h
  .cases h;exact ⟨[],by simp⟩
  .split at h
   .cases h;exact ⟨[],by simp⟩
   .obtain ⟨more,e⟩:=QG n h;calc ⟨_,by rw[e,B7]⟩
theorem RU:∀ (n:Nat) {seen:Ya} {level:Lvl} {acc:List (List (List Int))} {r0:Option (List Int) × List (List (List Int))},(∀ s∈level,s.2.length=acc.length)->run zA l (λ_=>false) n seen level acc=some r0 ->
  run zA l due n seen level acc=some (match (Ho zA l n seen level).find? λp=>due p.1 with|some p=>(some p.2,r0.2.take p.2.length)|none=>(none,r0.2))
 |0,_,_,_,_,_,h=>by ext h
 |n+1,seen,level,acc,r0,hw,h=>by
  let hf:level.find? (λp=>(λ_=>false:List Int->Bool) p.1)=none:=List.find?_eq_none.mpr λp hp=>by simp
  erw[run]at h;erw[run,Ho];rw[hf]at h;cases hl:level.isEmpty with
  |true=>
   rw[hl,AD rfl]at h;ext h;rw[AD rfl,AD rfl];rfl
  |false=>
   rw[hl,AE Ab]at h;rw[AE Ab,AE Ab,List.find?_append];cases hd:level.find? (λp=>due p.1) with
   |some p=>
    let⟨more,e⟩:=QG n h;show some (some p.2,acc)=some (some p.2,r0.2.take p.2.length);rw[hw p (List.mem_of_find?_eq_some hd),e,B7,List.take_left]
   |none=>
    rw[Option.none_or];calc RU n (QR (λs hs=>by rw[hw s hs];simp) λ_ h=>by ext h) h
def KP:FS:=(zS (sIf (tst (fOp (kIs false) (zC 2) (fC .non))) (zg (fOp kLe (fB zj (zG (zC 0) zO)) (zC 1))) AV)
  (zg (fB DC (zG (Ae [3] (Am (zC 0)) (gN 3) zo (fOp (kIn false) (zC 3) (zC 2))) zO))))
def Dd:FF:=Ct (AS 4 KP)
def lB (m:IsM zA l) (h9:zA.length<=9) (sR:IsS zA R):∃ r,run zA l (λ_=>false) 1000 [R] [(R,[])] []=some r/\r.1=none:=by
 let⟨r,hr⟩:=Sa m h9 1000 (seen:=[R]) (level:=[(R,[])]) ⟨by simp,λS hS=>by rw[AR.mp hS];exact sR,λp hp=>by rw[AR.mp hp];calc sR⟩ (by simp);calc ⟨r,hr,Kf (λ_=>rfl) 1000 hr⟩
def Dq (zA:Ya) (l:Nat) (R:Ye) (r0:Option (List Int) × List (List (List Int))) (due:List Int->Bool):Option (List Int) × List (List (List Int)) :=
 match (Ho zA l 1000 [R] [(R,[])]).find? λp=>due p.1 with|some p=>(some p.2,r0.2.take p.2.length)|none=>(none,r0.2)
section
variable {zA:Ya} {l:Nat} {R:Ye}
def Vx:Dd [tI S,.int many,.non] M=some (.bl (decide ((S.length:Int)<=many)),M):=by
 calc zH ?_;erw[Dd];calc DX (by erw[D.unds,D.unds,D.unds,D.unds];rw[CJ];rfl) ?_;rw[Az];erw[KP];calc F6 (zi (zE rfl rfl rfl)) ?_;let e:=BP (f:=zC 0) (Y:=[some (tI S),some (.int many),some .non,none]) (M:=[]) rfl zQ;rw[AI]at e;calc zc (zE e rfl (zH (KA.mpr ⟨rfl,rfl⟩))) ⟨rfl,rfl,rfl⟩
def Om {xs:List D} (h:q<=xs.length):L3.CI xs none (some (q:Int))=xs.take q:=by
 let s:HT.sIx xs.length xs.length (some (q:Int))=min q xs.length:=HT.QL xs.length xs.length q;let z:HT.sIx xs.length 0 none=0:=rfl;erw[L3.CI];rw[s,z];simp only[List.drop_zero,Nat.sub_zero];rw[Nat.min_eq_left h]
end
open Lac (Dy)
def Ke:FS:=(zg (zR G7 (zD (toD (zC 1)) (zD (toD (fB zj (zG (fOp kIx (zC 0) (fC (.int 0))) zO))) zK))))
def Hg:FF:=AS 2 Ke
def K1:FS:=(zg (B3 (DA "tuple" (zC 0)) (B3 (fOp kEq (fB zj (zG (zC 0) zO)) (zC 2)) (B3 (DA "str" (fOp kIx (zC 0) (fC (.int 0)))) (fOp kEq (fOp kIx (zC 0) (fC (.int 0))) (zC 1))))))
def Gk:FF:=AS 3 K1
def Mw (gL:List D->FF) (lL:Lm):FS:=(zg (fB LH (zG (Ff [3,2] [2] (Am (zC 0)) (gN 3) zo (Am (zC 3)) (gN 2) zo (En 1 lL gL (zD (toD (zC 2)) zK))) zO)))
def HC (gL:List D->FF) (lL:Lm):FF:=AS 4 (Mw gL lL)
def MR (gL:List D->FF) (lL:Lm):FS:=(zS (sIf (CC (B0 (tst (zR Hg (zD (toD (zC 0)) (zD (toD (zC 3)) zK))))) (B0 (tst (En 2 lL gL (zD (toD (zR Ib (zD (toD (zC 0)) (zD (toD (zC 1)) (zD (toD (zC 3)) zK))))) zK))))) (zg (fC (.bl false))) AV)
  (zS (sIf (B0 (tst (zR GV (zD (toD (zC 0)) (zD (toD (zC 1)) (zD (toD (zC 4)) (zD (toD (fC (.bl false))) zK))))))) (zg (fC (.bl false))) AV)
  (zg (B3 (fOp kEq (fB zj (zG (zC 4) zO)) (fB zj (zG (zC 3) zO))) (El (zR (HC gL lL) (zD (toD (zC 4)) (zD (toD (zC 2)) zK))))))))
def IL (gL:List D->FF) (lL:Lm):FF:=AS 5 (MR gL lL)
def LQ (gL:List D->FF) (lL:Lm):FS:=(zS (sIf (tst (zR Gk (zD (toD (zC 3)) (zD (toD (fC (.str "word"))) (zD (toD (fC (.int 3))) zK))))) (zg (zR (IL gL lL) (zD (toD (zC 0)) (zD (toD (zC 1)) (zD (toD (zC 2)) (zD (toD (fOp kIx (zC 3) (fC (.int 1)))) (zD (toD (fOp kIx (zC 3) (fC (.int 2)))) zK))))))) AV)
  (zS (sIf (tst (zR Gk (zD (toD (zC 3)) (zD (toD (fC (.str "none"))) (zD (toD (fC (.int 2))) zK))))) (zg (B3 (zR GV (zD (toD (zC 0)) (zD (toD (zC 1)) (zD (toD (fOp kIx (zC 3) (fC (.int 1)))) (zD (toD (fC (.bl true))) zK))))) (El (zR (HC gL lL) (zD (toD (fOp kIx (zC 3) (fC (.int 1)))) (zD (toD (zC 2)) zK)))))) AV)
  (zg (fC (.bl false)))))
def HG (gL:List D->FF) (lL:Lm):FF:=AS 4 (LQ gL lL)
def jI {bs:List Bool} (h:f Y M=some (.fl (bs.map D.bl),M)):fB LH (zG f zO) Y M=some (.dat (.bl (bs.any id)),M):=by
 erw[fB,zG,zO];rw[h];calc zH ((Kg LJ (KG bs)).mpr ⟨rfl,rfl⟩)
def eqS:kEq (.dat (.str a)) (.dat (.str b)) M=some (.dat (.bl (dc (a=b))),M):=by
 let e:kEq (.dat (.str a)) (.dat (.str b)) M=some (.dat (.bl (decide (V.str a=V.str b))),M):=rfl;rw[e];by_cases z:a=b
 .rw[DZ z,Ap (by rw[z])]
 .rw[GS z,Aa (λy=>z (V.str.inj y))]
def neS:kNe (.dat (.str a)) (.dat (.str b)) M=some (.dat (.bl (!dc (a=b))),M):=by
 let e:kNe (.dat (.str a)) (.dat (.str b)) M=some (.dat (.bl (!decide (V.str a=V.str b))),M):=rfl;rw[e];by_cases z:a=b
 .rw[DZ z,Ap (by rw[z])]
 .rw[GS z,Aa (λy=>z (V.str.inj y))]
section
variable {zA:Ya} {l:Nat} {R:Ye} {due:List Int->Bool} {gL:List D->FF} {lL:Lm} {cs:List D}
def JR (due:List Int->Bool) (LL:List (List (List Int))):Bool:=LL.any λL=>L.any due
theorem Qg (due:List Int->Bool):∀ (LL:List (List (List Int))),(LL.flatMap λL=>L.map due).any id=JR due LL
 |[]=>rfl
 |L::r=>by
  rw[List.flatMap_cons,List.any_append,Qg due r];rw[List.any_map];rfl
def i7 (hG:∀ S M',IsS zA S->gL cs [tI S] M'=some (.bl (due S),M')) (hL:KQ zA LL):HC gL lL [shT LL,.fn lL cs] M=some (.bl (JR due LL),M):=by
 erw[HC,Mw];calc EX ?_;rw[<-Qg];calc jI ?_;let e:=Rb (own:=[3,2]) (own2:=[2]) (fi:=Am (zC 0)) (fi2:=Am (zC 3)) (fg:=gN 3) (fg2:=gN 2) (te:=En 1 lL gL (zD (toD (zC 2)) zK)) (Y:=[some (shT LL),some (.fn lL cs),none,none]) LL lvT (λL=>L) tI (λ_ S=> .bl (due S)) 8000 (Ik rfl) (λL h=>hL.2.2 L h) (by have:=hL.2.1;omega) λL h=>⟨_,rfl,Ik rfl,λS hS=>⟨_,rfl,LC rfl rfl (hG S M (hL.1 L h S hS))⟩⟩;calc e.trans ?_;rw[List.map_flatMap];congr 3;congr 1;funext L;rw[BH];rfl
def Tv (m:IsM zA l) (ha:Vd M a):Hg [mD zA,a] M=some (.bl (tbD l a),M):=by
 erw[Hg,Ke];calc EX ?_;calc zV (zM rfl (zW (MG m rfl))) (Pk ha)
def mL (h:∀ g∈w,0<=g/\g<n):tbD n (tI w)=true:=by
 have:=dY h;rw[Jo]at this;calc this
end
section
variable {zA:Ya} {l:Nat} {R:Ye} {due:List Int->Bool}
def lP:setR zA S g∈(BC zA S w p g).1/\(∀ T∈p.1,T∈(BC zA S w p g).1) /\ ∀ q∈(BC zA S w p g).2,q∈p.2\/q=(setR zA S g,w++[g]):=by
 erw[BC];split
 .rename_i h;exact ⟨h,λT hT=>hT,λq hq=> .inl hq⟩
 .refine ⟨by simp,λT hT=>by simp[hT],λq hq=>?_⟩;rcases AO.mp hq with z|z
  .exact .inl z
  .exact .inr (AR.mp z)
theorem Q1:∀ (gs:Ye) (p:List (List Int) × Lvl),(∀ g∈gs,setR zA S g∈(gs.foldl (BC zA S w) p).1)/\(∀ T∈p.1,T∈(gs.foldl (BC zA S w) p).1) /\ ∀ q∈(gs.foldl (BC zA S w) p).2,q∈p.2 \/ ∃ g∈gs,q=(setR zA S g,w++[g])
 |[],p=>⟨(λ_ h=>by ext h),λT hT=>hT,λq hq=> .inl hq⟩
 |g::r,p=>by
  let⟨a1,a2,a3⟩:=lP;let⟨b1,b2,b3⟩:=Q1 r (BC zA S w p g);rw[List.foldl_cons];refine ⟨λx hx=>?_,λT hT=>b2 T (a2 T hT),λq hq=>?_⟩
  .rcases AJ.mp hx with z|z
   .rw[z];exact b2 _ a1
   .exact b1 x z
  .rcases b3 q hq with z|⟨x,hx,z⟩
   .rcases a3 q z with y|y
    .exact .inl y
    .exact .inr ⟨g,AZ,y⟩
   .exact .inr ⟨x,Aq _ hx,z⟩
theorem OC:∀ (level:Lvl) (p:List (List Int) × Lvl),(∀ s∈level,∀ g∈A7 l,setR zA s.1 g∈(level.foldl (C5 zA l) p).1)/\(∀ T∈p.1,T∈(level.foldl (C5 zA l) p).1) /\ ∀ q∈(level.foldl (C5 zA l) p).2,q∈p.2 \/ ∃ s∈level,∃ g∈A7 l,q=(setR zA s.1 g,s.2++[g])
 |[],p=>⟨(λ_ h=>by ext h),λT hT=>hT,λq hq=> .inl hq⟩
 |s::r,p=>by
  let⟨a1,a2,a3⟩:=Q1 (A7 l) p;let⟨b1,b2,b3⟩:=OC r (C5 zA l p s);rw[List.foldl_cons];refine ⟨λx hx g hg=>?_,λT hT=>b2 T (a2 T hT),λq hq=>?_⟩
  .rcases AJ.mp hx with z|z
   .rw[z];exact b2 _ (a1 g hg)
   .exact b1 x z g hg
  .rcases b3 q hq with z|⟨x,hx,z⟩
   .rcases a3 q z with y|⟨g,hg,y⟩
    .exact .inl y
    .exact .inr ⟨s,AZ,g,hg,y⟩
   .exact .inr ⟨x,Aq _ hx,z⟩
def Wd (l:Nat) (w:Ye):Prop:=∀ g∈w,0<=g/\g<(l:Int)
structure Bf (zA:Ya) (l:Nat) (R:Ye) (due:List Int->Bool) (seen:Ya) (level:Lvl) (acc:List (List (List Int))):Prop where
 sn:∀ S∈seen,S∈acc.flatten\/S∈level.map (·.1)
 wd:∀ p∈level,broR zA R p.2=p.1/\Wd l p.2/\p.2.length=acc.length
 fst:(acc++[level.map (·.1)])[0]?=some [R]
 cl:∀ (k:Nat) L,acc[k]?=some L -> ∀ S∈L,∀ g∈A7 l,∃ (j:Nat) (K:Ya),j<=k+1/\(acc++[level.map (·.1)])[j]?=some K/\setR zA S g∈K
 nd:∀ L∈acc,∀ S∈L,due S=false
def Bf.next {seen:Ya} {level:Lvl} {acc:List (List (List Int))} (m:IsM zA l) (mt:Met zA seen level) (h:Bf zA l R due seen level acc) (hn:level.find? (λp=>due p.1)=none) :
  Bf zA l R due (C6 zA l seen level).1 (C6 zA l seen level).2 (acc++[level.map (·.1)]):=by
 let g:=mt.next m;let⟨a1,a2,a3⟩:=OC level (seen,[]);refine ⟨λS hS=>?_,λp hp=>?_,?_,λk L hL S hS x hx=>?_,λL hL S hS=>?_⟩
 .rw[g.eq]at hS;rw[List.flatten_append,List.flatten_singleton];rcases AO.mp hS with z|z
  .exact .inl (AO.mpr (h.sn S z))
  .exact .inr z
 .rcases a3 p hp with z|⟨s,hs,x,hx,rfl⟩
  .cases z
  .obtain ⟨w1,w2,w3⟩:=h.wd s hs;refine ⟨?_,λy hy=>?_,by simp[w3]⟩
   .show (s.2++[x]).foldl (setR zA) R=setR zA s.1 x;rw[List.foldl_append];show setR zA (broR zA R s.2) x=_;rw[w1]
   .rcases AO.mp hy with z|z
    .exact w2 y z
    .rw[AR.mp z];exact Jv hx
 .have:=h.fst;cases acc with
  |nil=>calc this
  |cons a r=>exact this
 .rcases Cw k acc.length with z|z
  .rw[AY z]at hL;let⟨j,K,hj,eK,hm⟩:=h.cl k L hL S hS x hx;calc ⟨j,K,hj,?_,hm⟩;rw[AY (AK.mp eK).1];exact eK
  .have hk:k=acc.length:=by
    have:=(AK.mp hL).1;rw[AW,Eb]at this;omega
   subst hk;rw[CQ (AF _),Nat.sub_self]at hL;ext hL;let⟨s,hs,rfl⟩:=Ak.mp hS;let hm:setR zA s.1 x∈(C6 zA l seen level).1:=a1 s hs x hx;rw[g.eq]at hm;rcases AO.mp hm with y|y
   .rcases h.sn _ y with u|u
    .obtain ⟨K,hK,hSK⟩:=List.mem_flatten.mp u;let⟨j,hj⟩:=List.getElem?_of_mem hK;let hlt:=(AK.mp hj).1;calc ⟨j,K,(),?_,hSK⟩;rw[B7,AY hlt];exact hj
    .refine ⟨acc.length,_,(),?_,u⟩;rw[B7,CQ (AF _),Nat.sub_self];rfl
   .refine ⟨acc.length+1,_,AF _,?_,y⟩;rw[CQ (by simp)];simp
 .rcases AO.mp hL with z|z
  .exact h.nd L z S hS
  .rw[AR.mp z]at hS;let⟨p,hp,rfl⟩:=Ak.mp hS;have:=List.find?_eq_none.mp hn p hp;simpa using this
def Bf.way {seen:Ya} {level:Lvl} {acc:List (List (List Int))} (h:Bf zA l R due seen level acc):∀ (n:Nat) (v:Ye),v.length=n->Wd l v->(∀ k,k<n->k<acc.length\/level=[]) -> ∃ (j:Nat) (K:Ya),j<=n/\(acc++[level.map (·.1)])[j]?=some K/\broR zA R v∈K
 |0,v,hv,_,_=>by
  have:v=[]:=F3.mp hv;subst this;calc ⟨0,[R],AF _,h.fst,AR.mpr rfl⟩
 |n+1,v,hv,hw,hk=>by
  let hne:v≠[]:=by intro z;rw[z]at hv;ext hv
  obtain ⟨u,x,rfl⟩:∃ u x,v=u++[x]:=⟨v.dropLast,v.getLast hne,(List.dropLast_concat_getLast hne).symm⟩;rw[AW,Eb]at hv;let⟨j,K,hj,eK,hm⟩:=Bf.way h n u () (λg hg=>hw g (Cm _ hg)) (λk z=>hk k ());let hx:=hw x (by simp);let hxl:x∈A7 l:=by
   let⟨i,rfl⟩:=Int.eq_ofNat_of_zero_le hx.1;exact Ak.mpr ⟨i,Ey.mpr (),rfl⟩
  let hj2:j<acc.length:=by
   let hlt:=(AK.mp eK).1;rw[AW,Eb]at hlt;rcases Cw j acc.length with z|z
   .exact z
   .exfalso;let hje:j=acc.length:=()
    rcases hk n ()with y|y
    .omega
    .rw[hje,CQ (AF _),Nat.sub_self,y]at eK;ext eK;ext hm
  rw[AY hj2]at eK;let⟨j',K',hj',eK',hm'⟩:=h.cl j K eK _ hm x hxl;calc ⟨j',K',(),eK',?_⟩;show (u++[x]).foldl (setR zA) R∈K';rw[List.foldl_append];calc hm'
def End (zA:Ya) (l:Nat) (R:Ye) (due:List Int->Bool) (r:Option (List Int) × List (List (List Int))):Prop:=∃ (seen:Ya) (level:Lvl),Bf zA l R due seen level r.2/\match r.1 with
 |none=>level=[]
 |some w=>∃ p∈level,p.2=w/\due p.1=true
theorem Pg (m:IsM zA l):∀ (n:Nat) {seen:Ya} {level:Lvl} {acc:List (List (List Int))} {r:Option (List Int) × List (List (List Int))},Met zA seen level->Bf zA l R due seen level acc->run zA l due n seen level acc=some r->End zA l R due r
 |0,_,_,_,_,_,_,h=>by ext h
 |n+1,seen,level,acc,r,mt,bf,h=>by
  erw[run]at h;cbv at h
  .rename_i he;ext h;exact ⟨seen,level,bf,List.isEmpty_iff.mp he⟩
  .split at h
   .rename_i p hp;ext h;exact ⟨seen,level,bf,p,List.mem_of_find?_eq_some hp,rfl,by simpa using List.find?_some hp⟩
   .rename_i hn;calc Pg m n (mt.next m).met (bf.next m mt hn) h
def MY (m:IsM zA l) (sR:IsS zA R) (h:run zA l due 1000 [R] [(R,[])] []=some r):End zA l R due r:=by
 let mt:Met zA [R] [(R,[])]:=⟨by simp,λS hS=>by rw[AR.mp hS];exact sR,λp hp=>by rw[AR.mp hp];calc sR⟩;refine Pg m 1000 mt ⟨λS hS=> .inr (~~~hS),λp hp=>?_,rfl,λk L hL=>by simp at hL,λ_ h=>by ext h⟩ h;rw[AR.mp hp];calc ⟨rfl,(λg hg=>by ext hg),rfl⟩
def End.least {r:Option (List Int) × List (List (List Int))} (h:End zA l R due r) {v:Ye} (hv:Wd l v) (hd:due (broR zA R v)=true):∃ w,r.1=some w/\w.length<=v.length:=by
 let⟨seen,level,bf,e⟩:=h;cases h1:r.1 with
 |none=>
  rw[h1]at e;exfalso;let⟨j,K,_,eK,hm⟩:=bf.way v.length v rfl hv (λ_ _=> .inr e);let e:level=[]:=e;rw[e]at eK;rcases Cw j r.2.length with z|z
  .rw[AY z]at eK;rw[bf.nd K (BD eK) _ hm]at hd;ext hd
  .rw[CQ z]at eK;cases hj:j-r.2.length with
   |zero=>rw[hj]at eK;ext eK;ext hm
   |succ i=>rw[hj]at eK;ext eK
 |some w=>
  rw[h1]at e;let⟨p,hp,hpw,hdp⟩:=e;calc ⟨w,rfl,?_⟩;let hw:=(bf.wd p hp).2.2;rw[hpw]at hw;rcases Cw v.length w.length with z|z
  .exfalso;let⟨j,K,hj,eK,hm⟩:=bf.way v.length v rfl hv (λk hk=> .inl ());rw[AY ()]at eK;rw[bf.nd K (BD eK) _ hm]at hd;ext hd
  .exact z
def End.word (h:End zA l R due r) (h1:r.1=some w):Wd l w/\due (broR zA R w)=true/\w.length=r.2.length:=by
 let⟨seen,level,bf,e⟩:=h;rw[h1]at e;let⟨p,hp,hpw,hdp⟩:=e;let⟨w1,w2,w3⟩:=bf.wd p hp;rw[hpw]at w1 w2 w3;calc ⟨w2,by rw[w1];calc hdp,w3⟩
def l8 {LL:List (List (List Int))} {S:Ye} {j:Nat} {K:Ya} (hK:LL[j]?=some K) (hS:S∈K):∃ i,plc LL S=some i/\i<=j:=by
 cases hp:plc LL S with
 |none=>
  exfalso;have:=List.findIdx?_eq_none_iff.mp hp K (BD hK);simp[hS]at this
 |some i=>
  calc ⟨i,rfl,?_⟩;let h1:=List.findIdx?_eq_some_iff_findIdx_eq.mp hp;rcases Cw j i with z|z
  .exfalso;let hlt:=(AK.mp hK).1;let h2:=List.not_of_lt_findIdx (by rw[h1.2];calc z);let h3:LL[j]=K:=(AK.mp hK).2;rw[h3]at h2;simp[hS]at h2
  .exact z
def XR {LL:List (List (List Int))} {S:Ye} {k:Nat} (h:∀ g∈A7 l,∃ (j:Nat) (K:Ya),j<=k+1/\LL[j]?=some K/\setR zA S g∈K):EI zA l LL S ((k:Nat)+1)=true:=by
 erw[EI];rw[Aj];intro g hg;let⟨j,K,hj,eK,hm⟩:=h g hg;let⟨i,ei,hi⟩:=l8 eK hm;rw[ei];calc Ap ()
def End.shown (m:IsM zA l) (h9:zA.length<=9) (sR:IsS zA R) (h:End zA l R due r):shB zA l R (r.2.map Av) (r.1==none)=true/\JR due (r.2.map Av)=false:=by
 let⟨seen,level,bf,e⟩:=h;let hat:∀ (k:Nat) L,(r.2.map Av)[k]?=some L -> ∃ K,r.2[k]?=some K /\ ∀ S,S∈L ↔ S∈K:=λk L hL=>by
  rw[Ac]at hL;let⟨K,hK,rfl⟩:=Option.map_eq_some_iff.mp hL;exact ⟨K,hK,λS=>(Fe K).mem_iff⟩
 let hta:∀ (j:Nat) K,r.2[j]?=some K->(r.2.map Av)[j]?=some (Av K):=λj K hK=>by rw[Ac,hK];rfl
 refine ⟨?_,?_⟩
 .cases hr2:r.2 with
  |nil=>
   let hf:=bf.fst;rw[hr2]at hf;cases h1:r.1 with
   |none=>
    rw[h1]at e;let e:level=[]:=e;rw[e]at hf;ext hf
   |some w=>rfl
  |cons L0 rest=>
   let hf:=bf.fst;rw[hr2]at hf;ext hf;show (decide (R∈Av [R])&&_)=true;rw[Au];calc ⟨Ap ((Fe [R]).mem_iff.mpr (by simp)),?_⟩;let hlen:r.2.length=rest.length+1:=by rw[hr2];rfl
   rw[show List.map Av ([R]::rest)=r.2.map Av by rw[hr2]];refine OI _ λk L hL S hS=>?_;rw[Nat.zero_add];let hbound:k<r.2.length/\(r.1≠none->k+1<r.2.length)/\(r.2.map Av)[k]?=some L:=by
    cases h1:r.1 with
    |none=>
     rw[h1]at hL;let hL:(r.2.map Av)[k]?=some L:=hL;have:=(AK.mp hL).1;rw[AI]at this;exact ⟨this,λz=>absurd rfl z,hL⟩
    |some w=>
     rw[h1]at hL;let hL:((r.2.map Av).take ((r.2.map Av).length-1))[k]?=some L:=hL;let hlt:=(AK.mp hL).1;rw[Bp,AI]at hlt;rw[List.getElem?_take_of_lt (by rw[AI];omega)]at hL;exact ⟨(),λ_=>(),hL⟩
   let⟨hk,hk2,hL⟩:=hbound;let⟨K,hK,hKL⟩:=hat k L hL;refine XR λg hg=>?_;let⟨j,K',hj,eK',hm⟩:=bf.cl k K hK S ((hKL S).mp hS) g hg;let hjl:j<r.2.length:=by
    rcases Cw j r.2.length with z|z
    .exact z
    .exfalso;let hlt:=(AK.mp eK').1;rw[AW,Eb]at hlt;let hje:j=r.2.length:=()
     cases h1:r.1 with
     |none=>
      rw[h1]at e;let e:level=[]:=e;rw[hje,CQ (AF _),Nat.sub_self,e]at eK';ext eK';ext hm
     |some w=>
      have:=hk2 (by rw[h1];simp);omega
   rw[AY hjl]at eK';exact ⟨j,Av K',hj,hta j K' eK',(Fe K').mem_iff.mpr hm⟩
 .unfold JR;rw[List.any_eq_false];intro L hL;let⟨K,hK,rfl⟩:=Ak.mp hL;simp only[Bool.not_eq_true];rw[List.any_eq_false];intro S hS;rw[bf.nd K hK S ((Fe K).mem_iff.mp hS)];simp
end
open Lac (Dy)
def NG:FS:=(zg (fB DC (zG (Ae [2] (Am (zC 0)) (gN 2) zo (fOp (kIn false) (zC 2) (zC 1))) zO)))
def G3:FF:=Ct (AS 3 NG)
def Kd:List D->FF:=Gj (toD (fC (.bl false)))
def La:FS:=(zg (fOp kIx (Ei [] (FU Kd) (zD (toD (zC 0)) (zD (toD (zC 1)) zK)) zK) (fC (.int 1))))
def Hv:FF:=Ct (AS 2 La)
def Ng:List D->FF:=Gj (toD (fOp kLe (fB zj (zG (zC 0) zO)) (zC 1)))
def Mb:FS:=(zg (Ei [2] (FU Ng) (zD (toD (zC 0)) (zD (toD (zC 1)) zK)) zK))
def Hl:FF:=Ct (AS 3 Mb)
def Kb:List D->FF:=Gj (toD (zR G3 (zD (toD (zC 0)) (zD (toD (zC 1)) zK))))
def NK:FS:=(zg (Ei [2] (FU Kb) (zD (toD (zC 0)) (zD (toD (zC 1)) zK)) zK))
def IE:FF:=Ct (AS 3 NK)
def N5:List D->FF:=Gj (toD (fOp kLe (fB zj (zG (zC 0) zO)) (zC 1)))
def NY:FS:=(zg (Ei [2] (HG N5) (zD (toD (zC 0)) (zD (toD (zC 1)) zK)) (zD (toD (zC 3)) zK)))
def He:FF:=AS 4 NY
def OV:List D->FF:=Gj (toD (zR G3 (zD (toD (zC 0)) (zD (toD (zC 1)) zK))))
def LU:FS:=(zg (Ei [2] (HG OV) (zD (toD (zC 0)) (zD (toD (zC 1)) zK)) (zD (toD (zC 3)) zK)))
def Ie:FF:=AS 4 LU
def Lk:FS:=(zS (BN (Am (zC 2)) (gN 3) (AN 1 (zR Ig (zD (toD (zC 0)) (zD (toD (zC 1)) (zD (toD (zC 3)) zK))))))
  (zg (zC 1)))
def GB:FF:=EE (AS 4 Lk)
def Mq:FS:=(zS (sIf (CC (B0 (tst (DA "tuple" (zC 3)))) (CC (tst (fOp kLt (fB zj (zG (zC 3) zO)) (fC (.int 2)))) (tst (fOp kNe (fOp kIx (zC 3) (fC (.int 0))) (fOp kIx (BK (zD (toD (fC (.str "none"))) (zD (toD (fC (.str "word"))) zK))) (fB CA (zG (fOp kEq (fB zj (zG (zC 3) zO)) (fC (.int 3))) zO))))))) (zg (fC (.bl false))) AV)
  (zS (AN 7 (fC (.int 31)))
  (zS (sIf (tst (fOp kEq (fOp kIx (zC 3) (fC (.int 0))) (fC (.str "word")))) (zS (AN 7 (fB zj (zG (fOp kIx (zC 3) (fC (.int 1))) zO)))
  (sIf (B0 (tst (zR Dd (zD (toD (zR GB (zD (toD (zC 1)) (zD (toD (zC 2)) (zD (toD (fOp kIx (zC 3) (fC (.int 1)))) zK))))) (zD (toD (zC 4)) (zD (toD (zC 5)) zK)))))) (zg (fC (.bl false))) AV)) AV)
  (zS (sIf (tst (fOp (kTr true 2) (fOp kIx (zC 3) (fOp DJ (fB zj (zG (zC 3) zO)) (fC (.int 1)))) (fSl (zC 6) D3 (Dw (fOp kIx (BK (zD (toD (fB zj (zG (fOp kIx (zC 3) (fC (.int 1))) zO))) (zD (toD (fB zj (zG (zC 6) zO))) zK))) (fB CA (zG (fOp kEq (fOp kIx (zC 3) (fC (.int 0))) (fC (.str "none"))) zO))))))) (zg (fC (.bl false))) AV)
  (zS (BN (BG (zD (toD (fOp DS (fC (.int 12)) (fB CA (zG (fOp kGt (zC 7) (fC (.int 0))) zO)))) zK)) (gN 8) (zS (AN 9 (Ae [10] (BG (zD (toD (zR zb (zD (toD (zC 0)) (zD (toD (zC 7)) zK)))) zK)) (gN 10) zo (zR zb (zD (toD (zC 0)) (zD (toD (fB zj (zG (fOp kIx (zC 1) (fC (.int 0))) zO))) zK)))))
  (sIf (tst (zR Dd (zD (toD (zR GB (zD (toD (zC 1)) (zD (toD (zC 2)) (zD (toD (zC 9)) zK))))) (zD (toD (zC 4)) (zD (toD (zC 5)) zK))))) (zg (fC (.bl false))) AV)))
  (zg (fC (.bl true))))))))
def HI:FF:=AS 11 Mq
def LA:FS:=(zS (AN 1 (zR Ir (zD (toD (zC 0)) zK)))
  (zS (BN (BG (zD (toD (fC (.int 2))) zK)) (gN 2) (zS (AN 3 (zR IY (zD (toD (zC 1)) (zD (toD (fC (.int 9))) (zD (toD (fC (.int 4))) zK)))))
  (zS (AN 4 (zR HP (zD (toD (zC 1)) (zD (toD (fB zj (zG (zC 3) zO))) zK))))
  (zS (AN 5 (zR Hv (zD (toD (zC 3)) (zD (toD (zC 4)) zK))))
  (zS (AN 6 (fC .non))
  (zS (BN (IC (zD (toD (fOp Bz (fB zj (zG (zC 4) zO)) (fC (.int 1)))) (zD (toD (fC (.int 0))) (zD (toD (Eo (fC (.int 1)))) zK)))) (gN 7) (zS (AN 8 (zR Hl (zD (toD (zC 3)) (zD (toD (zC 4)) (zD (toD (zC 7)) zK)))))
  (zS (sIf (B0 (tst (zR HI (zD (toD (zC 1)) (zD (toD (zC 3)) (zD (toD (zC 4)) (zD (toD (zC 8)) (zD (toD (zC 7)) (zD (toD (fC .non)) (zD (toD (zC 5)) zK)))))))))) (zg (fC (.bl false))) AV)
  (zS (sIf (tst (fOp (kIs true) (zR He (zD (toD (zC 3)) (zD (toD (zC 4)) (zD (toD (zC 7)) (zD (toD (zC 8)) zK))))) (fC (.bl true)))) (zg (fC (.bl false))) AV)
  (zS (sIf (Bw (tst (fOp (kIs true) (zC 6) (fC .non))) (Bw (tst (fOp kEq (fOp kIx (zC 6) (fC (.int 0))) (fC (.str "none")))) (tst (fOp kEq (fOp kIx (zC 8) (fC (.int 0))) (fC (.str "word")))))) (zg (fC (.bl false))) AV)
  (zS (sIf (Bw (tst (fOp (kIs true) (zC 6) (fC .non))) (Bw (tst (fOp kEq (fOp kIx (zC 8) (fC (.int 0))) (fC (.str "word")))) (tst (fOp kLt (fB zj (zG (fOp kIx (zC 8) (fC (.int 1))) zO)) (fB zj (zG (fOp kIx (zC 6) (fC (.int 1))) zO)))))) (zg (fC (.bl false))) AV)
  (AN 6 (zC 8))))))))
  (BN (Am (Bk (zD (toD (zR HP (zD (toD (zC 1)) (zD (toD (fB zj (zG (zC 3) zO))) zK)))) (zD (toD (Bk (zD (toD (zR zb (zD (toD (zC 1)) (zD (toD (fB zj (zG (zC 3) zO))) zK)))) zK))) (zD (toD (zC 4)) zK))))) (gN 9) (zS (AN 8 (zR IE (zD (toD (zC 3)) (zD (toD (zC 4)) (zD (toD (zC 9)) zK)))))
  (zS (sIf (B0 (tst (zR HI (zD (toD (zC 1)) (zD (toD (zC 3)) (zD (toD (zC 4)) (zD (toD (zC 8)) (zD (toD (fC (.int 0))) (zD (toD (zC 9)) (zD (toD (zC 5)) zK)))))))))) (zg (fC (.bl false))) AV)
  (sIf (tst (fOp (kIs true) (zR Ie (zD (toD (zC 3)) (zD (toD (zC 4)) (zD (toD (zC 9)) (zD (toD (zC 8)) zK))))) (fC (.bl true)))) (zg (fC (.bl false))) AV))))))))))
  (zg (fC (.bl true)))))
def Fg:FF:=AS 10 LA
def inR (S G:Ye):Bool:=S.all λx=>decide (x∈G)
def d4 {G:Ye} {x:Int} {M:Mem}:kIn false (.dat (.int x)) (.dat (tI G)) M=some (.dat (.bl (decide (x∈G))),M):=by
 erw[kIn];dsimp only;rw[show BA M (.dat (tI G))=some (G.map D.int)from zQ];dsimp only;rw[Fq];have:(G.any λy=>decide (y=x))=decide (x∈G):=by
  by_cases hm:x∈G
  .rw[Ap hm];exact Fj.mpr ⟨x,hm,by simp⟩
  .rw[Aa hm];exact List.any_eq_false.mpr λy hy=>by simp;intro e;exact hm (e▸hy)
 show some (EV.dat (.bl (G.any λy=>decide (y=x))),M)=_;rw[this]
def N3 {own:Yj} {i j k:Nat} {Y:Sd} {M:Mem} {S G:Ye} (hz:S.length<=100000) (hi:zC i Y M=some (.dat (tI S),M)) (hk:∀ x:Int,zC k ((Bi own Y).set k (some (.int x))) M=some (.dat (.int x),M)) (hj:∀ x:Int,zC j ((Bi own Y).set k (some (.int x))) M=some (.dat (tI G),M)) :
  fB DC (zG (Ae own (Am (zC i)) (gN k) zo (fOp (kIn false) (zC k) (zC j))) zO) Y M=some (.dat (.bl (inR S G)),M):=by
 let ec:=F4 (g:=gN k) (te:=fOp (kIn false) (zC k) (zC j)) S D.int (λx=> .bl (decide (x∈G))) (EW hi zQ) trivial hz λx hx=>⟨_,rfl,zE (hk x) (hj x) d4⟩;rw[fB1 ec];refine zH ((Kg (ds:=S.map λx=>D.bl (decide (x∈G))) (bs:=S.map λx=>decide (x∈G)) LJ ?_).mpr ?_)
 .rw[<-KG,BH];rfl
 .refine ⟨?_,rfl⟩;erw[inR];rw[List.all_map];rfl
def orE {a b:FT} {Y:Sd} {A:Mem} {k:Bool} (ha:a Y A=some (false,A)) (hb:b Y A=some (k,A)):CC a b Y A=some (k,A):=by erw[CC];rw[ha];calc hb
section
variable {zA:Ya} {l:Nat} {R:Ye} {due:List Int->Bool}
def Qw {S G:Ye} (hz:S.length<=100000) {M:Mem}:G3 [tI S,tI G] M=some (.bl (inR S G),M):=by
 calc zH ?_;erw[G3];calc DX (by erw[D.unds,D.unds,D.unds];rw[CJ,CJ];rfl) ?_;rw[Az];erw[NG];calc zc (N3 hz rfl (λ_=>rfl) (λ_=>rfl)) ⟨rfl,rfl,rfl⟩
def cD {S G:Ye} (hz:S.length<=100000) {many:Int} {M:Mem}:Dd [tI S,.int many,tI G] M=some (.bl (inR S G),M):=by
 calc zH ?_;erw[Dd];calc DX (by erw[D.unds,D.unds,D.unds,D.unds];rw[CJ,CJ];rfl) ?_;rw[Az];erw[KP];calc C2 (zi (zE rfl rfl rfl)) ?_;calc zc (N3 hz rfl (λ_=>rfl) (λ_=>rfl)) ⟨rfl,rfl,rfl⟩
def Pz {S:Ye} {many:Int} {M:Mem}:fOp kLe (fB zj (zG (zC 0) zO)) (zC 1) [some (tI S),some (.int many)] M=some (.dat (.bl (decide ((S.length:Int)<=many))),M):=by
 let e:=BP (f:=zC 0) (Y:=[some (tI S),some (.int many)]) (M:=M) rfl zQ;rw[AI]at e;calc zE e rfl (zH (KA.mpr ⟨rfl,rfl⟩))
def J4 {f:FE} {Y:Sd} {M:Mem} {d:D} (h:f Y M=some (.dat d,M)):toD f Y M=some (d,M):=by erw[toD];rw[h]
def hU (m:IsM zA l) (h9:zA.length<=9) (hl9:l<=1000) (sR:IsS zA R) {r:Option (List Int) × List (List (List Int))} (hr:run zA l (λ_=>false) 1000 [R] [(R,[])] []=some r) {M:Mem}:Hv [mD zA,tI R] M=some (shD r.2,M):=by
 let h1:=Kf (λ_=>rfl) 1000 hr;calc zH ?_;erw[Hv];calc DX (by erw[D.unds,D.unds,D.unds];rw[E1,CJ];rfl) ?_;rw[Az];erw[La];let e:=Hd (idx:=[]) (mm:=FU Kd) (cs:=[]) (g1:=zD (toD (zC 0)) (zD (toD (zC 1)) zK)) (g2:=zK) (Y:=[some (mD zA),some (tI R)]) (M:=[]) (zM rfl (zW rfl)) rfl rfl λlm=>NA m h9 hl9 (λS M' _=>rfl) rfl sR hr;let e2:Aw r=.tup [.str "none", shD r.2]:=by erw[Aw];rw[h1]
 rw[e2]at e;calc zc (zE e rfl (A8 zQ rfl)) ⟨Nn _,rfl,rfl⟩
def VO (m:IsM zA l) (h9:zA.length<=9) (hl9:l<=1000) (sR:IsS zA R) {many:Int} {r:Option (List Int) × List (List (List Int))} (hr:run zA l (λS=>decide ((S.length:Int)<=many)) 1000 [R] [(R,[])] []=some r) {M:Mem}:Hl [mD zA,tI R,.int many] M=some (Aw r,M):=by
 calc zH ?_;erw[Hl];calc DX (by erw[D.unds,D.unds,D.unds,D.unds];rw[E1,CJ];rfl) ?_;rw[Az];erw[Mb];let hG:∀ S M',IsS zA S->Ng [.int many] [tI S] M'=some (.bl (decide ((S.length:Int)<=many)),M'):=λS M' _=>J4 Pz;calc zc (Hd (zM rfl (zW rfl)) rfl rfl λlm=>NA m h9 hl9 hG rfl sR hr) ⟨K9 _,rfl,rfl⟩
def Zw (m:IsM zA l) (h9:zA.length<=9) (hl9:l<=1000) (sR:IsS zA R) {G:Ye} {r:Option (List Int) × List (List (List Int))} (hr:run zA l (λS=>inR S G) 1000 [R] [(R,[])] []=some r) {M:Mem}:IE [mD zA,tI R,tI G] M=some (Aw r,M):=by
 calc zH ?_;erw[IE];calc DX (by erw[D.unds,D.unds,D.unds,D.unds];rw[E1,CJ,CJ];rfl) ?_;rw[Az];erw[NK];let hG:∀ S M',IsS zA S->Kb [tI G] [tI S] M'=some (.bl (inR S G),M'):=λS M' s=>J4 (zV (zM rfl (zW rfl)) (Qw (by have:=s.len;omega)));calc zc (Hd (zM rfl (zW rfl)) rfl rfl λlm=>NA m h9 hl9 hG (by erw[D.unds,D.unds];rw[CJ];rfl) sR hr) ⟨K9 _,rfl,rfl⟩
def NP:Gk [.tup (.str s::ds),.str s',.int n] M=some (.bl (decide (((ds.length+1:Nat):Int)=n)&&dc (s=s')),M):=by
 erw[Gk,K1];refine EX ((Cu (a:=true) (isV rfl rfl ()) λ_=>Cu (zE (BP rfl zQ) rfl (zH (CM.mpr ⟨rfl,rfl⟩))) λ_=>Cu (a:=true) (isV (zE rfl rfl (A8 zQ (Ca rfl))) rfl ()) λ_=>zE (zE rfl rfl (A8 zQ (Ca rfl))) rfl eqS).trans ?_);rfl
def Qj (m:IsM zA l) (h9:zA.length<=9) (hl9:l<=1000) (hL:KQ zA LL) (wf:∀ (j:Nat) u,M[j]?=some u->MO.und M.length u=true):GV [mD zA,tI R,shT LL,.bl b] M=some (.bl (shB zA l R LL b),M):=by
 erw[GV];calc Dy wf rfl (Ti m h9 hl9 hL wf)
def Ro (m:IsM zA l) (h9:zA.length<=9) (hl9:l<=1000) (sR:IsS zA R) {gL:List D->FF} {lL:Lm} {cs:List D} (hG:∀ S M',IsS zA S->gL cs [tI S] M'=some (.bl (due S),M')) {r:Option (List Int) × List (List (List Int))} (hf:run zA l due 1000 [R] [(R,[])] []=some r) {M:Mem} (wf:∀ (j:Nat) u,M[j]?=some u->MO.und M.length u=true):HG gL lL [mD zA,tI R,.fn lL cs,Aw r] M=some (.bl true,M):=by
 let he:=MY m sR hf;let⟨eS,hL,_⟩:=mK m h9 sR hf;let⟨s1,s2⟩:=he.shown m h9 sR;let hd:=i7 (lL:=lL) hG hL.ok (M:=M);rw[s2]at hd;let hlen:=AI (f:=Av) (as:=r.2);calc zH ?_;erw[HG];rw[Az];erw[LQ,Aw];cases h1:r.1 with
 |none=>
  rw[h1]at s1;rw[eS];generalize r.2.map Av=LL at hL s1 hd;let sl:=Qj (R:=R) (b:=true) m h9 hl9 hL.ok wf;rw[show shB zA l R LL true=true from s1]at sl;let e1:fOp kIx (zC 3) (fC (.int 1)) [some (mD zA),some (tI R),some (.fn lL cs),some (.tup [.str "none", shT LL])] M=some (.dat (shT LL),M):=zE rfl rfl (A8 zQ (Ca (j:=1) rfl));calc C2 (zi (k:=false) (zV (zM rfl (zM rfl (zW rfl))) (NP (n:=3)))) (F6 ((zi (zV (zM rfl (zM rfl (zW rfl))) (NP (n:=2)))).trans (by rw[DZ rfl];rfl)) ?_);exact zc (Cu (zV (zM rfl (zM rfl (zM e1 (zW rfl)))) sl) λ_=>NN (zV (zM e1 (zW rfl)) hd)) ⟨rfl,rfl⟩
 |some w=>
  let⟨w1,w2,w3⟩:=he.word h1;let hwl:=JU 1000 hf;simp only[DV]at hwl;rw[h1]at s1;rw[eS];generalize r.2.map Av=LL at hL s1 hd hlen;let sl:=Qj (R:=R) (b:=false) m h9 hl9 hL.ok wf;rw[show shB zA l R LL false=true from s1]at sl;let ew:IL gL lL [mD zA,tI R,.fn lL cs,tI w,shT LL] M=some (.bl true,M):=by
   calc zH ?_;erw[IL];rw[Az];erw[MR];let hg:=hG _ M (m.broR w sR w1);rw[w2]at hg;calc C2 (orE ((ntE (zV (zM rfl (zW rfl)) (Tv m (iW ())))).trans (by rw[mL w1];rfl)) (ntE (k:=true) (LC rfl (zV (zM rfl (zM rfl (zW rfl))) (iM m () sR w1 ())) hg))) (C2 (ntE (k:=true) (zV (zM rfl (zM rfl (zM rfl (zW rfl)))) sl)) ?_);refine zc (Cu (zE (BP rfl zQ) (BP rfl zQ) (zH (CM.mpr ⟨rfl,rfl⟩))) λ_=>NN (zV (zM rfl (zW rfl)) hd)) ⟨?_,rfl⟩;rw[AI,AI,Ap ()];rfl
  calc F6 ((zi (zV (zM rfl (zM rfl (zW rfl))) (NP (n:=3)))).trans (by rw[DZ rfl];rfl)) ?_;calc zc (zV (zM rfl (zM rfl (zM rfl (zM (zE rfl rfl (A8 zQ (Ca (j:=1) rfl))) (zW (zE rfl rfl (A8 zQ (Ca (j:=2) rfl)))))))) ew) ⟨rfl,rfl⟩
def XM (m:IsM zA l) (h9:zA.length<=9) (hl9:l<=1000) (sR:IsS zA R) {many:Int} {M:Mem} (wf:∀ (j:Nat) u,M[j]?=some u->MO.und M.length u=true) {r:Option (List Int) × List (List (List Int))} (hf:run zA l (λS=>decide ((S.length:Int)<=many)) 1000 [R] [(R,[])] []=some r):He [mD zA,tI R,.int many,Aw r] M=some (.bl true,M):=by
 erw[He,NY];calc EX (Hd (zM rfl (zW rfl)) (zW rfl) rfl λlm=>Ro m h9 hl9 sR (λS M' _=>J4 Pz) hf wf)
def hZ (m:IsM zA l) (h9:zA.length<=9) (hl9:l<=1000) (sR:IsS zA R) {G:Ye} {M:Mem} (wf:∀ (j:Nat) u,M[j]?=some u->MO.und M.length u=true) {r:Option (List Int) × List (List (List Int))} (hf:run zA l (λS=>inR S G) 1000 [R] [(R,[])] []=some r):Ie [mD zA,tI R,tI G,Aw r] M=some (.bl true,M):=by
 erw[Ie,LU];calc EX (Hd (zM rfl (zW rfl)) (zW rfl) rfl λlm=>Ro m h9 hl9 sR (λS M' s=>J4 (zV (zM rfl (zW rfl)) (Qw (by have:=s.len;omega)))) hf wf)
def SD (m:IsM zA l) (h9:zA.length<=9) (sR:IsS zA R) {w:Ye} (hw:Wd l w) {x:D} {M:Mem} (wf:∀ (j:Nat) u,M[j]?=some u->MO.und M.length u=true) {gd:Option (Mem->Prop)} (hx:∀ Y:Sd,Y[2]?=some (some x)->Am (zC 2) Y M=some (w.map D.int,gd,M)) (hg:Br gd (w.map D.int) M):GB [mD zA,tI R,x] M=some (tI (broR zA R w),M):=by
 erw[GB];calc Dy wf (CJ _) ?_;rw[Az];erw[Lk];rw[zN,CK];calc ⟨_,_,_,hx _ rfl,?_⟩;refine DP (I:=λr Y M'=>M'=M /\ ∃ (y:Option D) (c:Ye) (T:Ye),Y=[some (mD zA),some (tI T),some x,y]/\r=c.map D.int/\(∀ g∈c,0<=g/\g<(l:Int))/\IsS zA T/\broR zA T c=broR zA R w) ?_ ?_ _ _ _ ⟨rfl,_,w,R,rfl,rfl,hw,sR,rfl⟩
 .rintro z r Y M' ⟨rfl,y,c,T,rfl,hc,hgs,sT,e⟩;let⟨z,c',rfl,rfl,rfl⟩:=JK hc;let⟨g0,g1⟩:=hgs z AZ;calc ⟨hg,_,rfl,?_⟩;rw[zu];calc zL (zV (zM rfl (zM rfl (zW rfl))) (Xa m h9 sT g0 g1)) ?_;rw[zY];exact ⟨rfl,_,c',setR zA T z,rfl,rfl,λg h=>hgs g (Aq _ h),m.setR sT g0 g1,e⟩
 .rintro Y M' ⟨rfl,y,c,T,rfl,hc,hgs,sT,e⟩;have:c=[]:=by cases c with|nil=>rfl|cons _ _=>ext hc
  subst this;calc ⟨hg,?_⟩;rw[zT];let e:T=broR zA R w:=e;rw[<-e];calc zc rfl ⟨rfl,[],by simp⟩
def fQ (m:IsM zA l) (h9:zA.length<=9) (hl9:l<=1000) (sR:IsS zA R) {many:Int} {goal told whole:D} (hfit:∀ S M,IsS zA S->Dd [tI S,.int many,goal] M=some (.bl (due S),M)) {upto:Nat} (hu:upto<=1000) (hno:∀ v,Wd l v->v.length<upto->due (broR zA R v)=false) {M:Mem} {q:Nat} (g:Gen M 1 2 q) (hq:q<300000000) :
  OkS (zS (BN (BG (zD (toD (fOp DS (fC (.int 12)) (fB CA (zG (fOp kGt (zC 7) (fC (.int 0))) zO)))) zK)) (gN 8) (zS (AN 9 (Ae [10] (BG (zD (toD (zR zb (zD (toD (zC 0)) (zD (toD (zC 7)) zK)))) zK)) (gN 10) zo (zR zb (zD (toD (zC 0)) (zD (toD (fB zj (zG (fOp kIx (zC 1) (fC (.int 0))) zO))) zK)))))
  (sIf (tst (zR Dd (zD (toD (zR GB (zD (toD (zC 1)) (zD (toD (zC 2)) (zD (toD (zC 9)) zK))))) (zD (toD (zC 4)) (zD (toD (zC 5)) zK))))) (zg (fC (.bl false))) AV))) (zg (fC (.bl true))) [some (.ref 1),some (mD zA),some (tI R),some told,some (.int many),some goal,some whole,some (.int (upto:Nat)),none,none,none] M)
   λo Y M'=>o=.ret (.bl true)/\Nw M M' 1 2 (q+13000):=by
 let l0:=m.l0;rw[zN,CK];let er:fOp DS (fC (.int 12)) (fB CA (zG (fOp kGt (zC 7) (fC (.int 0))) zO)) [some (.ref 1),some (mD zA),some (tI R),some told,some (.int many),some goal,some whole,some (.int (upto:Nat)),none,none,none] M=some (.dat (.int (12*(if decide ((0:Int)<(upto:Nat)) then 1 else 0))),M) :=
  zE rfl ((fB1 (zE (y:=.dat (.int 0)) rfl rfl (zH (Mp.mpr ⟨rfl,rfl⟩)))).trans (zH (J0.mpr ⟨rfl,rfl⟩))) (Iq (by split <;> omega))
 let hn:(0:Int)<=12*(if decide ((0:Int)<(upto:Nat)) then 1 else 0)/\12*(if decide ((0:Int)<(upto:Nat)) then 1 else 0)<=(12:Int)/\((0:Int)<12*(if decide ((0:Int)<(upto:Nat)) then 1 else 0)->0<upto):=by
  by_cases z:(0:Int)<(upto:Nat)
  .rw[Ap z,AD rfl];omega
  .rw[Aa z,AE ()];omega
 generalize (12:Int)*(if decide ((0:Int)<(upto:Nat)) then 1 else 0)=cnt at er hn;calc ⟨_,_,_,DI er hn.1 (),?_⟩;refine F9 (n:=cnt.toNat) (I:=λi Y A=>(∃ y8 y9 ya,Y=[some (.ref 1),some (mD zA),some (tI R),some told,some (.int many),some goal,some whole,some (.int (upto:Nat)),y8,y9,ya])/\Nw M A 1 2 (q+1002*i)) ?_ ?_ _ _ ⟨⟨_,_,_,rfl⟩,Nw.refl g⟩
 .rintro i Y A hi ⟨⟨y8,y9,ya,rfl⟩,nw⟩;refine ⟨_,rfl,?_⟩;let⟨_,A1,e1,⟨t,rfl,t0,t1⟩,nw1,_⟩:=Ku nw.gen (m:=(upto:Nat)) () () ();let⟨n,rfl⟩:=Int.eq_ofNat_of_zero_le t0;rw[zN,zu];let hw:Ok (Ae [10] (BG (zD (toD (zR zb (zD (toD (zC 0)) (zD (toD (zC 7)) zK)))) zK)) (gN 10) zo (zR zb (zD (toD (zC 0)) (zD (toD (fB zj (zG (fOp kIx (zC 1) (fC (.int 0))) zO))) zK))) [some (.ref 1),some (mD zA),some (tI R),some told,some (.int many),some goal,some whole,some (.int (upto:Nat)),some (.int (i:Nat)),y9,ya] A) λx A2=>∃ c:List Int,x=.fl (c.map D.int)/\c.length=n/\Wd l c/\Nw A1 A2 1 2 (q+1002*i+1+n):=by
   calc Ga.mpr ⟨_,_,_,Wo (zV (zM (d:=.ref 1) rfl (zW (d:=.int (upto:Nat)) rfl)) e1) t0 (),by rw[Gy];calc zd (),?_⟩;rw[Bt];refine Ok.mono (JW (n:=n) (I:=λj acc A2=>∃ c:List Int,acc=c.map D.int/\c.length=j/\Wd l c/\Nw A1 A2 1 2 (q+1002*i+1+j)) ?_ ⟨[],rfl,rfl,(λ_ h=>by ext h),Nw.refl nw1.gen⟩) ?_
   .rintro j acc A2 hj ⟨c,rfl,hc,wc,nw2⟩;refine ⟨_,rfl,?_⟩;refine Ea nw2.gen () rfl (MG m rfl) () () λx A3 x0 x1 nw3 _=>?_;rw[zY];refine ⟨c++[x],by rw[Cg];rfl,by simp[hc],λy hy=>?_,nw2.trans nw3⟩;rcases AO.mp hy with z|z
    .exact wc y z
    .rw[AR.mp z];exact ⟨x0,x1⟩
   .rintro ys A2 ⟨c,rfl,hc,wc,nw2⟩;exact ⟨c,rfl,hc,wc,nw2⟩
  calc Ok.mono hw ?_;rintro x A2 ⟨c,rfl,hc,wc,nw2⟩;calc Du ?_;rw[zT];let nw3:=nw2.gen.lst (c.map D.int) (CS _ _);let e3:(A2++[MO.lst (c.map D.int)])[A2.length]?=some (.lst (c.map D.int)):=FR _ _;let ew:=SD (x:=.ref A2.length) m h9 sR wc nw3.gen.wf (λY hσ=>EW (x:=.dat (.ref A2.length)) (by erw[zC];rw[hσ]) (BW e3)) (.inl e3);let hd:=hno c wc ();let ef:=hfit _ (A2++[MO.lst (c.map D.int)]) (m.broR c sR wc);rw[hd]at ef;calc J8 (zi (zV (zM (zV (zM rfl (zM rfl (zW rfl))) ew) (zM rfl (zW rfl))) ef)) ⟨⟨_,_,_,rfl⟩,?_⟩;exact (((nw.trans nw1).trans nw2).trans nw3).mono ()
 .rintro Y A ⟨⟨y8,y9,ya,rfl⟩,nw⟩;rw[zT];calc zc rfl ⟨rfl,nw.mono ()⟩
def QB (acc:List (List (List Int))):(acc.map lvD).all (zh 2)=true:=by
 rw[Aj];intro x hx;let⟨L,_,rfl⟩:=Ak.mp hx;show ((Av L).map tI).all (zh 1)=true;rw[Aj];intro y hy;let⟨S,_,rfl⟩:=Ak.mp hy;calc Gw S
def bZ {acc:List (List (List Int))} {M:Mem}:kTr true 2 (.dat (shD acc)) (.dat (shD acc)) M=some (.dat (.bl false),M):=by
 let e:kTr true 2 (.dat (.tup (acc.map lvD))) (.dat (.tup (acc.map lvD))) M=if (acc.map lvD).all (zh 2)&&(acc.map lvD).all (zh 2) then some (.dat (.bl (nb true (An 3 (.tup (acc.map lvD)) (.tup (acc.map lvD))))),M) else none:=rfl
 show kTr true 2 (.dat (.tup (acc.map lvD))) (.dat (.tup (acc.map lvD))) M=_;rw[e,QB,AD (show (true&&true)=true from rfl),Jb 3 _ (show zh 3 (.tup (acc.map lvD))=true from QB acc)];rfl
def nm (r:Option (List Int) × List (List (List Int))):Str:=match r.1 with|none=> "none" |some _=> "word"
def rl (r:Option (List Int) × List (List (List Int))):Nat:=match r.1 with|none=>2|some _=>3
def K4 (i:Nat) (h:zC i Y M=some (.dat (Aw r),M)):FN M (.dat (Aw r))=some "tuple" /\ fOp kIx (zC i) (fC (.int 0)) Y M=some (.dat (.str (nm r)),M)/\fB zj (zG (zC i) zO) Y M=some (.dat (.int (rl r:Nat)),M)/\fOp kIx (zC i) (fOp DJ (fB zj (zG (zC i) zO)) (fC (.int 1))) Y M=some (.dat (shD r.2),M)/\(∀ w,r.1=some w->fOp kIx (zC i) (fC (.int 1)) Y M=some (.dat (tI w),M))/\(r.1=none->fOp kIx (zC i) (fC (.int 1)) Y M=some (.dat (shD r.2),M)):=by
 revert h;erw[Aw,nm,rl];cases r.1 with
 |none=>
  intro h;exact ⟨rfl,zE h rfl (A8 zQ (Ca rfl)),BP h zQ,zE h (zE (BP h zQ) rfl (zH (RP.mpr ⟨rfl,rfl⟩))) (A8 zQ (Ca rfl)),(λw e=>by ext e),λ_=>zE h rfl (A8 zQ (Ca rfl))⟩
 |some w=>
  intro h;calc ⟨rfl,zE h rfl (A8 zQ (Ca rfl)),BP h zQ,zE h (zE (BP h zQ) rfl (zH (RP.mpr ⟨rfl,rfl⟩))) (A8 zQ (Ca rfl)),(λw e=>by ext e;calc zE h rfl (A8 zQ (Ca rfl))),λe=>by ext e⟩
def J5:dc (nm r = "none")=r.1.isNone/\dc (nm r = "word")=r.1.isSome:=by
 erw[nm];cases r.1 with
 |none=>calc ⟨DZ rfl,GS (show ("none" : Str) ≠ "word" by decide)⟩
 |some w=>calc ⟨GS (show ("word" : Str) ≠ "none" by decide),DZ rfl⟩
def Jm (h:f Y M=some (.dat (tI S),M)):fB zj (zG f zO) Y M=some (.dat (.int (S.length:Nat)),M):=by
 let e:=BP h zQ;rw[AI]at e;calc e
abbrev sL (zA:Ya) (R:Ye) (told:D) (many:Int) (goal whole:D) (y7:Option D):Sd:=[some (.ref 1),some (mD zA),some (tI R),some told,some (.int many),some goal,some whole,y7,none,none,none]
def Ot (m:IsM zA l) (h9:zA.length<=9) (hl9:l<=1000) (sR:IsS zA R) {many:Int} {goal:D} (hfit:∀ S M,IsS zA S->Dd [tI S,.int many,goal] M=some (.bl (due S),M)) {r0:Option (List Int) × List (List (List Int))} (hf:run zA l due 1000 [R] [(R,[])] []=some (Dq zA l R r0 due)) {M:Mem} {q:Nat} (g:Gen M 1 2 q) (hq:q<300000000) :
  Ok (HI [.ref 1,mD zA,tI R,Aw (Dq zA l R r0 due),.int many,goal,shD r0.2] M) λd M'=>d=.bl true/\Nw M M' 1 2 (q+13000):=by
 let he:=MY m sR hf;let hdr:match (Dq zA l R r0 due).1 with|some w=>(Dq zA l R r0 due).2=r0.2.take w.length|none=>(Dq zA l R r0 due).2=r0.2:=by
  erw[Dq];generalize (Ho zA l 1000 [R] [(R,[])]).find? (λp=>due p.1)=o;cases o <;> rfl
 let hlen:(Dq zA l R r0 due).2.length<=1000:=Ar (JU 1000 hf) (by simp);generalize Dq zA l R r0 due=r at he hdr hlen;erw[HI];rw[Az];erw[Mq];let k:=λy7=>K4 3 (Y:=sL zA R (Aw r) many goal (shD r0.2) y7) (M:=M) (r:=r) rfl;show OkS (zS _ _ (sL zA R (Aw r) many goal (shD r0.2) none) M) _;refine C2 (orE (ntE (k:=true) (isV rfl (k none).1 ())) (orE ((zi (zE (k none).2.2.1 rfl (zH (Ih.mpr ⟨rfl,rfl⟩)))).trans (by erw[rl];cases r.1 <;> rfl)) ((zi (zE (k none).2.1 (zE (Mt (ds:=[.str "none", .str "word"]) (zM rfl (zW rfl)) (by simp)) ((fB1 (zE (k none).2.2.1 rfl (zH (CM.mpr ⟨rfl,rfl⟩)))).trans (zH (J0.mpr ⟨rfl,rfl⟩))) (A8 (d:=.str (nm r)) F5 (by erw[rl,nm];cases r.1 <;> rfl))) neS)).trans (by rw[DZ rfl];rfl)))) ?_;calc CT (d:=.int 31) rfl ?_;rw[zN];refine OkS.mono (P:=λo Y A=>o=.nx/\M=A /\ ∃ upto:Nat,Y=sL zA R (Aw r) many goal (shD r0.2) (some (.int (upto:Nat)))/\upto<=1000 /\ ∀ v,Wd l v->v.length<upto->due (broR zA R v)=false) ?_ ?_
 .show OkS (sIf _ _ _ (sL zA R (Aw r) many goal (shD r0.2) (some (.int 31))) M) _;let et:=zi (zE (k (some (.int 31))).2.1 (g:=fC (.str "word")) rfl eqS);rw[J5.2]at et;cases h1:r.1 with
  |none=>
   rw[h1]at et;refine J8 et ⟨rfl,rfl,31,rfl,(),λv wv hv=>?_⟩;cases hdv:due (broR zA R v) with
   |false=>rfl
   |true=>
    let⟨w',e',_⟩:=he.least wv hdv;rw[h1]at e';ext e'
  |some w=>
   rw[h1]at et;let⟨w1,w2,w3⟩:=he.word h1;calc eB et (CT (Jm ((k _).2.2.2.2.1 w h1)) ?_);let ewk:=SD (x:=tI w) m h9 sR w1 g.wf (gd:=none) (λY hσ=>Ik (xs:=w.map D.int) (by erw[zC];rw[hσ];rfl)) trivial;let ef:=hfit _ M (m.broR w sR w1);rw[w2]at ef;refine J8 (ntE (k:=true) (zV (zM (zV (zM rfl (zM rfl (zW ((k (some (.int (w.length:Nat)))).2.2.2.2.1 w h1)))) ewk) (zM rfl (zW rfl))) ef)) ⟨rfl,rfl,w.length,rfl,(),λv wv hv=>?_⟩;cases hdv:due (broR zA R v) with
   |false=>rfl
   |true=>
    let⟨w',e',hl'⟩:=he.least wv hdv;rw[h1]at e';ext e';omega
 rintro o Y A ⟨rfl,rfl,upto,rfl,hu,hno⟩;rw[zT];let k:=k (some (.int (upto:Nat)));let e0:=zE k.2.1 (g:=fC (.str "none")) rfl eqS;rw[J5.1]at e0;let esl:fSl (zC 6) D3 (Dw (fOp kIx (BK (zD (toD (fB zj (zG (fOp kIx (zC 3) (fC (.int 1))) zO))) (zD (toD (fB zj (zG (zC 6) zO))) zK))) (fB CA (zG (fOp kEq (fOp kIx (zC 3) (fC (.int 0))) (fC (.str "none"))) zO)))) (sL zA R (Aw r) many goal (shD r0.2) (some (.int (upto:Nat)))) M=some (.dat (shD r.2),M):=by
  cases h1:r.1 with
  |some w=>
   rw[h1]at hdr e0;let hdr:r.2=r0.2.take w.length:=hdr;calc (slT (f:=zC 6) (xs:=r0.2.map lvD) rfl (oT (zE (Mt (zM (Jm (k.2.2.2.2.1 w h1)) (zW (BP rfl zQ))) (by simp)) ((fB1 e0).trans (zH (J0.mpr ⟨rfl,rfl⟩))) (A8 F5 rfl)))).trans ?_;have:=(he.word h1).2.2;rw[Om (by rw[AI];have:=Bo List.length hdr;rw[Bp]at this;omega),<-List.map_take,<-hdr];rfl
  |none=>
   rw[h1]at hdr e0;let hdr:r.2=r0.2:=hdr;calc (slT rfl (oT (zE (Mt (zM (BP (k.2.2.2.2.2 h1) zQ) (zW (BP rfl zQ))) (by simp)) ((fB1 e0).trans (zH (J0.mpr ⟨rfl,rfl⟩))) (A8 F5 rfl)))).trans ?_;rw[Om (AF _),List.take_length,<-hdr];rfl
 calc C2 ((zi (zE k.2.2.2.1 esl bZ)).trans rfl) ?_;calc OkS.mono (fQ m h9 hl9 sR hfit hu hno g hq) ?_;rintro o Y M' ⟨rfl,nw⟩;calc ⟨rfl,nw⟩
def RQ {r0:Option (List Int) × List (List (List Int))} (hr:run zA l (λ_=>false) 1000 [R] [(R,[])] []=some r0):run zA l due 1000 [R] [(R,[])] []=some (Dq zA l R r0 due):=RU 1000 (λs hs=>by rw[AR.mp hs];rfl) hr
def Ahd (zA:Ya) (l:Nat) (R:Ye) (ms:Ye) (d:D):Prop:=d=.non \/ ∃ r mm,d=Aw r/\End zA l R (λS=>decide ((S.length:Int)<=mm)) r /\ ∀ x∈ms,x<=mm
def YS (ha:Ahd zA l R (many::ms) d) (he:End zA l R (λS=>decide ((S.length:Int)<=many)) r) (h6:zC 6 Y M=some (.dat d,M)) (h8:zC 8 Y M=some (.dat (Aw r),M)) :
  Bw (tst (fOp (kIs true) (zC 6) (fC .non))) (Bw (tst (fOp kEq (fOp kIx (zC 6) (fC (.int 0))) (fC (.str "none")))) (tst (fOp kEq (fOp kIx (zC 8) (fC (.int 0))) (fC (.str "word"))))) Y M=some (false,M) /\
  Bw (tst (fOp (kIs true) (zC 6) (fC .non))) (Bw (tst (fOp kEq (fOp kIx (zC 8) (fC (.int 0))) (fC (.str "word")))) (tst (fOp kLt (fB zj (zG (fOp kIx (zC 8) (fC (.int 1))) zO)) (fB zj (zG (fOp kIx (zC 6) (fC (.int 1))) zO))))) Y M=some (false,M):=by
 rcases ha with rfl|⟨r',mm,rfl,he',hms⟩
 .have e1:tst (fOp (kIs true) (zC 6) (fC .non)) Y M=some (false,M):=zi (zE h6 rfl rfl);exact ⟨Hb e1,Hb e1⟩
 .have e1:tst (fOp (kIs true) (zC 6) (fC .non)) Y M=some (true,M):=zi (zE h6 rfl (by erw[Aw];cases r'.1 <;> rfl));let k6:=K4 6 h6;let k8:=K4 8 h8;let e6:=zi (zE k6.2.1 (g:=fC (.str "none")) rfl eqS);let e8:=zi (zE k8.2.1 (g:=fC (.str "word")) rfl eqS);rw[J5.1]at e6;rw[J5.2]at e8;cases h1:r.1 with
  |none=>
   rw[h1]at e8;calc ⟨GX e1 ?_,GX e1 (Hb e8)⟩;cases hb:r'.1.isNone with
   |true=>rw[hb]at e6;calc GX e6 e8
   |false=>rw[hb]at e6;calc Hb e6
  |some w=>
   rw[h1]at e8;let⟨w1,w2,_⟩:=he.word h1;let hx:=hms many AZ;let w2:=CZ w2;let⟨w',h1',hl⟩:=he'.least w1 (Ap ());rw[h1']at e6;calc ⟨GX e1 (Hb e6),GX e1 (GX e8 ((zi (zE (Jm (k8.2.2.2.2.1 w h1)) (Jm (k6.2.2.2.2.1 w' h1')) (zH (Ih.mpr ⟨rfl,rfl⟩)))).trans (by rw[Aa ()])))⟩
def P9 {f:FE} {Y:Sd} {M:Mem} (h:f Y M=some (.dat (.bl true),M)):tst (fOp (kIs true) f (fC (.bl true))) Y M=some (false,M):=zi (zE h rfl rfl)
def WL {Y:Sd} {M:Mem} {f:FE} {j:Nat} (e:f Y M=some (.dat (.int (j:Nat)),M)) (h:j<=1000):IC (zD (toD f) (zD (toD (fC (.int 0))) (zD (toD (Eo (fC (.int 1)))) zK))) Y M=some ((((List.range j).map λk=>(j:Int)-(k:Nat)).map D.int),none,M):=by
 erw[IC];rw[zM e (zM rfl (zW rfl))];dsimp only;rw[AD ⟨rfl,(),(),(),()⟩,BH];congr 3
end
def Zv (ns:Ye) (h:ns.length<=63):∃ M',Fg [.ref 0] [.fro (ns.map D.int)]=some (.bl true,M'):=by
 suffices hh:Ok (Fg [.ref 0] [.fro (ns.map D.int)]) λd _=>d=.bl true by
  let⟨d,M',e,rfl⟩:=hh;exact ⟨M',e⟩
 erw[Fg];rw[Az];erw[LA];show OkS (zS _ _ [some (.ref 0),none,none,none,none,none,none,none,none,none] [.fro (ns.map D.int)]) _;rw[zN,zu];calc Fu.mpr (zL (zW (d:=.ref 0) rfl) ?_);calc Ok.mono (fF h) ?_;rintro d M1 ⟨rfl,gen1,_⟩;rw[zY,zT];show OkS (zS _ _ [some (.ref 0),some (.ref 1),none,none,none,none,none,none,none,none] M1) _;rw[zN,CK];calc ⟨_,_,_,DI (j:=2) rfl () (),?_⟩;refine F9 (n:=2) (I:=λi Y M=>(∃ y2 y3 y4 y5 y6 y7 y8 y9,Y=[some (.ref 0),some (.ref 1),y2,y3,y4,y5,y6,y7,y8,y9])/\Gen M 1 2 (1000000*i)) ?_ ?_ _ _ ⟨⟨_,_,_,_,_,_,_,_,rfl⟩,gen1⟩
 .rintro i Y M hi ⟨⟨y2,y3,y4,y5,y6,y7,y8,y9,rfl⟩,gen⟩;refine ⟨_,rfl,?_⟩;show OkS (zS _ _ [some (.ref 0),some (.ref 1),some (.int (i:Nat)),y3,y4,y5,y6,y7,y8,y9] M) _;rw[zN,zu];refine Fu.mpr (zL (zM (d:=.ref 1) rfl (zM (d:=.int 9) rfl (zW (d:=.int 4) rfl))) ?_);refine Ok.mono (bT gen () () () () ()) ?_;rintro d A2 ⟨⟨zA,l,rfl,m,hr,hl⟩,nw2,_⟩;rw[zY,zT];let h9:zA.length<=9:=()
  let hl9:l<=1000:=()
  let r0p:=m.r0;show OkS (zS _ _ [some (.ref 0),some (.ref 1),some (.int (i:Nat)),some (mD zA),y4,y5,y6,y7,y8,y9] A2) _;rw[zN,zu];refine Fu.mpr (zL (zM (d:=.ref 1) rfl (zW (JC rfl))) ?_);refine Ok.mono (R4 nw2.gen () () ()) ?_;rintro d A3 ⟨⟨R,rfl,sp,s0,sm⟩,nw3,_⟩;let sR:IsS zA R:=⟨sp,s0,sm⟩;let hRl:=sR.len;rw[zY,zT];show OkS (zS _ _ [some (.ref 0),some (.ref 1),some (.int (i:Nat)),some (mD zA),some (tI R),y5,y6,y7,y8,y9] A3) _;let⟨r0,hr0,_⟩:=lB m h9 sR;refine CT (zV (zM (d:=mD zA) rfl (zW (d:=tI R) rfl)) (hU m h9 hl9 sR hr0)) ?_;refine CT (d:=.non) rfl ?_;show OkS (zS _ _ [some (.ref 0),some (.ref 1),some (.int (i:Nat)),some (mD zA),some (tI R),some (shD r0.2),some .non,y7,y8,y9] A3) _;let gen3:=nw3.gen;rw[zN,CK];let eR:fOp Bz (fB zj (zG (zC 4) zO)) (fC (.int 1)) [some (.ref 0),some (.ref 1),some (.int (i:Nat)),some (mD zA),some (tI R),some (shD r0.2),some .non,y7,y8,y9] A3=some (.dat (.int ((R.length+1:Nat):Int)),A3):=by
   let e:=BP (f:=zC 4) (Y:=[some (.ref 0),some (.ref 1),some (.int (i:Nat)),some (mD zA),some (tI R),some (shD r0.2),some .non,y7,y8,y9]) (M:=A3) (x:=.dat (tI R)) rfl zQ;rw[AI]at e;exact zE e rfl (zH (KL.mpr ⟨rfl,rfl⟩))
  calc ⟨_,_,_,WL eR (),?_⟩;refine DP (I:=λr Y A=>∃ (ms:Ye) (d6:D) (y7 y8:Option D),r=ms.map D.int/\ms.length<=20/\ms.Pairwise (λa b=>b<=a)/\Y=[some (.ref 0),some (.ref 1),some (.int (i:Nat)),some (mD zA),some (tI R),some (shD r0.2),some d6,y7,y8,y9]/\Nw A3 A 1 2 (1000000*i+3000+13000*(20-ms.length))/\Ahd zA l R ms d6) ?_ ?_ _ _ _ ⟨_,.non,_,_,rfl,by simp;omega,?_,rfl,(Nw.refl gen3).mono (),.inl rfl⟩
  .rintro x r Y A ⟨ms,d6,y7,y8,hms,hlm,hpw,rfl,nw,hah⟩;let⟨many,ms,rfl,rfl,rfl⟩:=JK hms;rw[B4]at hlm nw;rw[CV]at hpw;calc ⟨zq,_,rfl,?_⟩;show OkS (zS _ _ [some (.ref 0),some (.ref 1),some (.int (i:Nat)),some (mD zA),some (tI R),some (shD r0.2),some d6,some (.int many),y8,y9] A) _;let hf:=RQ (due:=λS=>decide ((S.length:Int)<=many)) hr0;calc CT (zV (zM (d:=mD zA) rfl (zM (d:=tI R) rfl (zW (d:=.int many) rfl))) (VO m h9 hl9 sR hf)) ?_;let⟨_,A4,e4,rfl,nw4⟩:=Ot (due:=λS=>decide ((S.length:Int)<=many)) (many:=many) (goal:=.non) m h9 hl9 sR (λS M _=>Vx) hf nw.gen ();let he:=MY m sR hf;generalize Dq zA l R r0 (λS=>decide ((S.length:Int)<=many))=rr at hf he e4;show OkS (zS _ _ [some (.ref 0),some (.ref 1),some (.int (i:Nat)),some (mD zA),some (tI R),some (shD r0.2),some d6,some (.int many),some (Aw rr),y9] A) _;rw[zN,BJ];calc zL (JD (zV (zM (d:=.ref 1) rfl (zM (d:=mD zA) rfl (zM (d:=tI R) rfl (zM (d:=Aw rr) rfl (zM (d:=.int many) rfl (zM (d:=.non) rfl (zW (d:=shD r0.2) rfl))))))) e4)) ?_;rw[AE (),BU,zT];let es:=XM m h9 hl9 sR (many:=many) nw4.gen.wf hf;calc C2 (P9 (zV (zM (d:=mD zA) rfl (zM (d:=tI R) rfl (zM (d:=.int many) rfl (zW (d:=Aw rr) rfl)))) es)) ?_;let⟨k1,k2⟩:=YS (Y:=[some (.ref 0),some (.ref 1),some (.int (i:Nat)),some (mD zA),some (tI R),some (shD r0.2),some d6,some (.int many),some (Aw rr),y9]) (M:=A4) hah he rfl rfl;calc C2 k1 (C2 k2 ?_);rw[zu];calc zL (a:=.dat (Aw rr)) (M:=A4) rfl ?_;rw[zY];exact ⟨ms,Aw rr,_,_,rfl,(),hpw.2,rfl,(nw.trans nw4).mono (),.inr ⟨rr,many,rfl,he,hpw.1⟩⟩
  .rintro Y A ⟨ms,d6,y7,y8,hms,hlm,_,rfl,nw,_⟩;refine ⟨zq,?_⟩;rw[zT,CK];let⟨_,B1,f1,⟨S1,rfl,p1,p2,p3⟩,mw1,_⟩:=R4 nw.gen () r0p ();let⟨_,B2,f2,⟨v,rfl,v0,v1⟩,mw2,_⟩:=Ku mw1.gen (m:=(zA.length:Int)) () () ();let sc:∀ {A:Mem},zD (toD (zC 1)) (zD (toD (fB zj (zG (zC 3) zO))) zK) [some (.ref 0),some (.ref 1),some (.int (i:Nat)),some (mD zA),some (tI R),some (shD r0.2),some d6,y7,y8,y9] A=some ([.ref 1,.int zA.length],A):=λ{A}=>zM (d:=.ref 1) rfl (zW (JC rfl));refine ⟨_,_,_,EW (Qe (ds:=[tI S1,tI [v],tI R]) (aD (zV sc f1) (aD (Qe (aD (zV sc f2) rfl) (by simp)) (aD (d:=tI R) rfl rfl))) (by simp)) zQ,?_⟩;refine DP (I:=λr Y A'=>∃ (gs:Ya) (y8 y9:Option D),r=gs.map tI/\gs.length<=3/\Y=[some (.ref 0),some (.ref 1),some (.int (i:Nat)),some (mD zA),some (tI R),some (shD r0.2),some d6,y7,y8,y9]/\Nw A3 A' 1 2 (1000000*i+300000+13000*(3-gs.length))) ?_ ?_ _ _ _ ⟨[S1,[v],R],_,_,rfl,by simp,rfl,((nw.trans mw1).trans mw2).mono ()⟩
   .rintro x r Y A' ⟨gs,y8,y9,hgs,hlg,rfl,nw'⟩;cases gs with
    |nil=>ext hgs
    |cons G gs=>
     let⟨rfl,rfl⟩:=Cb hgs;rw[B4]at hlg nw';calc ⟨zq,_,rfl,?_⟩;show OkS (zS _ _ [some (.ref 0),some (.ref 1),some (.int (i:Nat)),some (mD zA),some (tI R),some (shD r0.2),some d6,y7,y8,some (tI G)] A') _;let hf:=RQ (due:=λS=>inR S G) hr0;calc CT (zV (zM (d:=mD zA) rfl (zM (d:=tI R) rfl (zW (d:=tI G) rfl))) (Zw m h9 hl9 sR hf)) ?_;let⟨_,A4,e4,rfl,nw4⟩:=Ot (due:=λS=>inR S G) (many:=0) (goal:=tI G) m h9 hl9 sR (λS M s=>cD (by have:=s.len;omega)) hf nw'.gen ();generalize Dq zA l R r0 (λS=>inR S G)=rr at hf e4;show OkS (zS _ _ [some (.ref 0),some (.ref 1),some (.int (i:Nat)),some (mD zA),some (tI R),some (shD r0.2),some d6,y7,some (Aw rr),some (tI G)] A') _;rw[zN,BJ];calc zL (JD (zV (zM (d:=.ref 1) rfl (zM (d:=mD zA) rfl (zM rfl (zM rfl (zM rfl (zM rfl (zW rfl))))))) e4)) ?_;rw[AE (),BU,zT];let es:=hZ m h9 hl9 sR nw4.gen.wf hf;refine J8 (P9 (zV (zM rfl (zM rfl (zM rfl (zW rfl)))) es)) ⟨gs,_,_,rfl,(),rfl,(nw'.trans nw4).mono ()⟩
   .rintro Y A' ⟨gs,y8,y9,hgs,hlg,rfl,nw'⟩;exact ⟨zq,⟨_,_,_,_,_,_,_,_,rfl⟩,nw'.gen.mono ()⟩
  .rw[List.pairwise_map];exact List.Pairwise.imp (λ{a b} h=>()) List.pairwise_lt_range
 .rintro Y M ⟨⟨y2,y3,y4,y5,y6,y7,y8,y9,rfl⟩,gen⟩;rw[zT];calc zc rfl rfl
end Lae
set_option maxHeartbeats 4000000
namespace Lae
open L2 L3 Law
open Lac (Ci DH)
-- the text by places
def top (i:Nat):Stmt:=PySem.Challenge.pw_bringhome_k18_whole_told_is_shown.main.body.getD i (.Pass ⟨0,0,0,0⟩)
abbrev Kr:Stmt:=top 1
abbrev Lf:Stmt:=top 2
abbrev Mu:Stmt:=top 3
abbrev LV:Stmt:=top 4
abbrev LZ:Stmt:=top 5
abbrev Ll:Stmt:=top 6
abbrev Kv:Stmt:=top 8
abbrev Lh:Stmt:=top 9
abbrev K7:Stmt:=top 10
abbrev Me:Stmt:=top 12
abbrev NL:Stmt:=top 13
abbrev Iv:Stmt:=top 14
abbrev HV:Stmt:=top 15
abbrev Hq:Stmt:=top 16
abbrev NW:Stmt:=top 18
abbrev NB:Stmt:=top 19
abbrev LW:Stmt:=top 20
abbrev Nf:Stmt:=top 21
abbrev K0:Stmt:=top 22
abbrev Nh:Stmt:=top 23
abbrev Nk:Stmt:=top 24
abbrev MT:Stmt:=top 25
abbrev IZ:Stmt:=top 26
abbrev Hj:Stmt:=top 27
abbrev NZ:Stmt:=top 29
abbrev MA:Stmt:=top 30
abbrev LD:Stmt:=top 31
abbrev NI:Stmt:=top 32
abbrev LF:Stmt:=top 33
abbrev MU:Stmt:=top 34
abbrev Ld:Stmt:=top 35
abbrev LB:Stmt:=top 36
abbrev Ko:Stmt:=top 37
abbrev LN:Stmt:=top 38
abbrev Lp:Stmt:=top 39
structure Txt (K:Yb) (mg:Yh) where
  kA:Df K mg "is_whole" Kr ["thing"]
  kB:Df K mg "is_below" Lf ["thing", "many"]
  kC:Df K mg "is_tuple_below" Mu ["thing", "many"]
  kD:Df K mg "is_word" LV ["machine", "thing"]
  kE:Df K mg "is_set" LZ ["machine", "thing"]
  kF:Df K mg "is_within" Ll ["rooms", "goal"]
  kG:Df K mg "stepped" Kv ["machine", "rooms", "letter"]
  kJ:Df K mg "walked" Lh ["machine", "rooms", "word"]
  kK:Df K mg "brought" K7 ["machine", "rooms", "word"]
  kL:Df K mg "next_level" Me ["machine", "level", "seen"]
  kM:Df K mg "searched" NL ["machine", "rooms", "is_due"]
  kN:Df K mg "levels" Iv ["machine", "rooms"]
  kO:Df K mg "least_word" HV ["machine", "rooms", "many"]
  kP:Df K mg "word_into" Hq ["machine", "rooms", "goal"]
  kQ:Df K mg "is_level" NW ["machine", "thing"]
  kR:Df K mg "first_places" NB ["shown"]
  kS:Df K mg "stays" LW ["machine", "some", "places", "last"]
  kU:Df K mg "shows_levels" Nf ["machine", "rooms", "shown", "closed"]
  kW:Df K mg "begins" K0 ["told", "word", "many"]
  kX:Df K mg "has_due" Nh ["shown", "is_due"]
  kY:Df K mg "shows_word" Nk ["machine", "rooms", "is_due", "word", "shown"]
  kZ:Df K mg "shows_search" MT ["machine", "rooms", "is_due", "told"]
  kAA:Df K mg "shows_least" IZ ["machine", "rooms", "many", "told"]
  kAB:Df K mg "shows_into" Hj ["machine", "rooms", "goal", "told"]
  kAC:Df K mg "_law_begin" NZ ["_law_script"]
  kAD:Df K mg "_law_next" MA ["_law_state", "_law_many"]
  kAE:Df K mg "_law_exchanged" LD ["_law_rows", "_law_joins"]
  kAF:Df K mg "_law_goal" NI ["_law_rows", "_law_room", "_law_letter", "_law_style"]
  kAG:Df K mg "_law_machine" LF ["_law_state", "_law_most", "_law_upto"]
  kAH:Df K mg "_law_set" MU ["_law_state", "_law_rooms"]
  kAI:Df K mg "_law_step" Ld ["_law_machine_here", "_law_rooms", "_law_letter"]
  kAJ:Df K mg "_law_walk" LB ["_law_machine_here", "_law_rooms", "_law_word"]
  kAK:Df K mg "_law_fits" Ko ["_law_found", "_law_many", "_law_goal_set"]
  kAL:Df K mg "_law_true" LN ["_law_state_here", "_law_machine_here_here", "_law_rooms_here", "_law_told", "_law_many_here", "_law_goal_here", "_law_whole"]
  kAM:Df K mg "law" Lp ["_law_script_here"]
  kAN:mg "isinstance" = none
  kAO:mg "int" = none
  kAP:mg "bool" = none
  kAQ:mg "tuple" = none
  kAR:mg "all" = none
  kAS:mg "len" = none
  kAT:mg "zip" = none
  kAU:mg "sorted" = none
  kAV:mg "range" = none
  kAW:mg "enumerate" = none
  kAX:mg "str" = none
  kAY:mg "any" = none
  kAZ:mg "list" = none
  tc_levels:Addr
  tp_levels:Addr
  t_levels:PySem.W.tabIn K "levels" = some (tc_levels,tp_levels)
  h_levels:PySem.W.codeHdIn K tc_levels tp_levels=true
  c_levels:kN.fd.code=.ref tc_levels
  tc_least_word:Addr
  tp_least_word:Addr
  t_least_word:PySem.W.tabIn K "least_word" = some (tc_least_word,tp_least_word)
  h_least_word:PySem.W.codeHdIn K tc_least_word tp_least_word=true
  c_least_word:kO.fd.code=.ref tc_least_word
  tc_word_into:Addr
  tp_word_into:Addr
  t_word_into:PySem.W.tabIn K "word_into" = some (tc_word_into,tp_word_into)
  h_word_into:PySem.W.codeHdIn K tc_word_into tp_word_into=true
  c_word_into:kP.fd.code=.ref tc_word_into
  tc_shows_least:Addr
  tp_shows_least:Addr
  t_shows_least:PySem.W.tabIn K "shows_least" = some (tc_shows_least,tp_shows_least)
  h_shows_least:PySem.W.codeHdIn K tc_shows_least tp_shows_least=true
  c_shows_least:kAA.fd.code=.ref tc_shows_least
  tc_shows_into:Addr
  tp_shows_into:Addr
  t_shows_into:PySem.W.tabIn K "shows_into" = some (tc_shows_into,tp_shows_into)
  h_shows_into:PySem.W.codeHdIn K tc_shows_into tp_shows_into=true
  c_shows_into:kAB.fd.code=.ref tc_shows_into
  kinds:Kinds K
section
variable {P:Ym} {w:Yo} {K:Yb} {mg:Yh} {base:Heap}
def Gh {X:Cx} {scope sc:Y0} {own:Yj} {N ps:Yk} (_:FnScope N ps sc) (hk:scope.kind=.function) (hs:X.env.scope=sc) (hN:X.N=N) (h1:Ji sc scope=true) (h2:KS N scope own=true):CompIn X scope own:=SN hk hs hN h1 h2
def mC {X:Cx} {scope sc sd:Y0} {own:Yj} {N ps:Yk} (_:FnScope N ps sd) (hk:scope.kind=.function) (hs:X.env.scope=sc) (hN:X.N=N) (h1:Ji sc scope=true) (h2:KS N scope own=true):CompIn X scope own:=SN hk hs hN h1 h2
set_option hygiene false in
local macro_rules | `(tactic| decreasing_trivial)=> `(tactic| repeat' first
  |calc Be (pv _)
  |calc Ai ?_
  |calc Fz ?_ ?_ (zF rfl)
  |calc zv ?_
  |calc OH
  |calc Fb
  |calc HA ?_
  |calc X0 ?_ ?_
  |calc DE
  |calc MV
  |calc Nm ?_ ?_ (zF rfl)
  |calc G6 ?_
  |calc Qd ?_ ?_
  |calc Nc (by first|exact i9 T|exact Vf T|exact Ug T|exact aN T|exact Wm T|exact lR T|exact VD T hL|exact Zt T|exact Uy T|exact We T|exact Wt T|exact cW T|exact lO T|exact Tr T|exact S3 T|exact WG T|exact i8 T|exact W7 T|exact Xf T|exact Xb T|exact YN T|exact lX T|exact WO T|exact Tw T hL|exact UE T|exact V6 T|exact aH T|exact cE T|exact lV T|exact Vi T|calc U5 T) (hr.mono ()) rfl ?_ ?_ () (zF rfl) (Cc rfl)
  |calc eI sc.nd rfl
  |calc fZ
  |calc lC ?_ ?_ ?_
  |calc Ma rfl T.kAS ?_ (zF rfl) rfl
  |calc Sr
  |calc Ow
  |calc YA
  |calc VI hr.units0 ?_ ?_
  |calc fX ?_
  |calc Qr Wa PassesOwn.never rfl ?_ ?_ ?_
  |calc Y5 rfl T.kAV ?_ ?_ (MK rfl)
  |calc aW ?_ ?_
  |calc ZR (HR hr) ?_ ?_
  |calc UX ?_ ?_
  |calc X8 ?_ ?_
  |calc dB ?_
  |calc Xp ?_ ?_
  |calc VX ?_
  |calc VM ?_
  |refine MW (F1 ()) (Gh sc rfl rfl rfl (by decide+kernel) (by decide+kernel)) rfl ?_ ⟨λ_ _ _ _ _=>?_,λ_ _ _ _ _=>?_,λ_ _ _ _ _=>?_⟩
  |calc ZL rfl T.kAQ ?_ (zF rfl) rfl
  |calc bG hr.units0 ?_ ?_
  |calc fG rfl rfl T.kAR ?_ (zF rfl) rfl
  |calc mH (HR hr) ?_ ?_ ?_
  |calc fT ?_
  |calc mG ?_
  |calc bM
  |calc Vs rfl ?_
  |calc JM T.kinds () rfl T.kAN rfl T.kAQ (by rfl) () () ?_ (zF rfl) (zF rfl) (Cc rfl)
  |calc Tt rfl T.kAO ?_ (zF rfl) rfl
  |calc Uc ?_
  |calc cJ ?_ ?_
  |calc aX ?_ ?_
  |calc Wk
  |calc XO ?_
  |calc V7 ?_ ?_
  |calc bY ?_
  |calc jJ ?_ ?_
  |calc dU ?_
  |calc Vm ?_ ?_
  |calc Xv ?_
  |calc Qr (XG (K:=K)) PassesOwn.never rfl ?_ ?_ ?_
  |refine YQ sc.nd rfl (by first|exact Or.inl rfl|calc Or.inr rfl) (by first|exact .inl rfl|calc .inr rfl) rfl (F1 ()) (Gh sc rfl rfl rfl (by decide+kernel) (by decide+kernel)) rfl ?_ ⟨λ_ _ _ _ _=>?_,λ_ _ _ _ _=>?_,λ_ _ _ _ _=>?_⟩
  |calc YU hL (hr.mono ()) rfl ?_ ?_ (by first|exact Or.inl rfl|exact Or.inr (Or.inl rfl)|calc Or.inr (Or.inr rfl)) () () (zF rfl) (Cc rfl)
  |calc fJ
  |calc mO ?_
  |calc gA ?_ ?_ ?_
  |calc jN ?_ ?_
  |calc dZ
  |calc YI rfl T.kAW ?_ (zF rfl) rfl
  |calc VR (HR hr) ?_ ?_
  |calc UI ?_ ?_
  |calc Zy ?_ ?_
  |calc ZP ?_ ?_ ?_
  |calc Mm ?_ ?_
  |calc cZ ?_
  |calc Wf (HR hr) ?_ ?_
  |calc OP ?_ ?_
  |calc JM T.kinds () rfl T.kAN rfl T.kAO (by rfl) () () ?_ (zF rfl) (zF rfl) (Cc rfl)
  |calc JM T.kinds () rfl T.kAN rfl T.kAP (by rfl) () () ?_ (zF rfl) (zF rfl) (Cc rfl)
  |refine W3 (F1 ()) (Gh sc rfl rfl rfl (by decide+kernel) (by decide+kernel)) rfl ?_ ⟨λ_ _ _ _ _=>?_,λ_ _ _ _ _=>?_,λ_ _ _ _ _=>?_⟩
  |calc jG rfl rfl T.kAU ?_ (zF rfl) rfl
  |calc JM T.kinds () rfl T.kAN rfl T.kAX (by rfl) () () ?_ (zF rfl) (zF rfl) (Cc rfl)
  |calc YX rfl T.kAZ ?_ (zF rfl) rfl
  |calc dN ?_ ?_
  |calc Uk ?_ ?_
  |calc jM ?_ ?_ ?_ ?_ ?_ ?_
  |calc Ul ?_ ?_
  |calc Ux ?_ ?_
  |calc T5 ?_ ?_
  |calc Vw rfl T.kAU ?_ (zF rfl) rfl
  |calc Vp ?_ ?_
  |refine cO (Eg λ_ _ _ _=>Bn) (Eg λ_ _ _ _=>Bn) QU Kc ?_ ?_ ?_
  |calc iH (HR hr) ?_ ?_
  |refine MW (F1 ()) (mC sc rfl rfl rfl (by rfl) (by decide+kernel)) rfl ?_ ⟨λ_ _ _ _ _=>?_,λ_ _ _ _ _=>?_,λ_ _ _ _ _=>?_⟩
  |calc bI rfl rfl T.kAQ rfl T.kAV ?_ (zF rfl) rfl (zF rfl) rfl
  |calc ZH ?_
  |calc mW ?_
  |calc Xx rfl rfl T.kAU ?_ (zF rfl) rfl
  |calc ZF _ PassesOwn.never ?_ ?_
  |refine Oz () (F1 ()) (F1 ()) (Gh sc rfl rfl rfl (by decide+kernel) (by decide+kernel)) rfl ?_ ⟨λ_ _ _ _ _=>?_,λ_ _ _ _ _=>?_,λ_ _ _ _ _=>?_,λ_ _ _ _ _=>?_,λ_ _ _ _ _=>?_,λ_ _ _ _ _=>?_,λ_ _ _ _ _ _=>rfl⟩
  |calc dE rfl rfl T.kAY ?_ (zF rfl) rfl
  |calc bK hr.units0 ?_ ?_
  |calc SR ?_ ?_
  |calc WV 2 (Po 2 () hr) ?_ ?_
  |calc jR ?_ ?_
  |calc ZU rfl T.kAT ?_ (Tg rfl rfl) (MK rfl)
  |calc eV ?_ ?_
  |refine MW (Pn (K:=K) () ()) (Gh sc rfl rfl rfl (by decide+kernel) (by decide+kernel)) rfl ?_ ⟨λ_ _ _ _ _=>?_,λ_ _ _ _ _=>?_,λ_ _ _ _ _=>?_⟩
  |calc aO (Po 1 () hr) ?_ ?_
  |calc Ue ?_ ?_ ?_
  |refine Oz () (Pn (K:=K) () ()) (F1 ()) (Gh sc rfl rfl rfl (by decide+kernel) (by decide+kernel)) rfl ?_ ⟨λ_ _ _ _ _=>?_,λ_ _ _ _ _=>?_,λ_ _ _ _ _=>?_,λ_ _ _ _ _=>?_,λ_ _ _ _ _=>?_,λ_ _ _ _ _=>?_,λ_ _ _ _ _ _=>rfl⟩
  |calc TX rfl T.kAV ?_ (zF rfl) (Cc rfl)
  |calc iC sc.nd rfl ?_
  |calc Rf (SR ?_ ?_)
  |calc Rf (OP ?_ ?_)
  |calc Xe ?_)
abbrev XB:List Str:=["thing"]
def nB:FnScope XB ["thing"] (zJ Kr):=by ∎
def Wt (T:Txt K mg):Od P w base 1 T.kA Ij:=by
  erw[Ij];let sc:=nB;exact zw (n:=1) T.kA.F sc rfl (λcdv A outer s H E hr=>by
    erw[Nd];decreasing_trivial)
abbrev UJ:List Str:=["rooms", "goal", "room"]
def aI:FnScope UJ ["rooms", "goal"] (zJ Ll):=by ∎
def OZ (T:Txt K mg):Od P w base 1 T.kF G3:=by
  erw[G3];let sc:=aI;exact EO (zw (n:=2) T.kF.F sc rfl (λcdv A outer s H E hr=>by
    erw[NG];decreasing_trivial))
abbrev eG:List Str:=["machine", "rooms", "letter", "room"]
def cL:FnScope eG ["machine", "rooms", "letter"] (zJ Kv):=by ∎
def Vf (T:Txt K mg):Od P w base 1 T.kG Em:=by
  erw[Em];let sc:=cL;exact EO (zw (n:=3) T.kG.F sc rfl (λcdv A outer s H E hr=>by
    erw[NQ];decreasing_trivial))
abbrev VT:List Str:=["shown", "places", "at", "level", "some"]
def dM:FnScope VT ["shown"] (zJ NB):=by ∎
def Xb (T:Txt K mg):Od P w base 1 T.kR IM:=by
  erw[IM];let sc:=dM;exact zw (n:=1) T.kR.F sc rfl (λcdv A outer s H E hr=>by
    erw[Kn];decreasing_trivial)
abbrev fL:List Str:=["told", "word", "many"]
def f9:FnScope fL ["told", "word", "many"] (zJ K0):=by ∎
def Zt (T:Txt K mg):Od P w base 1 T.kW Gk:=by
  erw[Gk];let sc:=f9;exact zw (n:=3) T.kW.F sc rfl (λcdv A outer s H E hr=>by
    erw[K1];decreasing_trivial)
abbrev XD:List Str:=["_law_script"]
def dS:FnScope XD ["_law_script"] (zJ NZ):=by ∎
def UE (T:Txt K mg):Od P w base 1 T.kAC Ir:=by
  erw[Ir];let sc:=dS;exact zw (n:=1) T.kAC.F sc rfl (λcdv A outer s H E hr=>by
    erw[Ly];decreasing_trivial)
abbrev Ve:List Str:=["_law_state", "_law_many", "_law_cell", "_law_at", "_law_mixed", "_law_digit"]
def Zl:FnScope Ve ["_law_state", "_law_many"] (zJ MA):=by ∎
def i9 (T:Txt K mg):Od P w base 1 T.kAD zb:=by
  erw[zb];let sc:=Zl;exact zw (n:=2) T.kAD.F sc rfl (λcdv A outer s H E hr=>by
    erw[Mv];decreasing_trivial)
abbrev V5:List Str:=["_law_rows", "_law_joins", "_law_letter", "_law_order", "_law_room", "_law_last"]
def iX:FnScope V5 ["_law_rows", "_law_joins"] (zJ LD):=by ∎
def cW (T:Txt K mg):Od P w base 1 T.kAE IT:=by
  erw[IT];let sc:=iX;exact zw (n:=2) T.kAE.F sc rfl (λcdv A outer s H E hr=>by
    erw[NH];decreasing_trivial)
abbrev bO:List Str:=["_law_rows", "_law_room", "_law_letter", "_law_style", "_law_rooms", "_law_cut"]
def dW:FnScope bO ["_law_rows", "_law_room", "_law_letter", "_law_style"] (zJ NI):=by ∎
def lO (T:Txt K mg):Od P w base 1 T.kAF F8:=by
  erw[F8];let sc:=dW;exact zw (n:=4) T.kAF.F sc rfl (λcdv A outer s H E hr=>by
    erw[NV];decreasing_trivial)
abbrev cK:List Str:=["_law_machine_here", "_law_rooms", "_law_letter", "_law_found", "_law_room"]
def Vy:FnScope cK ["_law_machine_here", "_law_rooms", "_law_letter"] (zJ Ld):=by ∎
def Tr (T:Txt K mg):Od P w base 1 T.kAI Ig:=by
  erw[Ig];let sc:=Vy;exact EO (zw (n:=3) T.kAI.F sc rfl (λcdv A outer s H E hr=>by
    erw[KZ];decreasing_trivial))
abbrev Vl:List Str:=["_law_found", "_law_many", "_law_goal_set", "_law_room"]
def cC:FnScope Vl ["_law_found", "_law_many", "_law_goal_set"] (zJ Ko):=by ∎
def Ug (T:Txt K mg):Od P w base 1 T.kAK Dd:=by
  erw[Dd];let sc:=cC;exact EO (zw (n:=3) T.kAK.F sc rfl (λcdv A outer s H E hr=>by
    erw[KP];decreasing_trivial))
abbrev iS:List Str:=["thing", "many"]
def Y7:FnScope iS ["thing", "many"] (zJ Lf):=by ∎
def S3 (T:Txt K mg):Od P w base 2 T.kB Iu:=by
  erw[Iu];let sc:=Y7;exact zw (n:=2) T.kB.F sc rfl (λcdv A outer s H E hr=>by
    erw[LG];decreasing_trivial)
abbrev V4:List Str:=["machine", "rooms", "word", "sets", "letter"]
def Zu:FnScope V4 ["machine", "rooms", "word"] (zJ Lh):=by ∎
def WG (T:Txt K mg):Od P w base 2 T.kJ HS:=by
  erw[HS];let sc:=Zu;exact EO (zw (n:=3) T.kJ.F sc rfl (λcdv A outer s H E hr=>by
    erw[Kh];decreasing_trivial))
abbrev TQ:List Str:=["machine", "level", "seen", "behind", "some", "word", "letter", "goal"]
def WM:FnScope TQ ["machine", "level", "seen"] (zJ Me):=by ∎
def i8 (T:Txt K mg):Od P w base 2 T.kL HJ:=by
  erw[HJ];let sc:=WM;exact zw (n:=3) T.kL.F sc rfl (λcdv A outer s H E hr=>by
    erw[Lw];decreasing_trivial)
abbrev jT:List Str:=["machine", "some", "places", "last", "goals", "letter", "goal"]
def bP:FnScope jT ["machine", "some", "places", "last"] (zJ LW):=by ∎
def YN (T:Txt K mg):Od P w base 2 T.kS GP:=by
  erw[GP];let sc:=bP;exact Hu (zw (n:=4) T.kS.F sc rfl (λcdv A outer s H E hr=>by
    erw[J6];decreasing_trivial))
abbrev To:List Str:=["_law_state", "_law_most", "_law_upto", "_law_rooms", "_law_letters", "_law_style", "_law_rows", "_law_room", "_law_letter", "_law_row"]
def jZ:FnScope To ["_law_state", "_law_most", "_law_upto"] (zJ LF):=by ∎
def V6 (T:Txt K mg):Od P w base 2 T.kAG IY:=by
  erw[IY];let sc:=jZ;exact Hu (zw (n:=3) T.kAG.F sc rfl (λcdv A outer s H E hr=>by
    erw[Ju];decreasing_trivial))
abbrev Sy:List Str:=["_law_state", "_law_rooms", "_law_some", "_law_room"]
def Uu:FnScope Sy ["_law_state", "_law_rooms"] (zJ MU):=by ∎
def Uy (T:Txt K mg):Od P w base 2 T.kAH HP:=by
  erw[HP];let sc:=Uu;exact Hu (zw (n:=2) T.kAH.F sc rfl (λcdv A outer s H E hr=>by
    erw[JL];decreasing_trivial))
abbrev bA:List Str:=["_law_machine_here", "_law_rooms", "_law_word", "_law_letter"]
def mP:FnScope bA ["_law_machine_here", "_law_rooms", "_law_word"] (zJ LB):=by ∎
def aN (T:Txt K mg):Od P w base 2 T.kAJ GB:=by
  erw[GB];let sc:=mP;exact Hu (zw (n:=3) T.kAJ.F sc rfl (λcdv A outer s H E hr=>by
    erw[Lk];decreasing_trivial))
abbrev m3:List Str:=["thing", "many", "part"]
def bU:FnScope m3 ["thing", "many"] (zJ Mu):=by ∎
def Wm (T:Txt K mg):Od P w base 3 T.kC G7:=by
  erw[G7];let sc:=bU;exact zw (n:=2) T.kC.F sc rfl (λcdv A outer s H E hr=>by
    erw[Kk];decreasing_trivial)
abbrev cV:List Str:=["machine", "rooms", "word"]
def lY:FnScope cV ["machine", "rooms", "word"] (zJ K7):=by ∎
def WO (T:Txt K mg):Od P w base 3 T.kK Ib:=by
  erw[Ib];let sc:=lY;exact EO (zw (n:=3) T.kK.F sc rfl (λcdv A outer s H E hr=>by
    erw[Nq];decreasing_trivial))
abbrev UQ:List Str:=["machine", "rooms", "is_due", "seen", "level", "shown", "some", "word"]
def cG:FnScope UQ ["machine", "rooms", "is_due"] (zJ NL):=by ∎
def LM (T:Txt K mg) {gL:List D->FF} {lL:Lm} (hL:LamOk P w K mg base 2 lL 1 gL):Od P w base 3 T.kM (FU gL lL):=by
  erw[FU];let sc:=cG;exact EO (zw (n:=3) T.kM.F sc rfl (λcdv A outer s H E hr=>by
    erw[JS];decreasing_trivial))
abbrev Sw:List Str:=["shown", "is_due", "some", "level"]
def YH:FnScope Sw ["shown", "is_due"] (zJ Nh):=by ∎
def VD (T:Txt K mg) {gL:List D->FF} {lL:Lm} (hL:LamOk P w K mg base 2 lL 1 gL):Od P w base 3 T.kX (HC gL lL):=by
  erw[HC];let sc:=YH;exact zw (n:=2) T.kX.F sc rfl (λcdv A outer s H E hr=>by
    erw[Mw];decreasing_trivial)
abbrev Vj:List Str:=["_law_state_here", "_law_machine_here_here", "_law_rooms_here", "_law_told", "_law_many_here", "_law_goal_here", "_law_whole", "_law_upto_here", "_law_k", "_law_word_here", "_law_letter_here"]
def iJ:FnScope Vj ["_law_state_here", "_law_machine_here_here", "_law_rooms_here", "_law_told", "_law_many_here", "_law_goal_here", "_law_whole"] (zJ LN):=by ∎
def We (T:Txt K mg):Od P w base 3 T.kAL HI:=by
  erw[HI];let sc:=iJ;exact zw (n:=7) T.kAL.F sc rfl (λcdv A outer s H E hr=>by
    erw[Mq];decreasing_trivial)
abbrev XX:List Str:=["machine", "thing"]
def Xn:FnScope XX ["machine", "thing"] (zJ LV):=by ∎
def lX (T:Txt K mg):Od P w base 4 T.kD Hg:=by
  erw[Hg];let sc:=Xn;exact zw (n:=2) T.kD.F sc rfl (λcdv A outer s H E hr=>by
    erw[Ke];decreasing_trivial)
abbrev WY:List Str:=["machine", "thing", "one", "other"]
def iT:FnScope WY ["machine", "thing"] (zJ LZ):=by ∎
def W7 (T:Txt K mg):Od P w base 4 T.kE Ci:=by
  erw[Ci];let sc:=iT;exact zw (n:=2) T.kE.F sc rfl (λcdv A outer s H E hr=>by
    erw[DH];decreasing_trivial)
abbrev WQ:List Str:=["machine", "rooms"]
def YO:FnScope WQ ["machine", "rooms"] (zJ Iv):=by ∎
def Vn (T:Txt K mg) {l:Lm} (h:IW base l Iv []):LamOk P w K mg base 2 l 1 Kd :=
  (Io (k:=0) (N:=["some"]) (ps:=["some"]) h ⟨rfl,rfl,rfl,by decide+kernel,rfl,by decide+kernel,by decide+kernel,by decide+kernel,λ_ _ _ _ _=>Ef λ_=>rfl⟩ (λq cd cl A outer s H hr=>Ai Ow)).mono ()
def aH (T:Txt K mg):Od P w base 4 T.kN Hv:=by
  erw[Hv];exact EO (Iz (n:=2) T.kN.F YO rfl T.c_levels (λA outer s H E hr=>by
    erw[La];calc (HA (G6 (Qd (IF (fs:=[]) (idx:=[]) (λbase' l hA=>LM T (Vn T hA)) (λ_=>rfl) (hr.mono ()) rfl T.kM.m T.kM.F.kp T.kM.b (EK (Ai (Be (pv 0))) (EK (Ai (Be (pv 1))) (Hz (y := "levels") (sc0:=zJ Iv) () T.t_levels rfl T.h_levels rfl (by decide+kernel) Fb rfl rfl (zF rfl)) (zF rfl)) (zF rfl)) (JA (zv (zv DE)) DE rfl) rfl Wy () (zF rfl) (Cc rfl)) OH)))))
abbrev a8:List Str:=["machine", "rooms", "many"]
def Xw:FnScope a8 ["machine", "rooms", "many"] (zJ HV):=by ∎
def bR (T:Txt K mg) {l:Lm} (h:IW base l HV ["many"]):LamOk P w K mg base 2 l 1 Ng :=
  (Io (k:=0) (N:=["some", "many"]) (ps:=["some"]) h ⟨rfl,rfl,rfl,by decide+kernel,rfl,by decide+kernel,by decide+kernel,by decide+kernel,λ_ _ _ _ _=>Ef λ_=>rfl⟩ (λq cd cl A outer s H hr=>Ai (Mm (Ma rfl T.kAS (Nm (Be (pv 0)) MV (zF rfl)) (zF rfl) rfl) (Be (pv 1))))).mono ()
def cE (T:Txt K mg):Od P w base 4 T.kO Hl:=by
  erw[Hl];exact EO (Iz (n:=3) T.kO.F Xw rfl T.c_least_word (λA outer s H E hr=>by
    erw[Mb];calc (HA (G6 (IF (fs:=["many"]) (idx:=[2]) (λbase' l hA=>LM T (bR T hA)) (λ_=>rfl) (hr.mono ()) rfl T.kM.m T.kM.F.kp T.kM.b (EK (Ai (Be (pv 0))) (EK (Ai (Be (pv 1))) (Hz (y := "least_word") (sc0:=zJ HV) () T.t_least_word rfl T.h_least_word rfl (by decide+kernel) Fb rfl rfl (zF rfl)) (zF rfl)) (zF rfl)) (JA (zv (zv DE)) DE rfl) rfl (Jg ⟨rfl,rfl,by decide+kernel⟩) () (zF rfl) (Cc rfl))))))
abbrev UH:List Str:=["machine", "rooms", "goal"]
def Td:FnScope UH ["machine", "rooms", "goal"] (zJ Hq):=by ∎
def bL (T:Txt K mg) {l:Lm} (h:IW base l Hq ["goal"]):LamOk P w K mg base 2 l 1 Kb :=
  (Io (k:=1) (N:=["some", "goal"]) (ps:=["some"]) h ⟨rfl,rfl,rfl,by decide+kernel,rfl,by decide+kernel,by decide+kernel,by decide+kernel,λ_ _ _ _ _=>Ef λ_=>rfl⟩ (λq cd cl A outer s H hr=>Ai (Nc (OZ T) (hr.mono ()) rfl (Fz (Ai (Be (pv 0))) (Fz (Ai (Be (pv 1))) Fb (zF rfl)) (zF rfl)) (zv (zv DE)) () (zF rfl) (Cc rfl)))).mono ()
def Vi (T:Txt K mg):Od P w base 4 T.kP IE:=by
  erw[IE];exact EO (Iz (n:=3) T.kP.F Td rfl T.c_word_into (λA outer s H E hr=>by
    erw[NK];calc (HA (G6 (IF (fs:=["goal"]) (idx:=[2]) (λbase' l hA=>LM T (bL T hA)) (λ_=>rfl) (hr.mono ()) rfl T.kM.m T.kM.F.kp T.kM.b (EK (Ai (Be (pv 0))) (EK (Ai (Be (pv 1))) (Hz (y := "word_into") (sc0:=zJ Hq) () T.t_word_into rfl T.h_word_into rfl (by decide+kernel) Fb rfl rfl (zF rfl)) (zF rfl)) (zF rfl)) (JA (zv (zv DE)) DE rfl) rfl (Jg ⟨rfl,rfl,by decide+kernel⟩) () (zF rfl) (Cc rfl))))))
abbrev WU:List Str:=["machine", "thing", "some"]
def Xc:FnScope WU ["machine", "thing"] (zJ NW):=by ∎
def Xf (T:Txt K mg):Od P w base 5 T.kQ F0:=by
  erw[F0];let sc:=Xc;exact zw (n:=2) T.kQ.F sc rfl (λcdv A outer s H E hr=>by
    erw[Lb];decreasing_trivial)
abbrev gJ:List Str:=["machine", "rooms", "shown", "closed", "level", "places", "asked", "some", "at"]
def U0:FnScope gJ ["machine", "rooms", "shown", "closed"] (zJ Nf):=by ∎
def lR (T:Txt K mg):Od P w base 6 T.kU GV:=by
  erw[GV];let sc:=U0;exact Hu (zw (n:=4) T.kU.F sc rfl (λcdv A outer s H E hr=>by
    erw[Jq];decreasing_trivial))
abbrev lI:List Str:=["machine", "rooms", "is_due", "word", "shown"]
def fO:FnScope lI ["machine", "rooms", "is_due", "word", "shown"] (zJ Nk):=by ∎
def Tw (T:Txt K mg) {gL:List D->FF} {lL:Lm} (hL:LamOk P w K mg base 2 lL 1 gL):Od P w base 7 T.kY (IL gL lL):=by
  erw[IL];let sc:=fO;exact zw (n:=5) T.kY.F sc rfl (λcdv A outer s H E hr=>by
    erw[MR];decreasing_trivial)
abbrev j9:List Str:=["machine", "rooms", "is_due", "told"]
def Xl:FnScope j9 ["machine", "rooms", "is_due", "told"] (zJ MT):=by ∎
def P8 (T:Txt K mg) {gL:List D->FF} {lL:Lm} (hL:LamOk P w K mg base 2 lL 1 gL):Od P w base 8 T.kZ (HG gL lL):=by
  erw[HG];let sc:=Xl;exact zw (n:=4) T.kZ.F sc rfl (λcdv A outer s H E hr=>by
    erw[LQ];decreasing_trivial)
abbrev d7:List Str:=["machine", "rooms", "many", "told"]
def iL:FnScope d7 ["machine", "rooms", "many", "told"] (zJ IZ):=by ∎
def Vr (T:Txt K mg) {l:Lm} (h:IW base l IZ ["many"]):LamOk P w K mg base 2 l 1 N5 :=
  (Io (k:=0) (N:=["some", "many"]) (ps:=["some"]) h ⟨rfl,rfl,rfl,by decide+kernel,rfl,by decide+kernel,by decide+kernel,by decide+kernel,λ_ _ _ _ _=>Ef λ_=>rfl⟩ (λq cd cl A outer s H hr=>Ai (Mm (Ma rfl T.kAS (Nm (Be (pv 0)) MV (zF rfl)) (zF rfl) rfl) (Be (pv 1))))).mono ()
def lV (T:Txt K mg):Od P w base 9 T.kAA He:=by
  erw[He];exact Iz (n:=4) T.kAA.F iL rfl T.c_shows_least (λA outer s H E hr=>by
    erw[NY];calc (HA (G6 (IF (fs:=["many"]) (idx:=[2]) (λbase' l hA=>P8 T (Vr T hA)) (λ_=>rfl) (hr.mono ()) rfl T.kZ.m T.kZ.F.kp T.kZ.b (EK (Ai (Be (pv 0))) (EK (Ai (Be (pv 1))) (Hz (y := "shows_least") (sc0:=zJ IZ) () T.t_shows_least rfl T.h_shows_least rfl (by decide+kernel) (Fz (Ai (Be (pv 3))) Fb (zF rfl)) rfl rfl (zF rfl)) (zF rfl)) (zF rfl)) (JA (zv (zv DE)) (zv DE) rfl) rfl (Jg ⟨rfl,rfl,by decide+kernel⟩) () (zF rfl) (Cc rfl)))))
abbrev UP:List Str:=["machine", "rooms", "goal", "told"]
def Y3:FnScope UP ["machine", "rooms", "goal", "told"] (zJ Hj):=by ∎
def Uj (T:Txt K mg) {l:Lm} (h:IW base l Hj ["goal"]):LamOk P w K mg base 2 l 1 OV :=
  (Io (k:=1) (N:=["some", "goal"]) (ps:=["some"]) h ⟨rfl,rfl,rfl,by decide+kernel,rfl,by decide+kernel,by decide+kernel,by decide+kernel,λ_ _ _ _ _=>Ef λ_=>rfl⟩ (λq cd cl A outer s H hr=>Ai (Nc (OZ T) (hr.mono ()) rfl (Fz (Ai (Be (pv 0))) (Fz (Ai (Be (pv 1))) Fb (zF rfl)) (zF rfl)) (zv (zv DE)) () (zF rfl) (Cc rfl)))).mono ()
def U5 (T:Txt K mg):Od P w base 9 T.kAB Ie:=by
  erw[Ie];exact Iz (n:=4) T.kAB.F Y3 rfl T.c_shows_into (λA outer s H E hr=>by
    erw[LU];calc (HA (G6 (IF (fs:=["goal"]) (idx:=[2]) (λbase' l hA=>P8 T (Uj T hA)) (λ_=>rfl) (hr.mono ()) rfl T.kZ.m T.kZ.F.kp T.kZ.b (EK (Ai (Be (pv 0))) (EK (Ai (Be (pv 1))) (Hz (y := "shows_into") (sc0:=zJ Hj) () T.t_shows_into rfl T.h_shows_into rfl (by decide+kernel) (Fz (Ai (Be (pv 3))) Fb (zF rfl)) rfl rfl (zF rfl)) (zF rfl)) (zF rfl)) (JA (zv (zv DE)) (zv DE) rfl) rfl (Jg ⟨rfl,rfl,by decide+kernel⟩) () (zF rfl) (Cc rfl)))))
abbrev b8:List Str:=["_law_script_here", "_law_state_here", "_law_turn", "_law_machine_here_here", "_law_rooms_here", "_law_whole", "_law_ahead", "_law_many_here", "_law_told", "_law_goal_here"]
def aE:FnScope b8 ["_law_script_here"] (zJ Lp):=by ∎
def XE (T:Txt K mg):Od P w base 10 T.kAM Fg:=by
  erw[Fg];let sc:=aE;exact zw (n:=1) T.kAM.F sc rfl (λcdv A outer s H E hr=>by
    erw[LA];decreasing_trivial)
end
def bD {l:PySem.W.OpenLaw} {w:World} {K:PySem.W.Frag} {h:Heap} {mg:Str->Option Value} {fa:Addr} (X:K.In h) (G:h.Ns mainGlobals mg) (hfa:mg "law" = some (.ref fa))
    {ts:List Addr}(g1:Dg K "is_whole" Kr) (g2:Dg K "is_below" Lf) (g3:Dg K "is_tuple_below" Mu) (g4:Dg K "is_word" LV) (g5:Dg K "is_set" LZ) (g6:Dg K "is_within" Ll) (g7:Dg K "stepped" Kv) (g8:Dg K "walked" Lh) (g9:Dg K "brought" K7) (g10:Dg K "next_level" Me) (g11:Dg K "searched" NL) (g12:Dg K "levels" Iv) (g13:Dg K "least_word" HV) (g14:Dg K "word_into" Hq) (g15:Dg K "is_level" NW) (g16:Dg K "first_places" NB) (g17:Dg K "stays" LW) (g18:Dg K "shows_levels" Nf) (g19:Dg K "begins" K0) (g20:Dg K "has_due" Nh) (g21:Dg K "shows_word" Nk) (g22:Dg K "shows_search" MT) (g23:Dg K "shows_least" IZ) (g24:Dg K "shows_into" Hj) (g25:Dg K "_law_begin" NZ) (g26:Dg K "_law_next" MA) (g27:Dg K "_law_exchanged" LD) (g28:Dg K "_law_goal" NI) (g29:Dg K "_law_machine" LF) (g30:Dg K "_law_set" MU) (g31:Dg K "_law_step" Ld) (g32:Dg K "_law_walk" LB) (g33:Dg K "_law_fits" Ko) (g34:Dg K "_law_true" LN) (g35:Dg K "law" Lp) (z1:Zn K "isinstance") (z2:Zn K "int") (z3:Zn K "bool") (z4:Zn K "tuple") (z5:Zn K "all") (z6:Zn K "len") (z7:Zn K "zip") (z8:Zn K "sorted") (z9:Zn K "range") (z10:Zn K "enumerate") (z11:Zn K "str") (z12:Zn K "any") (z13:Zn K "list") (y1:Ki K "NoneType" "int" false) (y2:Ki K "NoneType" "bool" false) (y3:Ki K "NoneType" "str" false) (y4:Ki K "NoneType" "tuple" false) (y5:Ki K "bool" "int" true) (y6:Ki K "bool" "bool" true) (y7:Ki K "bool" "str" false) (y8:Ki K "bool" "tuple" false) (y9:Ki K "int" "int" true) (y10:Ki K "int" "bool" false) (y11:Ki K "int" "str" false) (y12:Ki K "int" "tuple" false) (y13:Ki K "str" "int" false) (y14:Ki K "str" "bool" false) (y15:Ki K "str" "str" true) (y16:Ki K "str" "tuple" false) (y17:Ki K "list" "int" false) (y18:Ki K "list" "bool" false) (y19:Ki K "list" "str" false) (y20:Ki K "list" "tuple" false) (y21:Ki K "tuple" "int" false) (y22:Ki K "tuple" "bool" false) (y23:Ki K "tuple" "str" false) (y24:Ki K "tuple" "tuple" true) (y25:Ki K "dict" "int" false) (y26:Ki K "dict" "bool" false) (y27:Ki K "dict" "str" false) (y28:Ki K "dict" "tuple" false) (u12:Tb K "levels" g12) (u13:Tb K "least_word" g13) (u14:Tb K "word_into" g14) (u23:Tb K "shows_least" g23) (u24:Tb K "shows_into" g24) (ht:(ts.all (λP=>([("levels", u12.c,u12.P),("least_word", u13.c,u13.P),("word_into", u14.c,u14.P),("shows_least", u23.c,u23.P),("shows_into", u24.c,u24.P)]:List (Str × Addr × Addr)).any (·.2.2==P))&&([("levels", u12.c,u12.P),("least_word", u13.c,u13.P),("word_into", u14.c,u14.P),("shows_least", u23.c,u23.P),("shows_into", u24.c,u24.P)]:List (Str × Addr × Addr)).all (λp=>ts.contains p.2.2))=true) :
    Ay K ts /\ ∃ fd:FuncData,(∀ (s:Shared) (v:Value),BindsTo s fd ⟨[v],[]⟩ [("_law_script_here", v)]) /\ ∀ base:Heap,K.In base->base.Ns mainGlobals mg->FnOk l.prog w K mg base CX0 10 fa fd ["_law_script_here"] (spF K 1 Fg):=by
  let e:=hfa.symm.trans (PySem.W.mg_of X G g35.a);ext e;let kinds:Kinds K:=⟨by
    intro t T ht hT;simp only[AJ,CN,or_false]at ht hT;rcases ht with rfl|rfl|rfl|rfl|rfl|rfl|rfl <;> rcases hT with rfl|rfl|rfl|rfl <;> assumption⟩
  letI T:Txt K mg:=⟨g1.df X G λ_ _ _ _ _ _=>Ef λ_=>rfl,g2.df X G λ_ _ _ _ _ _=>Di λ_ _=>rfl,g3.df X G λ_ _ _ _ _ _=>Di λ_ _=>rfl,g4.df X G λ_ _ _ _ _ _=>Di λ_ _=>rfl,g5.df X G λ_ _ _ _ _ _=>Di λ_ _=>rfl,g6.df X G λ_ _ _ _ _ _=>Di λ_ _=>rfl,g7.df X G λ_ _ _ _ _ _=>DF λ_ _ _=>rfl,g8.df X G λ_ _ _ _ _ _=>DF λ_ _ _=>rfl,g9.df X G λ_ _ _ _ _ _=>DF λ_ _ _=>rfl,g10.df X G λ_ _ _ _ _ _=>DF λ_ _ _=>rfl,g11.df X G λ_ _ _ _ _ _=>DF λ_ _ _=>rfl,g12.df X G λ_ _ _ _ _ _=>Di λ_ _=>rfl,g13.df X G λ_ _ _ _ _ _=>DF λ_ _ _=>rfl,g14.df X G λ_ _ _ _ _ _=>DF λ_ _ _=>rfl,g15.df X G λ_ _ _ _ _ _=>Di λ_ _=>rfl,g16.df X G λ_ _ _ _ _ _=>Ef λ_=>rfl,g17.df X G λ_ _ _ _ _ _=>G0 λ_ _ _ _=>rfl,g18.df X G λ_ _ _ _ _ _=>G0 λ_ _ _ _=>rfl,g19.df X G λ_ _ _ _ _ _=>DF λ_ _ _=>rfl,g20.df X G λ_ _ _ _ _ _=>Di λ_ _=>rfl,g21.df X G λ_ _ _ _ _ _=>TC λ_ _ _ _ _=>rfl,g22.df X G λ_ _ _ _ _ _=>G0 λ_ _ _ _=>rfl,g23.df X G λ_ _ _ _ _ _=>G0 λ_ _ _ _=>rfl,g24.df X G λ_ _ _ _ _ _=>G0 λ_ _ _ _=>rfl,g25.df X G λ_ _ _ _ _ _=>Ef λ_=>rfl,g26.df X G λ_ _ _ _ _ _=>Di λ_ _=>rfl,g27.df X G λ_ _ _ _ _ _=>Di λ_ _=>rfl,g28.df X G λ_ _ _ _ _ _=>G0 λ_ _ _ _=>rfl,g29.df X G λ_ _ _ _ _ _=>DF λ_ _ _=>rfl,g30.df X G λ_ _ _ _ _ _=>Di λ_ _=>rfl,g31.df X G λ_ _ _ _ _ _=>DF λ_ _ _=>rfl,g32.df X G λ_ _ _ _ _ _=>DF λ_ _ _=>rfl,g33.df X G λ_ _ _ _ _ _=>DF λ_ _ _=>rfl,g34.df X G λ_ _ _ _ _ _=>dJ λ_ _ _ _ _ _ _=>rfl,g35.df X G λ_ _ _ _ _ _=>Ef λ_=>rfl,C8 X G z1,C8 X G z2,C8 X G z3,C8 X G z4,C8 X G z5,C8 X G z6,C8 X G z7,C8 X G z8,C8 X G z9,C8 X G z10,C8 X G z11,C8 X G z12,C8 X G z13,u12.c,u12.P,u12.tab,u12.hd,u12.e,u13.c,u13.P,u13.tab,u13.hd,u13.e,u14.c,u14.P,u14.tab,u14.hd,u14.e,u23.c,u23.P,u23.tab,u23.hd,u23.e,u24.c,u24.P,u24.tab,u24.hd,u24.e,kinds⟩;refine ⟨TH [("levels", u12.c,u12.P),("least_word", u13.c,u13.P),("word_into", u14.c,u14.P),("shows_least", u23.c,u23.P),("shows_into", u24.c,u24.P)] (λp hp=>by
    rcases AJ.mp hp with rfl|hp
    .exact ⟨u12.tab,u12.hd⟩
    rcases AJ.mp hp with rfl|hp
    .exact ⟨u13.tab,u13.hd⟩
    rcases AJ.mp hp with rfl|hp
    .exact ⟨u14.tab,u14.hd⟩
    rcases AJ.mp hp with rfl|hp
    .exact ⟨u23.tab,u23.hd⟩
    rcases AJ.mp hp with rfl|hp
    .exact ⟨u24.tab,u24.hd⟩
    ext hp) (λx hx hn=>by
    simp only[GU,AJ,CN,or_false]at hx;rcases hx with rfl|rfl|rfl|rfl|rfl;all_goals first|exact gE (by assumption)|calc absurd (by simp) hn) ht,T.kAM.fd,λs v=> .of_eq rfl,λbase _ _=>?_⟩
  calc XE (P:=l.prog) (w:=w) (base:=base) T
def Tu {l:PySem.W.OpenLaw} {q:Ym} {loose:Yk} {XP:(Str->Option Value)->Heap->Prop} {d:DefRec} {K:Params->PySem.W.Frag} {as:Yg} {ee:∀ P,as=(K P).map (·.1)} {ts:Yg} (hn:l.most=some 63) (hdf:d.params.defaults=[])
    (hL:∀ w:World,Gx (K w.params)=true) (hT:∀ w:World,PySem.W.noTabs (K w.params)=true)
    (F:∀ (w:Yo) (mg:Yh) (fa:Yt) (h:Heap),(K w.params).In h->h.Ns mainGlobals mg->mg d.name=some (.ref fa) ->
      Ay (K w.params) ts /\ ∃ fd:FuncData,(∀ (s:Shared) (u:Value),BindsTo s fd ⟨[u],[]⟩ [("_law_script_here", u)]) /\ ∀ base:Heap,(K w.params).In base->base.Ns mainGlobals mg->FnOk l.prog w (K w.params) mg base CX0 10 fa fd ["_law_script_here"] (spF (K w.params) 1 Fg)) :
    PySem.W.WalkO q loose XP (PySem.W.kmHook K as ee ts).says l.row.toRowW d [] (λf vs=>PySem.call f vs) :=
  Uw (n:=63) (k:=10) (x := "_law_script_here") (m:=Fg) hn () hdf ⟨rfl,(),()⟩ hL hT F Zv
end Lae
end
open PySem PySem.W PyProof.Rows
set_option maxRecDepth 100000 in
set_option maxHeartbeats 0 in
theorem PySem.Challenge.cw_bringhome_k18_whole_told_is_shown_holds : PySem.Challenge.rw_bringhome_k18_whole_told_is_shown.Holds := by
  w_on;o_law;k_head;(case hw=>w_witness2);k_fill;refine Lae.Tu (l:=PySem.Challenge.rw_bringhome_k18_whole_told_is_shown) rfl rfl (λw=>by rfl) (λw=>by rfl) ?F
  case F=>
    intro w mg fa h KX G hmg;apply Lae.bD KX G hmg;all_goals try first|exact ⟨_,by k_is,by k_is,by k_is,by k_is⟩|exact ⟨_,_,rfl,by k_is,by rfl,by rfl⟩|(erw[L3.Zn];k_is)|(erw[L3.Ki];kit_is)|k_is|rfl
    all_goals rfl
